import PyProof.Rows.All
import PySem.Challenge.RW_halfrun_k03_good_programs
import HandS.ForMost
import HandS.ForExc
import HandS.TupMul
import HandS.TupAny
import HandS.TupLe
import HandS.IsInst
import HandS.Wide
import HandS.Flow
import HandS.Dict
import HandS.More
import HandS.AnyAll
import HandS.SetFor
import PyProof.StrOps2
import HandS.Star
import PyProof.GenQ
import PyProof.ConsumeS
import HandS.Words
import HandS.Strs
import HandS.DictComp
import HandS.ExcOwn
import HandS.ExcIs
import HandS.HotCalls
import HandS.Defaults
import HandS.HeadHook4
import HandS.EndTab
import HandS.HeadEnd
import KE.KNestM
import HandS.Head0
import HandS.Head1
import HandS.Head2
import HandS.HeadHook1
import HandS.HeadHook2
import HandS.HeadHook3
set_option Elab.async false
set_option linter.all false
set_option maxRecDepth 100000
set_option maxHeartbeats 0
/-! Hf0: data by value over the abstract heap; what is frozen, what is one's own; environments by slots. -/
namespace Hf
open PySem PySem.Spec PyProof.Rows L2
set_option autoImplicit false

/-- data by value -/
inductive D where
  | non | bl (b : Bool) | int (i : Int) | str (x : Str)
  | tup (xs : List D) | lst (xs : List D)
  | fn (x : Str) | exc (c : Str)
  | dct (ks : List Str) (vs : List D)
  deriving Inhabited

inductive Res (α : Type) where
  | ok (a : α) | exc (c : Str) | fail
def Res.bind {α β : Type} (r : Res α) (f : α → Res β) : Res β := match r with
  | .ok a => f a
  | .exc c => .exc c
  | .fail => .fail
instance : Monad Res where
  pure := .ok
  bind := Res.bind

abbrev Sy := Addr → Prop
def KL (K : PySem.W.Frag) (a : Addr) (xs : List V) : Prop := ∃ (o : Obj) (its : Array Value) (n : Nat), K.lookup a = some o ∧ o.cls = .type "list" ∧ o.dict = none ∧ o.data = .seq its n ∧ its.size ≤ sizeLine ∧ Vals xs its.toList
def KT (K : PySem.W.Frag) (a : Addr) (xs : List V) : Prop := ∃ (o : Obj) (its : Array Value) (n : Nat), K.lookup a = some o ∧ o.cls = .type "tuple" ∧ o.data = .seq its n ∧ its.size ≤ sizeLine ∧ Vals xs its.toList
def FzL (K : PySem.W.Frag) (H : Hp) (S : Sy) (a : Addr) (xs : List V) : Prop := (S a ∧ Rd H a (.lst xs)) ∨ KL K a xs
theorem FzL.sq {K : PySem.W.Frag} {H : Hp} {S : Sy} {a : Addr} {xs : List V} (h : FzL K H S a xs) : SqL K H a xs := h.imp (·.2) id
def FzT (K : PySem.W.Frag) (H : Hp) (S : Sy) (a : Addr) (xs : List V) : Prop := (S a ∧ Rd H a (.tup xs)) ∨ KT K a xs
theorem FzT.sq {K : PySem.W.Frag} {H : Hp} {S : Sy} {a : Addr} {xs : List V} (h : FzT K H S a xs) : SqT K H a xs := h.imp (·.2) id

/-- what a row of keys and values says of a key -/
def lkD {α : Type} : List Str → List α → Str → Option α
  | k :: ks, x :: xs, z => if k = z then some x else lkD ks xs z
  | _, _, _ => none
def kvD (ks : List Str) (xs : List V) : List (Key × V) := (ks.zip xs).map fun p => (Sum.inr p.1, p.2)
/-- a written dict of the module -/
def KD (K : PySem.W.Frag) (w : World) (a : Addr) (ks : List Str) (xs : List V) : Prop := (∃ es n, KDict K w a es n) ∧ ∀ z, match lkD ks xs z with
  | some v => ∃ u, PySem.W.nsIn K a z = some (some u) ∧ RelV v u
  | none => PySem.W.nsIn K a z = some none
def FzD (K : PySem.W.Frag) (w : World) (H : Hp) (S : Sy) (a : Addr) (ks : List Str) (xs : List V) : Prop := (S a ∧ Rd H a (.dK (kvD ks xs))) ∨ KD K w a ks xs
/-- the world that a def runs in, as far as data speak of it -/
structure Gm where
  K : PySem.W.Frag
  mg : Str → Option Value
  w : World
  /-- the exception that is handled: where it lies, its class's name -/
  hx : Option (Addr × Str)
  /-- where the tables of code objects lie, that generator expressions fill -/
  tb : Addr → Prop

inductive Rep (G : Gm) (H : Hp) (S : Sy) : D → V → Prop
  | non : Rep G H S .non .non
  | bl (b : Bool) : Rep G H S (.bl b) (.bl b)
  | int (i : Int) : Rep G H S (.int i) (.int i)
  | str (x : Str) : Rep G H S (.str x) (.str x)
  | lst {a : Addr} {xs : List V} {ds : List D} : FzL G.K H S a xs → Paired (Rep G H S) ds xs → Rep G H S (.lst ds) (.ref a)
  | tup {a : Addr} {xs : List V} {ds : List D} : FzT G.K H S a xs → Paired (Rep G H S) ds xs → Rep G H S (.tup ds) (.ref a)
  | fn {x : Str} {a : Addr} : G.mg x = some (.ref a) → Rep G H S (.fn x) (.ref a)
  | exc {c : Str} {a : Addr} : G.hx = some (a, c) → Rep G H S (.exc c) (.ref a)
  | dct {a : Addr} {ks : List Str} {xs : List V} {ds : List D} : FzD G.K G.w H S a ks xs → Paired (Rep G H S) ds xs → Rep G H S (.dct ks ds) (.ref a)

/-- what was there is there as it was; a table may have grown -/
def SaO (o : HO) (q : Option HO) : Prop := match o with
  | .tbl ps => ∃ ps', q = some (.tbl ps') ∧ (TriplesOk ps.toList → TriplesOk ps'.toList)
  | o => q = some o
def SameT (H H' : Hp) : Prop := ∀ a o, H a = some o → SaO o (H' a)
theorem SaO.ex {o : HO} {q : Option HO} (h : SaO o q) : ∃ o', q = some o' := by
  cases o <;> first | exact ⟨_, h⟩ | exact h.elim fun _ z => ⟨_, z.1⟩
theorem SaO.self (o : HO) : SaO o (some o) := by
  cases o <;> first | rfl | exact ⟨_, rfl, id⟩
theorem SaO.trans {o : HO} {q : Option HO} (h : SaO o q) {r : Option HO} (k : ∀ o', q = some o' → SaO o' r) : SaO o r := by
  cases o with
  | tbl ps =>
    obtain ⟨ps', e, h1⟩ := h
    obtain ⟨ps2, e2, h2⟩ := k _ e
    exact ⟨ps2, e2, fun z => h2 (h1 z)⟩
  | _ => exact k _ h
theorem SameT.refl (H : Hp) : SameT H H := fun _ o e => e ▸ SaO.self o
theorem SameT.trans {H H1 H2 : Hp} (a : SameT H H1) (b : SameT H1 H2) : SameT H H2 := fun x o e => SaO.trans (a x o e) (b x)
theorem SameT.free {H H' : Hp} (h : SameT H H') {a : Addr} (n : H' a = none) : H a = none := by
  cases e : H a with
  | none => rfl
  | some o => obtain ⟨o', q⟩ := SaO.ex (h a o e); rw [n] at q; cases q
theorem SameT.of {H H' : Hp} (h : Same H H') : SameT H H' := fun a o e => by rw [h a o e]; exact SaO.self o
/-- what is frozen here stands there -/
def Keep (H : Hp) (S : Sy) (H' : Hp) (S' : Sy) : Prop := ∀ a, S a → S' a ∧ ∀ o, H a = some o → SaO o (H' a)
theorem Keep.rd {H H' : Hp} {S S' : Sy} (k : Keep H S H' S') {a : Addr} {o : HO} (ho : ∀ q, SaO o q → q = some o) (s : S a) (r : Rd H a o) : S' a ∧ Rd H' a o :=
  ⟨(k a s).1, r.imp (fun e => ho _ ((k a s).2 _ e)) fun ⟨u, e⟩ => ⟨u, (k a s).2 _ e⟩⟩
theorem Keep.fzl {K : PySem.W.Frag} {H H' : Hp} {S S' : Sy} (k : Keep H S H' S') {a : Addr} {xs : List V} (h : FzL K H S a xs) : FzL K H' S' a xs := h.imp (fun z => k.rd (fun _ h => h) z.1 z.2) id
theorem Keep.fzt {K : PySem.W.Frag} {H H' : Hp} {S S' : Sy} (k : Keep H S H' S') {a : Addr} {xs : List V} (h : FzT K H S a xs) : FzT K H' S' a xs := h.imp (fun z => k.rd (fun _ h => h) z.1 z.2) id
theorem Keep.fzd {K : PySem.W.Frag} {w : World} {H H' : Hp} {S S' : Sy} (k : Keep H S H' S') {a : Addr} {ks : List Str} {xs : List V} (h : FzD K w H S a ks xs) : FzD K w H' S' a ks xs := h.imp (fun z => k.rd (fun _ h => h) z.1 z.2) id
mutual
theorem Rep.keep {G : Gm} {H H' : Hp} {S S' : Sy} (k : Keep H S H' S') : ∀ (d : D) (v : V), Rep G H S d v → Rep G H' S' d v
  | .non, _, .non => .non
  | .bl _, _, .bl b => .bl b
  | .int _, _, .int i => .int i
  | .str _, _, .str x => .str x
  | .lst ds, _, .lst h p => .lst (k.fzl h) (Rep.keepL k ds _ p)
  | .tup ds, _, .tup h p => .tup (k.fzt h) (Rep.keepL k ds _ p)
  | .fn _, _, .fn h => .fn h
  | .exc _, _, .exc h => .exc h
  | .dct _ ds, _, .dct h p => .dct (k.fzd h) (Rep.keepL k ds _ p)
theorem Rep.keepL {G : Gm} {H H' : Hp} {S S' : Sy} (k : Keep H S H' S') : ∀ (ds : List D) (xs : List V), Paired (Rep G H S) ds xs → Paired (Rep G H' S') ds xs
  | [], _, .nil => .nil
  | d :: ds, _, .cons h t => .cons (Rep.keep k d _ h) (Rep.keepL k ds _ t)
end

/-- later: nothing that was tracked has changed; what is frozen grows by new things alone -/
structure Gr (H : Hp) (S : Sy) (H' : Hp) (S' : Sy) : Prop where
  same : SameT H H'
  sub : ∀ a, S a → S' a
  new : ∀ a, S' a → S a ∨ (H a = none ∧ ∃ o, H' a = some o)
theorem Gr.refl (H : Hp) (S : Sy) : Gr H S H S := ⟨SameT.refl H, fun _ h => h, fun _ h => .inl h⟩
theorem Gr.trans {H H1 H2 : Hp} {S S1 S2 : Sy} (a : Gr H S H1 S1) (b : Gr H1 S1 H2 S2) : Gr H S H2 S2 :=
  ⟨a.same.trans b.same, fun x h => b.sub x (a.sub x h), fun x h => (b.new x h).elim (fun z => (a.new x z).imp id fun ⟨q, o, r⟩ => ⟨q, SaO.ex (b.same _ _ r)⟩) fun ⟨z, q⟩ => .inr ⟨a.same.free z, q⟩⟩
theorem Gr.keep {H H' : Hp} {S S' : Sy} (e : Gr H S H' S') : Keep H S H' S' := fun a s => ⟨e.sub a s, fun o h => e.same a o h⟩
theorem Gr.rep {G : Gm} {H H' : Hp} {S S' : Sy} (e : Gr H S H' S') {d : D} {v : V} (h : Rep G H S d v) : Rep G H' S' d v := h.keep e.keep
theorem Gr.reps {G : Gm} {H H' : Hp} {S S' : Sy} (e : Gr H S H' S') {ds : List D} {xs : List V} (h : Paired (Rep G H S) ds xs) : Paired (Rep G H' S') ds xs := Rep.keepL e.keep ds xs h
/-- a new object is laid -/
theorem Gr.laid {H : Hp} {S : Sy} {p : Addr} {o : HO} (h : H p = none) : Gr H S (upd H p o) S :=
  ⟨SameT.of fun b x e => by rw [upd_ne (ne_of_none e h)]; exact e, fun _ h => h, fun _ h => .inl h⟩
/-- .. and frozen -/
theorem Gr.laidF {H : Hp} {S : Sy} {p : Addr} {o : HO} (h : H p = none) : Gr H S (upd H p o) (fun a => S a ∨ a = p) :=
  ⟨SameT.of fun b x e => by rw [upd_ne (ne_of_none e h)]; exact e, fun _ h => .inl h, fun a z => z.elim .inl fun e => .inr (by subst e; exact ⟨h, _, upd_same⟩)⟩
/-- what is frozen is there -/
def Dm (G : Gm) (H : Hp) (S : Sy) : Prop := (∀ a, S a → ∃ o, H a = some o) ∧ ∀ P, G.tb P → GxR.TabG H P
theorem TabG.same {H H' : Hp} (e : SameT H H') {P : Addr} (h : GxR.TabG H P) : GxR.TabG H' P := by
  obtain ⟨ps, h1, h2⟩ := h
  obtain ⟨ps', h3, h4⟩ := e P _ h1
  exact ⟨ps', h3, h4 h2⟩
theorem Dm.gr {G : Gm} {H H' : Hp} {S S' : Sy} (e : Gr H S H' S') (h : Dm G H S) : Dm G H' S' := ⟨fun a z => (e.new a z).elim (fun q => let ⟨o, r⟩ := h.1 a q; SaO.ex (e.same _ _ r)) fun q => q.2, fun P z => TabG.same e.same (h.2 P z)⟩
theorem Dm.no {G : Gm} {H : Hp} {S : Sy} (h : Dm G H S) {p : Addr} (n : H p = none) : ¬ S p := fun z => by
  obtain ⟨o, r⟩ := h.1 p z
  rw [n] at r
  cases r

/-- one's own list: held by nothing else -/
def Own (G : Gm) (H0 H : Hp) (S : Sy) (d : D) (v : V) : Prop := ∃ a xs ds, v = .ref a ∧ d = .lst ds ∧ ¬ S a ∧ H0 a = none ∧ H a = some (.lst xs) ∧ Paired (Rep G H S) ds xs
def RepO (G : Gm) (H0 H : Hp) (S : Sy) (own : Bool) (d : D) (v : V) : Prop := match own with
  | true => Own G H0 H S d v
  | false => Rep G H S d v
/-- what may be read: frozen, or one's own -/
def Loo (G : Gm) (H : Hp) (S : Sy) (d : D) (v : V) : Prop := Rep G H S d v ∨ ∃ a xs ds, v = .ref a ∧ d = .lst ds ∧ ¬ S a ∧ H a = some (.lst xs) ∧ Paired (Rep G H S) ds xs
theorem RepO.loo {G : Gm} {H0 H : Hp} {S : Sy} {own : Bool} {d : D} {v : V} (h : RepO G H0 H S own d v) : Loo G H S d v := by
  cases own with
  | false => exact .inl h
  | true =>
    obtain ⟨a, xs, ds, e1, e2, e3, _, e4, e5⟩ := h
    exact .inr ⟨a, xs, ds, e1, e2, e3, e4, e5⟩
theorem Loo.ex {G : Gm} {H H' : Hp} {S S' : Sy} (e : Gr H S H' S') {d : D} {v : V} (h : Loo G H S d v) : Loo G H' S' d v := by
  rcases h with h | ⟨a, xs, ds, e1, e2, e3, e4, e5⟩
  · exact .inl (e.rep h)
  · refine .inr ⟨a, xs, ds, e1, e2, fun z => ?_, e.same _ _ e4, e.reps e5⟩
    rcases e.new a z with q | ⟨q, _⟩
    · exact e3 q
    · rw [e4] at q; cases q
/-- an own result is frozen -/
theorem RepO.fz {G : Gm} {H H' : Hp} {S S' : Sy} (e : Gr H S H' S') {own : Bool} {d : D} {v : V} (h : RepO G H H' S' own d v) : ∃ S'', Gr H S H' S'' ∧ Keep H' S' H' S'' ∧ Rep G H' S'' d v := by
  cases own with
  | false => exact ⟨S', e, fun _ s => ⟨s, fun o h => h ▸ SaO.self o⟩, h⟩
  | true =>
    obtain ⟨a, xs, ds, rfl, rfl, ns, h0, ha, hp⟩ := h
    have k : Keep H' S' H' (fun b => S' b ∨ b = a) := fun b s => ⟨.inl s, fun o h => h ▸ SaO.self o⟩
    exact ⟨fun b => S' b ∨ b = a, ⟨e.same, fun b s => .inl (e.sub b s), fun b z => z.elim (e.new b) fun q => .inr (by subst q; exact ⟨h0, _, ha⟩)⟩, k, .lst (.inl ⟨.inr rfl, .inl ha⟩) (Rep.keepL k _ _ hp)⟩

/-! ### environments -/
abbrev En := List (Option (Bool × D))
structure REnv (G : Gm) (H0 H : Hp) (S : Sy) (σ : L2.St) (ρ : En) : Prop where
  len : ρ.length = σ.length
  dom : Dm G H S
  slot : ∀ (i : Nat) (b : Bool) (d : D), ρ[i]? = some (some (b, d)) → ∃ v, σ[i]? = some (some v) ∧ RepO G H0 H S b d v
  apart : ∀ (i j : Nat) (d e : D) (a : Addr), i ≠ j → ρ[i]? = some (some (true, d)) → ρ[j]? = some (some (true, e)) → σ[i]? = some (some (.ref a)) → σ[j]? = some (some (.ref a)) → False
theorem RepO.gr {G : Gm} {H0 H H' : Hp} {S S' : Sy} (e : Gr H S H' S') {b : Bool} {d : D} {v : V} (h : RepO G H0 H S b d v) : RepO G H0 H' S' b d v := by
  cases b with
  | false => exact e.rep h
  | true =>
    obtain ⟨a, xs, ds, e1, e2, e3, h0, e4, e5⟩ := h
    refine ⟨a, xs, ds, e1, e2, fun z => ?_, h0, e.same _ _ e4, e.reps e5⟩
    rcases e.new a z with q | ⟨q, _⟩
    · exact e3 q
    · rw [e4] at q; cases q
theorem REnv.gr {G : Gm} {H0 H H' : Hp} {S S' : Sy} {σ : L2.St} {ρ : En} (e : Gr H S H' S') (R : REnv G H0 H S σ ρ) : REnv G H0 H' S' σ ρ :=
  ⟨R.len, R.dom.gr e, fun i b d h => let ⟨v, h1, h2⟩ := R.slot i b d h; ⟨v, h1, h2.gr e⟩, R.apart⟩

/-! ### what an expression gives -/
def Post (G : Gm) (W : Str → Hp → Prop) (H : Hp) (S : Sy) (r : Res (Bool × D)) (Q : VK) : Prop := match r with
  | .ok (b, d) => ∀ v H' S', Gr H S H' S' → RepO G H H' S' b d v → Q v H'
  | .exc c => ∀ H' S', Gr H S H' S' → W c H'
  | .fail => False
def PostB (G : Gm) (W : Str → Hp → Prop) (H : Hp) (S : Sy) (r : Res D) (Q : VK) : Prop := match r with
  | .ok d => ∀ v H' S', Gr H S H' S' → Loo G H' S' d v → Q v H'
  | .exc c => ∀ H' S', Gr H S H' S' → W c H'
  | .fail => False
def PostF (G : Gm) (W : Str → Hp → Prop) (H : Hp) (S : Sy) (r : Res D) (Q : VK) : Prop := match r with
  | .ok d => ∀ v H' S', Gr H S H' S' → Rep G H' S' d v → Q v H'
  | .exc c => ∀ H' S', Gr H S H' S' → W c H'
  | .fail => False
theorem Post.gr {G : Gm} {W : Str → Hp → Prop} {H H2 : Hp} {S S2 : Sy} {r : Res (Bool × D)} {Q : VK} (e : Gr H S H2 S2) (h : Post G W H S r Q) : Post G W H2 S2 r Q := by
  cases r with
  | fail => exact h
  | exc c => exact fun H' S' e' => h H' S' (e.trans e')
  | ok x =>
    obtain ⟨b, d⟩ := x
    intro v H' S' e' q
    refine h v H' S' (e.trans e') ?_
    cases b with
    | false => exact q
    | true =>
      obtain ⟨a, xs, ds, e1, e2, e3, h0, r⟩ := q
      exact ⟨a, xs, ds, e1, e2, e3, e.same.free h0, r⟩
def sndR (r : Res (Bool × D)) : Res D := match r with
  | .ok x => .ok x.2
  | .exc c => .exc c
  | .fail => .fail
end Hf

/-! Hf1: the small language by slots, what its terms give. -/
namespace Hf
open PySem PySem.Spec PyProof.Rows L2
set_option autoImplicit false

inductive Bi where
  | len | tuple | list | sum | abs | int
  deriving DecidableEq
/-- methods of one argument -/
inductive M1 where
  | count
  deriving DecidableEq
inductive Ty where
  | int | bool | str | tuple | list
  deriving DecidableEq
/-- where a turn's item goes -/
inductive Tg where
  | one (i : Nat) | tup (is : List Nat)
mutual
inductive Ex where
  | lit (d : D) | var (i : Nat) | gl (x : Str)
  | bin (o : Operator) (a b : Ex) | neg (a : Ex)
  | cmp (o : CmpOp) (a b : Ex) | chn (o p : CmpOp) (a b c : Ex)
  | and (a b : Ex) | or (a b : Ex) | not (a : Ex) | ite (c : Te) (a b : Ex)
  | tup (es : Exs) | lst (es : Exs)
  | idx (a i : Ex) | slc (a : Ex) (lo hi : Exo)
  | call (f : Str) (es : Exs)
  | bi (f : Bi) (a : Ex)
  | isi (a : Ex) (t : Ty)
  | star (i : Nat) (a : Ex)
  | dict (ks : List Str) (es : Exs)
  | isx (i : Nat) (ys : List Str) (tp : Bool)
  | comp (t : Tg) (vs : List Nat) (it : Is) (c : Tes) (e : Ex)
  /-- all (b true), any (b false) of a generator expression; its element asks the defs one level below -/
  | gen (b : Bool) (t : Tg) (vs : List Nat) (it : Is) (e : Ex)
  | callL (f : Str) (es : Exs)
  /-- a dict comprehension by texts -/
  | dcomp (t : Tg) (vs : List Nat) (it : Is) (c : Tes) (k e : Ex)
  /-- len(set(a)) of texts -/
  | lenset (a : Ex)
  /-- a.m(b) -/
  | m1 (m : M1) (a b : Ex)
inductive Exs where
  | nil | cons (e : Ex) (es : Exs) | star (e : Ex) (es : Exs)
inductive Exo where
  | none | some (e : Ex)
/-- a test -/
inductive Te where
  | val (e : Ex) | and (a b : Te) | or (a b : Te) | not (a : Te)
/-- a clause's test -/
inductive Tes where
  | nil | one (c : Te)
/-- what is walked -/
inductive Is where
  | seq (e : Ex) | rng1 (hi : Ex) | rng2 (lo hi : Ex)
end

/-! ### operations on data -/
def D.tru : D → Res Bool
  | .non => .ok false
  | .bl b => .ok b
  | .int i => .ok (i != 0)
  | .str x => if x.length ≤ sizeLine then .ok ((x.length : Int) != 0) else .fail
  | .tup xs => .ok (!xs.isEmpty)
  | .lst xs => .ok (!xs.isEmpty)
  | _ => .fail
mutual
def D.toP : D → PyData
  | .non => .none
  | .bl b => .bool b
  | .int i => .int i
  | .str x => .str x
  | .tup xs => .tuple (D.toPs xs)
  | .lst xs => .list (D.toPs xs)
  | .fn _ => .none
  | .exc _ => .none
  | .dct _ _ => .none
def D.toPs : List D → List PyData
  | [] => []
  | d :: ds => d.toP :: D.toPs ds
end
mutual
/-- plain data -/
def D.pl : D → Bool
  | .tup xs => D.pls xs
  | .lst xs => D.pls xs
  | .fn _ => false
  | .exc _ => false
  | .dct _ _ => false
  | _ => true
def D.pls : List D → Bool
  | [] => true
  | d :: ds => d.pl && D.pls ds
end
/-- == -/
def D.eqD (a b : D) : Res Bool := if a.pl = true ∧ b.pl = true ∧ a.toP.canLay0 = true ∧ b.toP.canLay0 = true ∧ min a.toP.depth b.toP.depth ≤ 150 then .ok (PyData.eqv a.toP b.toP) else .fail
def okF (d : D) : Res (Bool × D) := .ok (false, d)
def okB (r : Res Bool) : Res (Bool × D) := match r with
  | .ok b => .ok (false, .bl b)
  | .exc c => .exc c
  | .fail => .fail
def MulOk (i j : Int) : Prop := (-(2 ^ 64) < j ∧ j < 2 ^ 64) ∨ (-(2 ^ 64) < i ∧ i < 2 ^ 64) ∨ i.natAbs.log2 + j.natAbs.log2 < 1000000
instance (i j : Int) : Decidable (MulOk i j) := by unfold MulOk; infer_instance
/-- text * int -/
def repS (x : Str) (k : Int) : Str := if k < 1 then Str.empty else if (k == 1 || x.length == 0) = true then x else ⟨(List.replicate k.toNat x.cps).foldl (· ++ ·) #[]⟩
def opD (o : Operator) (a b : D) : Res (Bool × D) := match o, a, b with
  | .Add, .int i, .int j => okF (.int (i + j))
  | .Sub, .int i, .int j => okF (.int (i - j))
  | .Mult, .int i, .int j => if MulOk i j then okF (.int (i * j)) else .fail
  | .FloorDiv, .int i, .int j => if 0 < j ∧ j.natAbs.log2 < 9000 then okF (.int (i / j)) else if j < 0 ∧ j.natAbs.log2 < 9000 then okF (.int (i.fdiv j)) else .fail
  | .Mod, .int i, .int j => if 0 < j then okF (.int (i % j)) else .fail
  | .Pow, .int i, .int j => if 0 ≤ j ∧ j ≤ 1000000 ∧ i.natAbs < 2 ^ 64 then okF (.int (i ^ j.toNat)) else .fail
  | .Add, .str x, .str y => if x.length + y.length ≤ sizeLine then okF (.str (x ++ y)) else .fail
  | .Add, .lst xs, .lst ys => if xs.length + ys.length ≤ sizeLine then .ok (true, .lst (xs ++ ys)) else .fail
  | .Add, .tup xs, .tup ys => if xs.length + ys.length ≤ sizeLine then okF (.tup (xs ++ ys)) else .fail
  | .Mult, .lst xs, .int k => if -(2 ^ 63) ≤ k ∧ k < 2 ^ 63 ∧ xs.length * k.toNat ≤ sizeLine then .ok (true, .lst (List.replicate k.toNat xs).flatten) else .fail
  | .Mult, .tup xs, .int k => if xs ≠ [] ∧ 1 ≤ k ∧ k ≤ 1000 ∧ xs.length ≤ 1000 then okF (.tup (List.replicate k.toNat xs).flatten) else .fail
  | .Mult, .str x, .int k => if k ≤ 1000 ∧ -1000 ≤ k ∧ x.length ≤ 1000 then okF (.str (repS x k)) else .fail
  | _, _, _ => .fail
def negD : D → Res (Bool × D)
  | .int i => okF (.int (-i))
  | _ => .fail
/-- x in y -/
def inS (a : D) (xs : List D) : Res Bool := if a.pl = true ∧ D.pls xs = true ∧ a.toP.canLay0 = true ∧ PyData.canLayAll0 (D.toPs xs) = true ∧ min (PyData.depthAll (D.toPs xs)) a.toP.depth ≤ 140 then .ok ((D.toPs xs).any fun z => PyData.eqv z a.toP) else .fail
def inD (a b : D) : Res Bool := match b with
  | .tup xs => inS a xs
  | .lst xs => inS a xs
  | .str y => (match a with
    | .str x => .ok (!(Builtin.Str.occurrences y x 0 y.length 1).isEmpty)
    | _ => .fail)
  | .dct ks vs => (match a with
    | .str x => .ok (lkD ks vs x).isSome
    | _ => .fail)
  | _ => .fail
def cmpD (o : CmpOp) (a b : D) : Res Bool := match o, a, b with
  | .Lt, .int i, .int j => .ok (decide (i < j))
  | .LtE, .int i, .int j => .ok (decide (i ≤ j))
  | .Gt, .int i, .int j => .ok (decide (j < i))
  | .GtE, .int i, .int j => .ok (decide (j ≤ i))
  | .Eq, a, b => D.eqD a b
  | .NotEq, a, b => (match D.eqD a b with
    | .ok c => .ok (!c)
    | .exc c => .exc c
    | .fail => .fail)
  | .Is, .bl a, .bl b => .ok (decide (a = b))
  | .IsNot, .bl a, .bl b => .ok (!decide (a = b))
  | .In, a, b => inD a b
  | .NotIn, a, b => (match inD a b with
    | .ok c => .ok (!c)
    | .exc c => .exc c
    | .fail => .fail)
  | _, _, _ => .fail
def idxD (a i : D) : Res (Bool × D) := match a, i with
  | .lst xs, .int i => (match atI xs i with
    | some d => okF d
    | none => .fail)
  | .tup xs, .int i => (match atI xs i with
    | some d => okF d
    | none => .fail)
  | .dct ks vs, .str x => (match lkD ks vs x with
    | some d => okF d
    | none => .fail)
  | .str z, .int i => if z.length ≤ sizeLine then (match atI z.cps.toList i with
    | some c => okF (.str ⟨#[c]⟩)
    | none => .fail) else .fail
  | _, _ => .fail
def cutD (xs : List D) (lo hi : Option Int) : List D := (xs.drop (HT.sIx xs.length 0 lo)).take (HT.sIx xs.length xs.length hi - HT.sIx xs.length 0 lo)
def slcD (a : D) (lo hi : Option Int) : Res (Bool × D) := match a with
  | .lst xs => .ok (true, .lst (cutD xs lo hi))
  | .tup xs => okF (.tup (cutD xs lo hi))
  | .str z => if z.length ≤ sizeLine then okF (.str (cutS z lo hi)) else .fail
  | _ => .fail
def intsOf : List D → Option (List Int)
  | [] => some []
  | .int i :: r => (intsOf r).map (i :: ·)
  | _ => none
def biD (f : Bi) (a : D) : Res (Bool × D) := match f, a with
  | .len, .lst xs => okF (.int xs.length)
  | .len, .tup xs => okF (.int xs.length)
  | .len, .str z => if z.length ≤ sizeLine then okF (.int z.length) else .fail
  | .tuple, .lst xs => okF (.tup xs)
  | .tuple, .tup xs => okF (.tup xs)
  | .list, .lst xs => .ok (true, .lst xs)
  | .list, .tup xs => .ok (true, .lst xs)
  | .sum, .lst xs => (match intsOf xs with
    | some ns => okF (.int ns.sum)
    | none => .fail)
  | .abs, .int i => okF (.int (if i < 0 then -i else i))
  | .int, .int i => okF (.int i)
  | .int, .bl k => okF (.int (if k then 1 else 0))
  | _, _ => .fail
def isiD (a : D) (t : Ty) : Res Bool := match a, t with
  | .fn _, _ => .fail
  | .exc _, _ => .fail
  | .dct _ _, _ => .fail
  | .int _, .int => .ok true
  | .bl _, .int => .ok true
  | .bl _, .bool => .ok true
  | .str _, .str => .ok true
  | .tup _, .tuple => .ok true
  | .lst _, .list => .ok true
  | _, _ => .ok false
/-- what a walk comes to -/
def itemsW : D → Res (List D)
  | .lst xs => .ok xs
  | .tup xs => .ok xs
  | .str z => if z.length ≤ sizeLine then .ok (z.cps.toList.map fun c => D.str ⟨#[c]⟩) else .fail
  | _ => .fail
def itemsD : D → Res (List D)
  | .lst xs => .ok xs
  | .tup xs => .ok xs
  | _ => .fail

/-! ### environments -/
def getO (ρ : En) (i : Nat) : Res (Bool × D) := match ρ[i]? with
  | some (some x) => .ok x
  | _ => .fail
def getF (ρ : En) (i : Nat) : Res (Bool × D) := match ρ[i]? with
  | some (some (false, d)) => .ok (false, d)
  | _ => .fail
def wipeE (ρ : En) : List Nat → En
  | [] => ρ
  | v :: vs => (wipeE ρ vs).set v none
def setE (ρ : En) (i : Nat) (d : D) : En := ρ.set i (some (false, d))
def setEs : List Nat → List D → En → Res En
  | [], [], ρ => .ok ρ
  | i :: is, d :: ds, ρ => setEs is ds (setE ρ i d)
  | _, _, _ => .fail
def bindT (t : Tg) (d : D) (ρ : En) : Res En := match t with
  | .one i => .ok (setE ρ i d)
  | .tup is => (match d with
    | .tup ds => setEs is ds ρ
    | _ => .fail)
def bor (a : Ex) (ρ : En) (r : Res (Bool × D)) : Res D := match a with
  | .var i => sndR (getO ρ i)
  | _ => sndR r
def intR (r : Res D) : Res Int := match r with
  | .ok (.int i) => .ok i
  | .ok _ => .fail
  | .exc c => .exc c
  | .fail => .fail
/-- what may not raise -/
def noX {α : Type} (r : Res α) : Res α := match r with
  | .ok a => .ok a
  | _ => .fail
/-- the items of a comprehension -/
def compL (f : D → Res (Option D)) : List D → Res (List D)
  | [] => .ok []
  | d :: ds => (f d).bind fun o => (compL f ds).bind fun r => .ok (match o with
    | some y => y :: r
    | none => r)

/-- all, any: as far as it is asked -/
def genL (b : Bool) (f : D → Res Bool) : List D → Res Bool
  | [] => .ok b
  | d :: ds => (f d).bind fun k => if k = b then genL b f ds else .ok (!b)
def blR (r : Res (Bool × D)) : Res Bool := match r with
  | .ok (_, .bl k) => .ok k
  | .ok _ => .fail
  | .exc c => .exc c
  | .fail => .fail
def strsOf : List D → Option (List Str)
  | [] => some []
  | .str z :: r => (strsOf r).map (z :: ·)
  | _ => none
/-- how many of the texts are not among those ahead -/
def newIn (seen : List Str) : List Str → Nat
  | [] => 0
  | z :: r => (if z ∈ seen then 0 else 1) + newIn (seen ++ [z]) r
def lensetD (d : D) : Res (Bool × D) := (itemsD d).bind fun ds => match strsOf ds with
  | some zs => if zs.length ≤ 1000 then okF (.int (newIn [] zs : Nat)) else .fail
  | none => .fail
/-- a dict out of pairs, no two keys alike -/
def pairsOf : List D → Option (List Str × List D)
  | [] => some ([], [])
  | .tup [.str z, d] :: r => (pairsOf r).map fun p => (z :: p.1, d :: p.2)
  | _ => none
def dctOf (ds : List D) : Res (Bool × D) := match pairsOf ds with
  | some (zs, ds) => if zs.Nodup then okF (.dct zs ds) else .fail
  | none => .fail
def blsOf : List D → Option (List Bool)
  | [] => some []
  | .bl b :: r => (blsOf r).map (b :: ·)
  | _ => none
/-- whose method it is -/
def m1T (m : M1) (a : D) : Bool := match m, a with
  | .count, .lst _ => true
  | _, _ => false
def m1D (m : M1) (a b : D) : Res (Bool × D) := match m, a, b with
  | .count, .lst ds, .bl b => (match blsOf ds with
    | some bs => okF (.int (bs.count b : Nat))
    | none => .fail)
  | _, _, _ => .fail
def rngD (i j : Int) : Res (List D) :=
  if -(2 ^ 62) ≤ i ∧ i < 2 ^ 62 ∧ -(2 ^ 62) ≤ j ∧ j < 2 ^ 62 then .ok ((List.range (j - i).toNat).map fun (k : Nat) => D.int (i + (k : Int))) else .fail

/-- what the text's own defs and constants give -/
structure Tb where
  fn : Str → List D → Res (Bool × D)
  gl : Str → Option D
  ar : Str → Option (Nat × Bool)
  ki : Str → Str → Option Bool
  /-- what an except clause of the class y does with an error of the class c -/
  sub : Str → Str → Option Bool
  /-- what a def says of the error that is handled -/
  hot : Str → Str → Option D
  /-- the defs, one call less deep -/
  fl : Str → List D → Res (Bool × D)
  /-- a generator may be made here -/
  gok : Bool
def kiAny (T : Tb) (c : Str) : List Str → Option Bool
  | [] => some false
  | y :: r => match T.ki c y, kiAny T c r with
    | some b, some b' => some (b || b')
    | _, _ => none
/-- isinstance(d, (ys)) of the error that is handled -/
def isxD (T : Tb) (d : D) (ys : List Str) : Res Bool := match d with
  | .exc c => (match kiAny T c ys with
    | some b => .ok b
    | none => .fail)
  | _ => .fail
def arOk : Option (Nat × Bool) → Nat → Bool
  | some (k, false), n => decide (n = k)
  | some (k, true), n => decide (k ≤ n) && decide (n ≤ sizeLine)
  | none, _ => false
/-- f(*a), f a def as a value -/
def starD (T : Tb) (f : D) (r : Res D) : Res (Bool × D) := match f with
  | .fn g => if (T.ar g).isSome = true then r.bind fun a => (itemsD a).bind fun ds => if arOk (T.ar g) ds.length = true then T.fn g ds else .fail else .fail
  | _ => .fail

mutual
def ev (T : Tb) : Ex → En → Res (Bool × D)
  | .lit d, _ => okF d
  | .var i, ρ => getF ρ i
  | .gl x, _ => (match T.gl x with
    | some d => okF d
    | none => .fail)
  | .bin o a b, ρ => (bor a ρ (ev T a ρ)).bind fun x => (bor b ρ (ev T b ρ)).bind fun y => opD o x y
  | .neg a, ρ => (bor a ρ (ev T a ρ)).bind negD
  | .cmp o a b, ρ => (bor a ρ (ev T a ρ)).bind fun x => (bor b ρ (ev T b ρ)).bind fun y => okB (cmpD o x y)
  | .chn o p a b c, ρ => (bor a ρ (ev T a ρ)).bind fun x => (bor b ρ (ev T b ρ)).bind fun y => (cmpD o x y).bind fun k =>
      if k = true then (bor c ρ (ev T c ρ)).bind fun z => okB (cmpD p y z) else okF (.bl false)
  | .and a b, ρ => (ev T a ρ).bind fun x => x.2.tru.bind fun k => if k = true then ev T b ρ else .ok x
  | .or a b, ρ => (ev T a ρ).bind fun x => x.2.tru.bind fun k => if k = true then .ok x else ev T b ρ
  | .not a, ρ => (bor a ρ (ev T a ρ)).bind fun x => x.tru.bind fun k => okF (.bl (!k))
  | .ite c a b, ρ => (evT T c ρ).bind fun k => if k = true then ev T a ρ else ev T b ρ
  | .tup es, ρ => (evs T es ρ).bind fun xs => if xs.length ≤ sizeLine then okF (.tup xs) else .fail
  | .lst es, ρ => (evs T es ρ).bind fun xs => if xs.length ≤ sizeLine then .ok (true, .lst xs) else .fail
  | .idx a i, ρ => (bor a ρ (ev T a ρ)).bind fun x => (bor i ρ (ev T i ρ)).bind fun y => idxD x y
  | .slc a lo hi, ρ => (bor a ρ (ev T a ρ)).bind fun x => (evo T lo ρ).bind fun l => (evo T hi ρ).bind fun h => slcD x l h
  | .call f es, ρ => (evs T es ρ).bind fun xs => T.fn f xs
  | .bi f a, ρ => (bor a ρ (ev T a ρ)).bind fun x => biD f x
  | .star i a, ρ => (getF ρ i).bind fun f => starD T f.2 (bor a ρ (ev T a ρ))
  | .isx i ys _, ρ => (getF ρ i).bind fun x => okB (isxD T x.2 ys)
  | .dict ks es, ρ => (evs T es ρ).bind fun xs => okF (.dct ks xs)
  | .isi a t, ρ => (bor a ρ (ev T a ρ)).bind fun x => okB (isiD x t)
  | .comp t vs it c e, ρ => (evi T it ρ).bind fun ds => if ds.length ≤ sizeLine then (compL (fun d => noX ((bindT t d (wipeE ρ vs)).bind fun ρ' => (evc T c ρ').bind fun k =>
      if k = true then (ev T e ρ').bind fun y => .ok (some y.2) else .ok none)) ds).bind fun ys => .ok (true, .lst ys) else .fail
  | .gen b t vs it e, ρ => if T.gok = true then (evi T it ρ).bind fun ds => okB (genL b (fun d => noX ((bindT t d (wipeE ρ vs)).bind fun ρ' => blR (ev T e ρ'))) ds) else .fail
  | .callL f es, ρ => (evs T es ρ).bind fun xs => T.fl f xs
  | .dcomp t vs it c k e, ρ => (evi T it ρ).bind fun ds => if ds.length ≤ sizeLine then (compL (fun d => noX ((bindT t d (wipeE ρ vs)).bind fun ρ' => (evc T c ρ').bind fun b =>
      if b = true then (ev T k ρ').bind fun x => (ev T e ρ').bind fun y => .ok (some (.tup [x.2, y.2])) else .ok none)) ds).bind fun ys => dctOf ys else .fail
  | .lenset a, ρ => (bor a ρ (ev T a ρ)).bind lensetD
  | .m1 m a b, ρ => (bor a ρ (ev T a ρ)).bind fun x => if m1T m x = true then (bor b ρ (ev T b ρ)).bind fun y => m1D m x y else .fail
/-- a test -/
def evT (T : Tb) : Te → En → Res Bool
  | .val e, ρ => (bor e ρ (ev T e ρ)).bind D.tru
  | .and a b, ρ => (evT T a ρ).bind fun k => if k = true then evT T b ρ else .ok false
  | .or a b, ρ => (evT T a ρ).bind fun k => if k = true then .ok true else evT T b ρ
  | .not a, ρ => (evT T a ρ).bind fun k => .ok (!k)
def evs (T : Tb) : Exs → En → Res (List D)
  | .nil, _ => .ok []
  | .cons e es, ρ => (ev T e ρ).bind fun x => (evs T es ρ).bind fun xs => .ok (x.2 :: xs)
  | .star e es, ρ => (bor e ρ (ev T e ρ)).bind fun x => (itemsD x).bind fun ds => (evs T es ρ).bind fun xs => .ok (ds ++ xs)
def evo (T : Tb) : Exo → En → Res (Option Int)
  | .none, _ => .ok none
  | .some e, ρ => (intR (bor e ρ (ev T e ρ))).bind fun i => .ok (some i)
/-- a clause's test -/
def evc (T : Tb) : Tes → En → Res Bool
  | .nil, _ => .ok true
  | .one e, ρ => evT T e ρ
/-- what is walked -/
def evi (T : Tb) : Is → En → Res (List D)
  | .seq e, ρ => (sndR (ev T e ρ)).bind itemsW
  | .rng1 hi, ρ => (intR (bor hi ρ (ev T hi ρ))).bind fun j => rngD 0 j
  | .rng2 lo hi, ρ => (intR (bor lo ρ (ev T lo ρ))).bind fun i => (intR (bor hi ρ (ev T hi ρ))).bind fun j => rngD i j
end
end Hf

/-! Hg6: text * int, tuple * 1, list.count of truths. -/
namespace Hg
open PySem PySem.Spec PyProof.Rows L2
open AutoSeq1 (wpAny_loadPart')
set_option autoImplicit false
theorem tuple_mul1 (l : Addr) (items : Array Value) (n : Nat) (dd : Option Addr) (sl : Array (Option Value)) (u : Tok) :
    Meets (Builtin.«tuple.__mul__» ⟨[.ref l, .int 1 u], []⟩) (fun _ R s => s.heap.get? l = some { cls := .type "tuple", dict := dd, data := .seq items n, slots := sl } ∧ R (.ok (.ret (Value.ref l))) s) :=
  .of_wp fun prog w A R s h => by
    obtain ⟨hp, g, d, tk, os⟩ := s
    obtain ⟨hl, h⟩ := h
    have f1 := AutoSeq1.idx_int
    have c0 : (decide ((1 : Int) < -(2 ^ 63)) || decide ((1 : Int) ≥ 2 ^ 63)) = false := by decide
    have c1 : (items.isEmpty || (1 : Int) == 1) = true := by simp
    wp_walk using wpAny_loadPart' hl
    repeat (first
      | (refine wpAny_ite_false (decide_eq_false (by rw [c0]; exact Bool.false_ne_true)) ?_; wp_walk using wpAny_loadPart' hl)
      | (refine wpAny_ite_true (decide_eq_true c1) ?_; wp_walk using wpAny_loadPart' hl))
    exact ⟨_, rfl, h⟩
section
variable {X : Cx}
theorem op_repT1 : OpR X (binaryOp .Mult) (fun x y H Q => ∃ l xs, x = .ref l ∧ y = .int 1 ∧ SqT X.K H l xs ∧ Q (.ref l) H) := by
  intro pins s σ H x y v u Q I rx ry h
  obtain ⟨l, xs, rfl, rfl, hT, q⟩ := h
  cases rx
  obtain ⟨t, rfl⟩ := ry
  obtain ⟨its, r, ⟨⟨cls, dd, data, sl⟩, ho, hc, n, hd⟩, hs⟩ := I.tuple hT
  simp only at hc hd
  subst hc hd
  exact wpAny_binaryOp_repeat_ref (T := "tuple") (U := "int") (by decide) ⟨_, ho, rfl⟩ (fun s' => typeIs_int s' 1 t) noFill_tuple_mul F.fills_int_mul F.slot_int_rmul repeat_tuple F.slot_int_index.lookup
    (call_meets F.slot_int_rmul (typeIs_int s 1 t) F.entry_int_rmul (F.args_int_rmul_2 _ _) (int_rmul_tuple 1 t l its.toArray n dd sl)
      ⟨ho, rfl, ⟨_, ho, rfl⟩, call_meets F.slot_tuple_mul ⟨_, ho, rfl⟩ F.entry_tuple_mul (F.args_tuple_mul_2 _ _) (tuple_mul1 l its.toArray n dd sl t) ⟨ho, .ref l, H, I, rfl, q⟩⟩)
theorem rep_size (a : Array Nat) : ∀ (m : Nat) (b : Array Nat), ((List.replicate m a).foldl (· ++ ·) b).size = b.size + m * a.size
  | 0, b => by simp
  | m + 1, b => by
    rw [List.replicate_succ, List.foldl_cons, rep_size a m, Array.size_append, Nat.succ_mul]
    omega
theorem op_repS : OpR X (binaryOp .Mult) (fun x y H Q => ∃ z k, x = .str z ∧ y = .int k ∧ (k ≤ 1000 ∧ -1000 ≤ k ∧ z.length ≤ 1000) ∧ Q (.str (Hf.repS z k)) H) := by
  intro pins s σ H x y v u Q I rx ry h
  obtain ⟨z, k, rfl, rfl, ⟨h1, h2, h3⟩, q⟩ := h
  obtain ⟨t, rfl⟩ := rx
  obtain ⟨t2, rfl⟩ := ry
  have m1 : z.length * k.toNat ≤ 1000 * 1000 := Nat.mul_le_mul h3 (by omega)
  refine PySem.P.mul_str (by rw [decide_eq_false (by omega), decide_eq_false (by omega)]; rfl) (fun c1 _ => ?_) (fun c1 _ => ?_) ?_
  · have : (1000 : Int) ≤ (2 ^ 63 - 1) / k := Int.le_ediv_of_mul_le (by omega) (by omega)
    omega
  · unfold Builtin.Str.tooLong
    rw [sizeLine_eq]
    exact decide_eq_false (by omega)
  · unfold Hf.repS at q
    by_cases c : k < 1
    · rw [if_pos c] at q ⊢
      exact ⟨by decide, .str _, H, I.tok _, ⟨_, rfl⟩, q⟩
    · rw [if_neg c] at q ⊢
      by_cases c2 : (k == 1 || z.length == 0) = true
      · rw [if_pos c2] at q ⊢
        exact ⟨.str _, H, I, ⟨_, rfl⟩, q⟩
      · rw [if_neg c2] at q ⊢
        refine ⟨?_, .str _, H, I.tok _, ⟨_, rfl⟩, q⟩
        show Array.size _ ≤ _
        rw [rep_size, sizeLine_eq]
        have : k.toNat * z.cps.size ≤ 1000 * 1000 := Nat.mul_le_mul (by omega) h3
        simp
        omega
/-- list.count of truths -/
def eqB (k : Bool) (v : Value) : Bool := match v with
  | .bool b => b == k
  | _ => false
theorem mt_lcountB : MtR X "list.count" (fun x xs H Q => ∃ (p : Addr) (bs : List Bool) (k : Bool), x = .ref p ∧ xs = [.bl k] ∧ SqL X.K H p (bs.map V.bl) ∧ Q (.int (bs.count k : Nat)) H) := by
  intro pins s σ H x xs v us Q I rx rxs h
  obtain ⟨p, bs, k, rfl, rfl, hs, q⟩ := h
  cases rx
  obtain ⟨u, rfl, ru⟩ := rxs.one
  obtain rfl : u = Value.bool k := ru
  obtain ⟨its, rv, ⟨⟨cls, dd, data, sl⟩, n, ho, hc, hdn, hd⟩, hlen⟩ := I.list hs
  simp only at hc hd
  subst hc hd
  have bl : ∀ (its : List Value) (bs : List Bool), Vals (bs.map V.bl) its → (∀ y ∈ its, ∃ b, y = .bool b) ∧ its.countP (eqB k) = bs.count k := by
    intro its bs
    induction bs generalizing its with
    | nil => intro h; cases h; exact ⟨fun y hy => (nomatch hy), rfl⟩
    | cons b r ih =>
      intro h
      cases h with
      | cons r1 rt =>
        obtain ⟨h1, h2⟩ := ih _ rt
        rename_i u _
        obtain rfl : u = Value.bool b := r1
        refine ⟨fun y hy => ?_, ?_⟩
        · rcases List.mem_cons.mp hy with e | e
          · exact ⟨b, e⟩
          · exact h1 y e
        · rw [List.countP_cons, List.count_cons, h2]
          rfl
  obtain ⟨h1, h2⟩ := bl its bs rv
  refine call_meets PySem.F.slot_list_count ⟨_, ho, rfl⟩ PySem.F.entry_list_count (PySem.F.args_list_count_2 _ _)
    (SeqAt.list_countAt p its.toArray n dd sl (.bool k) (eqB k)) ⟨ho, fun y hy => ?_, ?_⟩
  · obtain ⟨b, rfl⟩ := h1 y (by simpa using hy)
    exact SeqAt.EqAt.bool_bool b k
  · have ec : its.toArray.toList.countP (eqB k) = bs.count k := h2
    refine ⟨.int (bs.count k : Nat), H, I.tok _, ⟨s.toks, ?_⟩, q⟩
    show Value.int ((its.toArray.toList.countP (eqB k) : Nat) : Int) s.toks = Value.int ((bs.count k : Nat) : Int) s.toks
    rw [ec]
end
end Hg

/-! Hf2: rules of values. -/
namespace PySem
set_option autoImplicit false
/-! ### lists side by side -/
section
variable {α β : Type} {F : α → β → Prop}
theorem Paired.app : ∀ {l₁ l₂ : List α} {m₁ m₂ : List β}, Paired F l₁ m₁ → Paired F l₂ m₂ → Paired F (l₁ ++ l₂) (m₁ ++ m₂)
  | _, _, _, _, .nil, s => s
  | _, _, _, _, .cons r t, s => .cons r (Paired.app t s)
theorem Paired.tk : ∀ {l : List α} {m : List β} (n : Nat), Paired F l m → Paired F (l.take n) (m.take n)
  | _, _, 0, _ => .nil
  | _, _, _ + 1, .nil => .nil
  | _, _, n + 1, .cons r t => .cons r (Paired.tk n t)
theorem Paired.dp : ∀ {l : List α} {m : List β} (n : Nat), Paired F l m → Paired F (l.drop n) (m.drop n)
  | _, _, 0, r => r
  | _, _, _ + 1, .nil => .nil
  | _, _, n + 1, .cons _ t => Paired.dp n t
theorem Paired.rp {l : List α} {m : List β} (h : Paired F l m) : ∀ k : Nat, Paired F (List.replicate k l).flatten (List.replicate k m).flatten
  | 0 => .nil
  | k + 1 => by
    rw [List.replicate_succ, List.replicate_succ, List.flatten_cons, List.flatten_cons]
    exact Paired.app h (Paired.rp h k)
theorem Paired.gt : ∀ {l : List α} {m : List β} {i : Nat} {x : α}, Paired F l m → l[i]? = some x → ∃ u, m[i]? = some u ∧ F x u
  | _, _, _, _, .nil, e => by simp at e
  | _, _, 0, _, .cons r _, e => by simp at e; subst e; exact ⟨_, rfl, r⟩
  | _, _, i + 1, x, .cons _ t, e => by
    obtain ⟨u, h1, h2⟩ := Paired.gt (i := i) (x := x) t (by simpa using e)
    exact ⟨u, by simpa using h1, h2⟩
theorem Paired.st {x : α} {u : β} (r : F x u) : ∀ {l : List α} {m : List β} (i : Nat), Paired F l m → Paired F (l.set i x) (m.set i u)
  | _, _, _, .nil => .nil
  | _, _, 0, .cons _ t => .cons r t
  | _, _, i + 1, .cons q t => .cons q (Paired.st r i t)
theorem Paired.dl {l : List α} {m : List β} (h : Paired F l m) : Paired F l.dropLast m.dropLast := by
  induction h with
  | nil => exact .nil
  | cons r t ih =>
    cases t with
    | nil => exact .nil
    | cons q t' => exact .cons r ih
theorem Paired.emp {l : List α} {m : List β} (h : Paired F l m) : m.isEmpty = l.isEmpty := by
  cases h <;> rfl
end
end PySem

namespace Hf
open PySem PySem.Spec PyProof.Rows L2
set_option autoImplicit false

/-! ### what loose data are -/
section
variable {G : Gm} {H : Hp} {S : Sy} {x : V}
theorem Loo.non (h : Loo G H S .non x) : x = .non := by
  rcases h with h | ⟨_, _, _, _, e, _⟩
  · cases h; rfl
  · cases e
theorem Loo.bl {b : Bool} (h : Loo G H S (.bl b) x) : x = .bl b := by
  rcases h with h | ⟨_, _, _, _, e, _⟩
  · cases h; rfl
  · cases e
theorem Loo.int {i : Int} (h : Loo G H S (.int i) x) : x = .int i := by
  rcases h with h | ⟨_, _, _, _, e, _⟩
  · cases h; rfl
  · cases e
theorem Loo.str {z : Str} (h : Loo G H S (.str z) x) : x = .str z := by
  rcases h with h | ⟨_, _, _, _, e, _⟩
  · cases h; rfl
  · cases e
theorem Loo.lst {K : PySem.W.Frag} (hK : K = G.K) {ds : List D} (h : Loo G H S (.lst ds) x) : ∃ a xs, x = .ref a ∧ SqL K H a xs ∧ Paired (Rep G H S) ds xs := by
  subst hK
  rcases h with h | ⟨a, xs, ds', e1, e, _, e2, e3⟩
  · cases h with
    | lst q p => exact ⟨_, _, rfl, q.sq, p⟩
  · cases e; exact ⟨a, xs, e1, .inl (.inl e2), e3⟩
theorem Loo.tup {ds : List D} (h : Loo G H S (.tup ds) x) : ∃ a xs, x = .ref a ∧ FzT G.K H S a xs ∧ Paired (Rep G H S) ds xs := by
  rcases h with h | ⟨_, _, _, _, e, _⟩
  · cases h with
    | tup q p => exact ⟨_, _, rfl, q, p⟩
  · cases e
theorem Loo.dct {ks : List Str} {ds : List D} (h : Loo G H S (.dct ks ds) x) : ∃ a xs, x = .ref a ∧ FzD G.K G.w H S a ks xs ∧ Paired (Rep G H S) ds xs := by
  rcases h with h | ⟨_, _, _, _, e, _⟩
  · cases h with
    | dct q p => exact ⟨_, _, rfl, q, p⟩
  · cases e
theorem Loo.rep_tup {ds : List D} (h : Loo G H S (.tup ds) x) : Rep G H S (.tup ds) x := by
  rcases h with h | ⟨_, _, _, _, e, _⟩
  · exact h
  · cases e
end
theorem sql {K : PySem.W.Frag} {H : Hp} {a : Addr} {xs : List V} (h : Rd H a (.lst xs)) : SqL K H a xs := .inl h
theorem cutD_pair {G : Gm} {H : Hp} {S : Sy} {ds : List D} {xs : List V} (h : Paired (Rep G H S) ds xs) (lo hi : Option Int) : Paired (Rep G H S) (cutD ds lo hi) (cutV xs lo hi) := by
  unfold cutD cutV
  rw [Paired.length h]
  exact Paired.tk _ (Paired.dp _ h)

/-! ### truth -/
theorem tru_rep {G : Gm} {H : Hp} {S : Sy} {d : D} {v : V} {k : Bool} (h : Loo G H S d v) (e : d.tru = .ok k) : TruV G.K v H k := by
  cases d with
  | non => rw [h.non]; cases e; exact rfl
  | bl b => rw [h.bl]; cases e; exact rfl
  | int i => rw [h.int]; cases e; exact rfl
  | str z =>
    rw [h.str]
    have e' : (if z.length ≤ sizeLine then Res.ok ((z.length : Int) != 0) else Res.fail) = Res.ok k := e
    split at e'
    · cases e'; exact ⟨by assumption, rfl⟩
    · cases e'
  | lst ds =>
    obtain ⟨a, xs, rfl, r, p⟩ := h.lst rfl
    cases e
    exact .inl ⟨xs, r, by rw [p.emp]⟩
  | tup ds =>
    obtain ⟨a, xs, rfl, r, p⟩ := h.tup
    cases e
    exact .inr (.inl ⟨xs, r.sq, by rw [p.emp]⟩)
  | fn _ => cases e
  | exc _ => cases e
  | dct _ _ => cases e

/-! ### operators -/
def rD (G : Gm) (h : D → D → Res (Bool × D)) : R2 := fun x y H Q => ∃ W S dx dy, Dm G H S ∧ Loo G H S dx x ∧ Loo G H S dy y ∧ Post G W H S (h dx dy) Q
section
variable {G : Gm} {W : Str → Hp → Prop} {H : Hp} {S : Sy} {Q : VK}
theorem Post.f {d : D} {v : V} (p : Post G W H S (okF d) Q) (r : Rep G H S d v) : Q v H := p v H S (Gr.refl H S) r
/-- a new list of frozen things -/
theorem Post.new {ds : List D} {xs : List V} (q : Post G W H S (.ok (true, .lst ds)) Q) (dm : Dm G H S) (r : Paired (Rep G H S) ds xs) (p : Addr) (hp : H p = none) : Q (.ref p) (upd H p (.lst xs)) :=
  have e : Gr H S (upd H p (.lst xs)) S := Gr.laid hp
  q _ _ S e ⟨p, xs, ds, rfl, rfl, dm.no hp, hp, upd_same, e.reps r⟩
/-- a new tuple -/
theorem Post.newT {ds : List D} {xs : List V} (q : Post G W H S (okF (.tup ds)) Q) (r : Paired (Rep G H S) ds xs) (p : Addr) (hp : H p = none) : Q (.ref p) (upd H p (.tup xs)) :=
  have e : Gr H S (upd H p (.tup xs)) (fun a => S a ∨ a = p) := Gr.laidF hp
  q _ _ _ e (.tup (.inl ⟨.inr rfl, .inl upd_same⟩) (e.reps r))
end
section
variable {X : Cx} {G : Gm}
theorem op_catR : OpR X (binaryOp .Add) (fun x y H Q => ∃ l b xs zs, x = .ref l ∧ y = .ref b ∧ SqL X.K H l xs ∧ SqL X.K H b zs ∧ xs.length + zs.length ≤ sizeLine ∧ ∀ p, H p = none → Q (.ref p) (upd H p (.lst (xs ++ zs)))) := by
  intro pins s σ H x y v u Q I rx ry h
  obtain ⟨l, b, xs, zs, rfl, rfl, hH, hB, hz, q⟩ := h
  cases rx
  cases ry
  obtain ⟨its, r, ⟨⟨cls, dd, data, sl⟩, n, ho, hc, hn, hd⟩, _⟩ := I.list hH
  obtain ⟨its2, r2, ⟨⟨cls2, dd2, data2, sl2⟩, n2, ho2, hc2, hn2, hd2⟩, _⟩ := I.list hB
  simp only at hc hd hc2 hd2 hn hn2
  subst hc hd hc2 hd2 hn hn2
  have hl := r.length
  have hl2 := r2.length
  have e : its.toArray ++ its2.toArray = (its ++ its2).toArray := by simp
  refine concat_meets ⟨_, ho, rfl⟩ ⟨_, ho2, rfl⟩ noFill_list_add seq_list_add PySem.F.slot_list_add PySem.F.entry_list_add (PySem.F.args_list_add_2 _ _) (list_addW l b its.toArray its2.toArray n n2 none none sl sl2 (by rw [List.size_toArray, List.size_toArray]; omega)) ⟨ho, ho2, ?_⟩
  rw [e]
  exact ⟨.ref _, _, I.lnew (t' := s.toks) (r.append r2) (by rw [List.length_append]; omega), rfl, q _ I.fresh⟩
open PySem.AutoSeq1 (wpAny_loadPart') in
theorem list_mulW (l : Addr) (items : Array Value) (n : Nat) (sl : Array (Option Value)) (x : Int) (u : Tok) (hc0 : ¬(!Builtin.List.listFitsIndex x) = true) (hc1 : ¬items.size * x.toNat > (2 ^ 63 - 1) / 8) (hc2 : ¬Builtin.List.listTooLong (items.size * x.toNat) = true)
    (hsz : (List.foldl (fun x1 x2 => x1 ++ x2) #[] (List.replicate (if items.isEmpty = true then 0 else x.toNat) items)).size ≤ sizeLine) :
    Meets (Builtin.«list.__mul__» ⟨[.ref l, .int x u], []⟩) (fun _ R s => s.heap.get? l = some { cls := .type "list", dict := none, data := .seq items n, slots := sl } ∧ R (.ok (.ret (Value.ref s.heap.objs.size))) { s with heap := s.heap.push { cls := Value.type "list", data := Data.seq (List.foldl (fun x1 x2 => x1 ++ x2) #[] (List.replicate (if items.isEmpty = true then 0 else x.toNat) items)) }, toks := s.toks }) :=
  .of_wp fun prog w A R s h => by
    obtain ⟨hp, g, d, tk, os⟩ := s; obtain ⟨hl, h⟩ := h
    have f1 := AutoSeq1.idx_int
    wp_walk using wpAny_loadPart' hl; refine wpAny_ite_false (decide_eq_false (Nat.not_lt.mpr hsz)) ?_; wp_walk using wpAny_loadPart' hl; exact ⟨_, rfl, h⟩
open PySem.AutoSeq1 (wpAny_loadPart') in
theorem int_rmul_listW (a : Int) (t : Tok) (l : Addr) (items : Array Value) (n : Nat) (sl : Array (Option Value)) :
    Meets (Builtin.«int.__rmul__» ⟨[.int a t, .ref l], []⟩) (fun _ R s => s.heap.get? l = some { cls := .type "list", dict := none, data := .seq items n, slots := sl } ∧ R (.ok (.ret Value.notImplemented)) s) :=
  .of_wp fun prog w A R s h => by obtain ⟨hp, g, d, tk, os⟩ := s; obtain ⟨hl, h⟩ := h; wp_walk using wpAny_loadPart' hl; exact ⟨_, rfl, h⟩
/-- list * int -/
theorem op_repR : OpR X (binaryOp .Mult) (fun x y H Q => ∃ l k xs, x = .ref l ∧ y = .int k ∧ SqL X.K H l xs ∧ -(2 ^ 63) ≤ k ∧ k < 2 ^ 63 ∧ xs.length * k.toNat ≤ sizeLine ∧
    ∀ p, H p = none → Q (.ref p) (upd H p (.lst (List.replicate k.toNat xs).flatten))) := by
  intro pins s σ H x y v u Q I rx ry h
  obtain ⟨l, k, xs, rfl, rfl, hH, h1, h2, hz, q⟩ := h
  cases rx
  obtain ⟨t, rfl⟩ := ry
  obtain ⟨its, r, ⟨⟨cls, dd, data, sl⟩, n, e, hc, hn, hd⟩, z⟩ := I.list hH
  simp only at hc hd hn
  subst hc hd hn
  have hl := r.length
  have hlen : its.toArray.size * k.toNat ≤ sizeLine := by rw [List.size_toArray, ← hl]; exact hz
  have hcap : ¬ its.toArray.size * k.toNat > (2 ^ 63 - 1) / 8 := by
    have : (sizeLine : Nat) ≤ (2 ^ 63 - 1) / 8 := by decide
    omega
  have hfit : ¬ (!Builtin.List.listFitsIndex k) = true := by
    rw [fitsIndex_both h1 h2]
    exact Bool.false_ne_true
  have hlong : ¬ Builtin.List.listTooLong (its.toArray.size * k.toNat) = true := by
    rw [notLongL hlen]
    exact Bool.false_ne_true
  have hnew : List.foldl (fun x1 x2 => x1 ++ x2) #[] (List.replicate (if its.toArray.isEmpty = true then 0 else k.toNat) its.toArray) = (List.replicate k.toNat its).flatten.toArray := by
    have f0 : ∀ m : Nat, List.foldl (fun x1 x2 => x1 ++ x2) #[] (List.replicate m its.toArray) = (List.replicate m its).flatten.toArray := fun m => by
      have := foldl_rep its m []
      rw [List.nil_append] at this
      exact this
    rw [f0]
    cases its with
    | nil => simp
    | cons a r' => rw [if_neg (by simp)]
  refine wpAny_binaryOp_repeat_ref (T := "list") (U := "int") (by decide) ⟨_, e, rfl⟩ (fun s' => typeIs_int s' k t) noFill_list_mul F.fills_int_mul F.slot_int_rmul repeat_list F.slot_int_index.lookup
    (call_meets F.slot_int_rmul (typeIs_int s k t) F.entry_int_rmul (F.args_int_rmul_2 _ _) (int_rmul_listW k t l its.toArray n sl)
      ⟨e, rfl, ⟨_, e, rfl⟩, call_meets F.slot_list_mul ⟨_, e, rfl⟩ F.entry_list_mul (F.args_list_mul_2 _ _) (list_mulW l its.toArray n sl k t hfit hcap hlong (by rw [hnew, List.size_toArray, PyProof.Rows.lm_len_rep_flat, Nat.mul_comm, ← hl]; exact hz)) ⟨e, ?_⟩⟩)
  rw [hnew]
  exact ⟨.ref _, _, I.lnew (t' := s.toks) (r.rep k.toNat) (by rw [PyProof.Rows.lm_len_rep_flat, Nat.mul_comm]; exact hz), rfl, q _ I.fresh⟩
/-- two rules, by which of them the data ask -/
theorem op_pick {f : Value → Value → Sem Value} {h : D → D → Res (Bool × D)} (pick : ∀ (pins : List (Addr × Obj)) (s : Shared) (σ : L2.St) (H : Hp) (W : Str → Hp → Prop) (S : Sy) (x y : V) (v u : Value) (Q : VK) (dx dy : D), Inv X pins σ H s → RelV x v → RelV y u → Dm G H S → Loo G H S dx x → Loo G H S dy y → Post G W H S (h dx dy) Q →
    wpAny (model X.prog X.w) X.A (f v u) (EP X pins σ Q) X.xe s) : OpR X f (rD G h) := by
  intro pins s σ H x y v u Q I rx ry h
  obtain ⟨W, S, dx, dy, dm, lx, ly, p⟩ := h
  exact pick pins s σ H W S x y v u Q dx dy I rx ry dm lx ly p
theorem Post.ite {W : Str → Hp → Prop} {H : Hp} {S : Sy} {c : Prop} [Decidable c] {r : Res (Bool × D)} {Q : VK} (p : Post G W H S (if c then r else .fail) Q) : c ∧ Post G W H S r Q := by
  by_cases z : c
  · rw [if_pos z] at p; exact ⟨z, p⟩
  · rw [if_neg z] at p; exact p.elim
theorem MulOk.ok {i j : Int} (h : MulOk i j) : IntMulOk i j := by
  rcases h with h | h | h
  · exact CMul.ok (.inr h)
  · exact CMul.ok (.inl h)
  · exact CMulW.ok h
theorem op_mulM : OpR X (binaryOp .Mult) (rI MulOk fun i j => .int (i * j)) := opI fun _ _ _ _ _ _ _ hc q => mul_int q hc.ok
theorem op_fdivNeg : OpR X (binaryOp .FloorDiv) (rI (fun _ j => j < 0 ∧ j.natAbs.log2 < 9000) fun i j => .int (i.fdiv j)) := opI fun i j _ _ _ _ _ hc q => floordiv_int (by omega) q (.inl (PyProof.noPylong_of_log2 hc.2))
theorem op_binD (hK : X.K = G.K) (o : Operator) : OpR X (binaryOp o) (rD G (opD o)) := by
  refine op_pick fun pins s σ H W S x y v u Q dx dy I rx ry dm lx ly p => ?_
  cases dx with
  | int i =>
    cases dy with
    | int j =>
      have ex := lx.int
      have ey := ly.int
      subst ex ey
      cases o with
      | Add => exact op_add pins s σ H _ _ v u Q I rx ry ⟨i, j, rfl, rfl, p.f (.int _)⟩
      | Sub => exact op_sub pins s σ H _ _ v u Q I rx ry ⟨i, j, rfl, rfl, p.f (.int _)⟩
      | Mult =>
        obtain ⟨c, p⟩ := Post.ite p
        exact op_mulM pins s σ H _ _ v u Q I rx ry ⟨i, j, rfl, rfl, c, p.f (.int _)⟩
      | FloorDiv =>
        have p : Post G W H S (if 0 < j ∧ j.natAbs.log2 < 9000 then okF (.int (i / j)) else if j < 0 ∧ j.natAbs.log2 < 9000 then okF (.int (i.fdiv j)) else .fail) Q := p
        by_cases c : 0 < j ∧ j.natAbs.log2 < 9000
        · rw [if_pos c] at p
          exact op_fdivW pins s σ H _ _ v u Q I rx ry ⟨i, j, rfl, rfl, c, p.f (.int _)⟩
        · rw [if_neg c] at p
          obtain ⟨c, p⟩ := Post.ite p
          exact op_fdivNeg pins s σ H _ _ v u Q I rx ry ⟨i, j, rfl, rfl, c, p.f (.int _)⟩
      | Mod =>
        obtain ⟨c, p⟩ := Post.ite p
        exact op_mod pins s σ H _ _ v u Q I rx ry ⟨i, j, rfl, rfl, c, p.f (.int _)⟩
      | Pow =>
        obtain ⟨c, p⟩ := Post.ite p
        exact op_pow pins s σ H _ _ v u Q I rx ry ⟨i, j, rfl, rfl, c, p.f (.int _)⟩
      | _ => exact False.elim p
    | _ => cases o <;> exact False.elim p
  | str a =>
    cases dy with
    | str b =>
      have ex := lx.str
      have ey := ly.str
      subst ex ey
      cases o with
      | Add =>
        obtain ⟨c, p⟩ := Post.ite p
        exact op_add_str pins s σ H _ _ v u Q I rx ry ⟨a, b, rfl, rfl, c, p.f (.str _)⟩
      | _ => exact False.elim p
    | int k =>
      have ex := lx.str
      have ey := ly.int
      subst ex ey
      cases o with
      | Mult =>
        obtain ⟨c, p⟩ := Post.ite p
        exact Hg.op_repS pins s σ H _ _ v u Q I rx ry ⟨a, k, rfl, rfl, c, p.f (.str _)⟩
      | _ => exact False.elim p
    | _ => cases o <;> exact False.elim p
  | lst as =>
    obtain ⟨a, xs, rfl, ra, pa⟩ := lx.lst hK
    cases dy with
    | lst bs =>
      obtain ⟨b, ys, rfl, rb, pb⟩ := ly.lst hK
      cases o with
      | Add =>
        obtain ⟨c, p⟩ := Post.ite p
        exact op_catR pins s σ H _ _ v u Q I rx ry ⟨a, b, xs, ys, rfl, rfl, ra, rb, by rw [← Paired.length pa, ← Paired.length pb]; exact c, fun q hq => p.new dm (pa.app pb) q hq⟩
      | _ => exact False.elim p
    | int k =>
      have ey := ly.int
      subst ey
      cases o with
      | Mult =>
        obtain ⟨⟨c1, c2, c3⟩, p⟩ := Post.ite p
        exact op_repR pins s σ H _ _ v u Q I rx ry ⟨a, k, xs, rfl, rfl, ra, c1, c2, by rw [← Paired.length pa]; exact c3, fun q hq => p.new dm (pa.rp _) q hq⟩
      | _ => exact False.elim p
    | _ => cases o <;> exact False.elim p
  | tup as =>
    obtain ⟨a, xs, rfl, ra, pa⟩ := lx.tup
    cases dy with
    | tup bs =>
      obtain ⟨b, ys, rfl, rb, pb⟩ := ly.tup
      cases o with
      | Add =>
        obtain ⟨c, p⟩ := Post.ite p
        refine op_catA pins s σ H _ _ v u Q I rx ry ⟨a, b, xs, ys, rfl, rfl, by rw [hK]; exact ra.sq, by rw [hK]; exact rb.sq, by rw [← Paired.length pa, ← Paired.length pb]; exact c, fun e => ?_, fun _ e => ?_, fun _ _ q hq => p.newT (pa.app pb) q hq⟩
        · subst e
          cases pa
          exact p.f (.tup rb pb)
        · subst e
          cases pb
          exact p.f (.tup ra (by rw [List.append_nil]; exact pa))
      | _ => exact False.elim p
    | int k =>
      have ey := ly.int
      subst ey
      cases o with
      | Mult =>
        obtain ⟨⟨c1, c2, c3, c4⟩, p⟩ := Post.ite p
        have hn : xs ≠ [] := fun z => by
          subst z
          cases pa
          exact c1 rfl
        by_cases k1 : k = 1
        · subst k1
          refine Hg.op_repT1 pins s σ H _ _ v u Q I rx ry ⟨a, xs, rfl, rfl, by rw [hK]; exact ra.sq, p.f (.tup ra ?_)⟩
          have e : (List.replicate (1 : Int).toNat as).flatten = as := by show (List.replicate 1 as).flatten = as; simp
          rw [e]
          exact pa
        exact op_repT pins s σ H _ _ v u Q I rx ry ⟨a, k, xs, rfl, rfl, by rw [hK]; exact ra.sq, hn, by omega, c3, by rw [← Paired.length pa]; exact c4, fun q hq => p.newT (pa.rp _) q hq⟩
      | _ => exact False.elim p
    | _ => cases o <;> exact False.elim p
  | _ => cases o <;> cases dy <;> exact False.elim p
end
end Hf

/-! Hf3: comparisons, subscripts, built-in functions, by values. -/
namespace Hf
open PySem PySem.Spec PyProof.Rows L2
set_option autoImplicit false
section
variable {G : Gm} {H : Hp} {S : Sy}
mutual
theorem Rep.dp : ∀ (d : D) (v : V), d.pl = true → Rep G H S d v → Dp G.K H v d.toP
  | .non, _, _, .non => .non
  | .bl _, _, _, .bl b => .bl b
  | .int _, _, _, .int i => .int i
  | .str _, _, _, .str x => .str x
  | .lst ds, _, h, .lst q p => .lst q.sq (Rep.dps ds _ h p)
  | .tup ds, _, h, .tup q p => .tup q.sq (Rep.dps ds _ h p)
  | .fn _, _, h, _ => by cases h
  | .exc _, _, h, _ => by cases h
  | .dct _ _, _, h, _ => by cases h
theorem Rep.dps : ∀ (ds : List D) (vs : List V), D.pls ds = true → Paired (Rep G H S) ds vs → DpAll G.K H vs (D.toPs ds)
  | [], _, _, .nil => .nil
  | d :: ds, _, h, .cons r t => by
    have h' : (d.pl && D.pls ds) = true := h
    rw [Bool.and_eq_true] at h'
    exact .cons (Rep.dp d _ h'.1 r) (Rep.dps ds _ h'.2 t)
end
theorem Loo.dp {d : D} {v : V} (hp : d.pl = true) (h : Loo G H S d v) : Dp G.K H v d.toP := by
  rcases h with h | ⟨a, xs, ds, rfl, rfl, _, e2, e3⟩
  · exact Rep.dp d v hp h
  · exact .lst (sql (.inl e2)) (Rep.dps ds _ hp e3)
end
section
variable {X : Cx} {G : Gm}
theorem Post.okB {W : Str → Hp → Prop} {H : Hp} {S : Sy} {r : Res Bool} {Q : VK} (p : Post G W H S (okB r) Q) (hx : ∀ c, r ≠ .exc c) : ∃ k, r = .ok k ∧ Q (.bl k) H := by
  cases r with
  | ok k => exact ⟨k, rfl, p.f (.bl k)⟩
  | exc c => exact absurd rfl (hx c)
  | fail => exact False.elim p
theorem eqD_ok {a b : D} {k : Bool} (e : D.eqD a b = .ok k) : a.pl = true ∧ b.pl = true ∧ a.toP.canLay0 = true ∧ b.toP.canLay0 = true ∧ min a.toP.depth b.toP.depth ≤ 150 ∧ k = PyData.eqv a.toP b.toP := by
  unfold D.eqD at e
  split at e
  · rename_i h
    cases e
    exact ⟨h.1, h.2.1, h.2.2.1, h.2.2.2.1, h.2.2.2.2, rfl⟩
  · cases e
theorem eqD_nox {a b : D} {c : Str} : D.eqD a b ≠ .exc c := fun e => by
  unfold D.eqD at e
  split at e <;> cases e
theorem cmp_eq (hK : X.K = G.K) (hu : X.A.units + 150 < cLine) {pins : List (Addr × Obj)} {s : Shared} {σ : L2.St} {H : Hp} {S : Sy} {x y : V} {v u : Value} {Q : VK} {dx dy : D} {k : Bool} (I : Inv X pins σ H s) (rx : RelV x v) (ry : RelV y u) (lx : Loo G H S dx x) (ly : Loo G H S dy y)
    (e : D.eqD dx dy = .ok k) : (Q (.bl k) H → wpAny (model X.prog X.w) X.A (compareOp .Eq v u) (EP X pins σ Q) X.xe s) ∧ (Q (.bl (!k)) H → wpAny (model X.prog X.w) X.A (compareOp .NotEq v u) (EP X pins σ Q) X.xe s) := by
  obtain ⟨h1, h2, h3, h4, h5, rfl⟩ := eqD_ok e
  obtain ⟨as, r1⟩ := Dp.reads I dx.toP x v (by rw [hK]; exact lx.dp h1) rx
  obtain ⟨bs, r2⟩ := Dp.reads I dy.toP y u (by rw [hK]; exact ly.dp h2) ry
  have hr : X.A.units + min dx.toP.depth dy.toP.depth < cLine := by omega
  exact ⟨fun q => SeqAt.compareEq_reads r1 r2 h3 h4 hr ⟨.bl _, H, I, rfl, q⟩, fun q => SeqAt.compareNe_reads r1 r2 h3 h4 hr ⟨.bl _, H, I, rfl, q⟩⟩
theorem inS_ok {a : D} {xs : List D} {k : Bool} (e : inS a xs = .ok k) : a.pl = true ∧ D.pls xs = true ∧ a.toP.canLay0 = true ∧ PyData.canLayAll0 (D.toPs xs) = true ∧ min (PyData.depthAll (D.toPs xs)) a.toP.depth ≤ 140 ∧ k = (D.toPs xs).any fun z => PyData.eqv z a.toP := by
  unfold inS at e
  split at e
  · rename_i h
    cases e
    exact ⟨h.1, h.2.1, h.2.2.1, h.2.2.2.1, h.2.2.2.2, rfl⟩
  · cases e
theorem valV_kvD (ks : List Str) (xs : List V) (z : Str) : valV (kvD ks xs) (.inr z) = lkD ks xs z := by
  induction ks generalizing xs with
  | nil => rfl
  | cons k r ih =>
    cases xs with
    | nil => rfl
    | cons x t =>
      show valV ((Sum.inr k, x) :: kvD r t) (Sum.inr z) = if k = z then some x else lkD r t z
      by_cases e : k = z
      · rw [if_pos e, valV_pos (by rw [e])]
      · rw [if_neg e, valV_neg (fun q => e (Sum.inr.inj q)), ih]
theorem lkD_pair {F : D → V → Prop} {ds : List D} {xs : List V} (p : Paired F ds xs) (z : Str) : ∀ ks : List Str, (∀ d, lkD ks ds z = some d → ∃ v, lkD ks xs z = some v ∧ F d v) ∧ (lkD ks xs z).isSome = (lkD ks ds z).isSome := by
  induction p with
  | nil => intro ks; cases ks <;> exact ⟨(fun _ e => nomatch e), rfl⟩
  | @cons a b l m h t ih =>
    intro ks
    cases ks with
    | nil => exact ⟨(fun _ e => nomatch e), rfl⟩
    | cons k r =>
      by_cases e : k = z
      · refine ⟨fun d q => ?_, ?_⟩
        · rw [lkD, if_pos e] at q ⊢
          cases q
          exact ⟨_, rfl, h⟩
        · rw [lkD, lkD, if_pos e, if_pos e] <;> rfl
      · refine ⟨fun d q => ?_, ?_⟩
        · rw [lkD, if_neg e] at q ⊢
          exact (ih r).1 d q
        · rw [lkD, lkD, if_neg e, if_neg e]
          exact (ih r).2
theorem dct_in (hK : X.K = G.K) (hW : X.w = G.w) (hu : X.A.units + 150 < cLine) {pins : List (Addr × Obj)} {s : Shared} {σ : L2.St} {H : Hp} {S : Sy} {v u : Value} {Q : VK} {z : Str} {a : Addr} {ks : List Str} {xs : List V} (I : Inv X pins σ H s) (rx : RelV (.str z) v) (ry : RelV (.ref a) u) (q : FzD G.K G.w H S a ks xs) :
    (Q (.bl (lkD ks xs z).isSome) H → wpAny (model X.prog X.w) X.A (compareOp .In v u) (EP X pins σ Q) X.xe s) ∧ (Q (.bl (!(lkD ks xs z).isSome)) H → wpAny (model X.prog X.w) X.A (compareOp .NotIn v u) (EP X pins σ Q) X.xe s) := by
  have hu1 : X.A.units + 1 < cLine := by omega
  rcases q with ⟨_, q⟩ | ⟨⟨es, n, hd⟩, hz⟩
  · have g : DGet H a (kV (.inr z)) (lkD ks xs z) := .inl ⟨_, .inr z, q, rfl, (valV_kvD ks xs z).symm⟩
    cases ry
    exact ⟨fun p => d_in hu1 I g rx fun s' I' => ⟨.bl _, H, I', rfl, p⟩, fun p => d_notIn hu1 I g rx fun s' I' => ⟨.bl _, H, I', rfl, p⟩⟩
  · have hd' : KDict X.K X.w a es n := by rw [hK, hW]; exact hd
    have h := hz z
    have key : ∃ r, PySem.W.nsIn X.K a z = some r ∧ r.isSome = (lkD ks xs z).isSome := by
      rw [hK]
      cases e : lkD ks xs z with
      | none => rw [e] at h; exact ⟨none, h, rfl⟩
      | some w => rw [e] at h; obtain ⟨u', h1, _⟩ := h; exact ⟨some u', h1, rfl⟩
    obtain ⟨r, h1, h2⟩ := key
    exact ⟨fun p => op_in_kd hd' pins s σ H _ _ v u Q I rx ry ⟨z, r, rfl, rfl, h1, by rw [h2]; exact p⟩, fun p => op_notIn_kd hd' pins s σ H _ _ v u Q I rx ry ⟨z, r, rfl, rfl, h1, by rw [h2]; exact p⟩⟩
theorem ix_dct (hK : X.K = G.K) (hW : X.w = G.w) (hu : X.A.units + 150 < cLine) : IxR X (fun x y H Q => ∃ (S : Sy) (a : Addr) (z : Str) (ks : List Str) (xs : List V) (v : V), x = .ref a ∧ y = .str z ∧ FzD G.K G.w H S a ks xs ∧ lkD ks xs z = some v ∧ Q v H) := by
  intro value slice pins s σ H x y v u Q I rx ry h hs
  obtain ⟨S, a, z, ks, xs, w, rfl, rfl, q, e, p⟩ := h
  have hu1 : X.A.units + 1 < cLine := by omega
  rcases q with ⟨_, q⟩ | ⟨⟨es, n, hd⟩, hz⟩
  · have g : DGet H a (kV (.inr z)) (some w) := .inl ⟨_, .inr z, q, rfl, by rw [valV_kvD, e]⟩
    obtain rfl : v = Value.ref a := rx
    exact tail_any (dict_typeIs I g) PySem.F.slot_dict_getitem.lookup (d_getItem hu1 I g ry fun w' s' I' rw' => ⟨w, H, I', rw', p⟩) hs
  · have h := hz z
    rw [e] at h
    obtain ⟨u', h1, h2⟩ := h
    exact ix_kdict value slice pins s σ H _ _ v u Q I rx ry ⟨a, z, w, rfl, rfl, ⟨es, n, u', by rw [hK]; exact hd.at_, by rw [hW]; exact hd.lit, by rw [hK]; exact h1, h2⟩, p⟩ hs
theorem inD_nox {a b : D} {c : Str} : inD a b ≠ .exc c := fun e => by
  cases b with
  | tup xs =>
    have e' : inS a xs = .exc c := e
    unfold inS at e'
    split at e' <;> cases e'
  | lst xs =>
    have e' : inS a xs = .exc c := e
    unfold inS at e'
    split at e' <;> cases e'
  | str y => cases a <;> cases e
  | dct ks vs => cases a <;> cases e
  | _ => cases e
theorem cmp_in (hK : X.K = G.K) (hW : X.w = G.w) (hu : X.A.units + 150 < cLine) {pins : List (Addr × Obj)} {s : Shared} {σ : L2.St} {H : Hp} {S : Sy} {x y : V} {v u : Value} {Q : VK} {dx dy : D} {k : Bool} (I : Inv X pins σ H s) (rx : RelV x v) (ry : RelV y u) (lx : Loo G H S dx x) (ly : Loo G H S dy y)
    (e : inD dx dy = .ok k) : (Q (.bl k) H → wpAny (model X.prog X.w) X.A (compareOp .In v u) (EP X pins σ Q) X.xe s) ∧ (Q (.bl (!k)) H → wpAny (model X.prog X.w) X.A (compareOp .NotIn v u) (EP X pins σ Q) X.xe s) := by
  cases dy with
  | tup xs =>
    obtain ⟨h1, h2, h3, h4, h5, rfl⟩ := inS_ok e
    obtain ⟨as, r1⟩ := Dp.reads I dx.toP x v (by rw [hK]; exact lx.dp h1) rx
    obtain ⟨bs, r2⟩ := Dp.reads I (D.tup xs).toP y u (by rw [hK]; exact ly.dp h2) ry
    have hr : X.A.units + 1 + min (PyData.depthAll (D.toPs xs)) dx.toP.depth < cLine := by omega
    exact ⟨fun q => SeqAt.in_tuple_reads r2 r1 h4 h3 hr ⟨.bl _, H, I, rfl, q⟩, fun q => SeqAt.notIn_tuple_reads r2 r1 h4 h3 hr ⟨.bl _, H, I, rfl, q⟩⟩
  | lst xs =>
    obtain ⟨h1, h2, h3, h4, h5, rfl⟩ := inS_ok e
    obtain ⟨as, r1⟩ := Dp.reads I dx.toP x v (by rw [hK]; exact lx.dp h1) rx
    obtain ⟨bs, r2⟩ := Dp.reads I (D.lst xs).toP y u (by rw [hK]; exact ly.dp h2) ry
    have hr : X.A.units + 1 + min (PyData.depthAll (D.toPs xs)) dx.toP.depth < cLine := by omega
    exact ⟨fun q => SeqAt.in_list_reads r2 r1 h4 h3 hr ⟨.bl _, H, I, rfl, q⟩, fun q => SeqAt.notIn_list_reads r2 r1 h4 h3 hr ⟨.bl _, H, I, rfl, q⟩⟩
  | str b =>
    cases dx with
    | str a =>
      cases e
      cases lx.str
      cases ly.str
      exact ⟨fun q => op_in_str pins s σ H _ _ v u Q I rx ry ⟨a, b, rfl, rfl, q⟩, fun q => op_notin_str pins s σ H _ _ v u Q I rx ry ⟨a, b, rfl, rfl, q⟩⟩
    | _ => cases e
  | dct ks ds =>
    cases dx with
    | str z =>
      cases e
      cases lx.str
      obtain ⟨a, xs, rfl, q, p⟩ := ly.dct
      rw [← (lkD_pair p z ks).2]
      exact dct_in hK hW hu I rx ry q
    | _ => cases e
  | _ => cases e
theorem cm_in {a b : D} : cmpD .In a b = inD a b := by cases a <;> cases b <;> rfl
theorem cm_notin {a b : D} : cmpD .NotIn a b = (match inD a b with | .ok c => Res.ok (!c) | .exc c => .exc c | .fail => .fail) := by cases a <;> cases b <;> rfl
theorem cmpD_nox {o : CmpOp} {a b : D} {c : Str} : cmpD o a b ≠ .exc c := fun e => by
  cases o with
  | Eq => exact eqD_nox e
  | NotEq =>
    have e' : (match D.eqD a b with | .ok c => Res.ok (!c) | .exc c => .exc c | .fail => .fail) = Res.exc c := e
    cases q : D.eqD a b with
    | ok k => rw [q] at e'; cases e'
    | exc k => exact eqD_nox q
    | fail => rw [q] at e'; cases e'
  | In => exact inD_nox (cm_in.symm.trans e)
  | NotIn =>
    have e' : (match inD a b with | .ok c => Res.ok (!c) | .exc c => .exc c | .fail => .fail) = Res.exc c := cm_notin.symm.trans e
    cases q : inD a b with
    | ok k => rw [q] at e'; cases e'
    | exc k => exact inD_nox q
    | fail => rw [q] at e'; cases e'
  | _ => cases a <;> cases b <;> cases e
/-- a comparison gives a truth value -/
theorem op_cmpD (hK : X.K = G.K) (hW : X.w = G.w) (hu : X.A.units + 150 < cLine) (o : CmpOp) : OpR X (compareOp o) (fun x y H Q => ∃ S dx dy k, Loo G H S dx x ∧ Loo G H S dy y ∧ cmpD o dx dy = .ok k ∧ Q (.bl k) H) := by
  intro pins s σ H x y v u Q I rx ry h
  obtain ⟨S, dx, dy, k, lx, ly, e, q⟩ := h
  cases o with
  | Eq => exact (cmp_eq hK hu I rx ry lx ly e).1 q
  | NotEq =>
    have e' : (match D.eqD dx dy with | .ok c => Res.ok (!c) | .exc c => .exc c | .fail => .fail) = Res.ok k := e
    cases z : D.eqD dx dy with
    | ok k' => rw [z] at e'; cases e'; exact (cmp_eq hK hu I rx ry lx ly z).2 q
    | exc k' => rw [z] at e'; cases e'
    | fail => rw [z] at e'; cases e'
  | In => exact (cmp_in hK hW hu I rx ry lx ly (cm_in.symm.trans e)).1 q
  | NotIn =>
    have e' : (match inD dx dy with | .ok c => Res.ok (!c) | .exc c => .exc c | .fail => .fail) = Res.ok k := cm_notin.symm.trans e
    cases z : inD dx dy with
    | ok k' => rw [z] at e'; cases e'; exact (cmp_in hK hW hu I rx ry lx ly z).2 q
    | exc k' => rw [z] at e'; cases e'
    | fail => rw [z] at e'; cases e'
  | Lt =>
    cases dx <;> cases dy <;> first | (cases e; done) | skip
    cases lx.int; cases ly.int; cases e
    obtain ⟨t, rfl⟩ := rx; obtain ⟨t', rfl⟩ := ry
    exact lt_int ⟨.bl _, H, I, rfl, q⟩
  | LtE =>
    cases dx <;> cases dy <;> first | (cases e; done) | skip
    cases lx.int; cases ly.int; cases e
    obtain ⟨t, rfl⟩ := rx; obtain ⟨t', rfl⟩ := ry
    exact le_int ⟨.bl _, H, I, rfl, q⟩
  | Gt =>
    cases dx <;> cases dy <;> first | (cases e; done) | skip
    cases lx.int; cases ly.int; cases e
    obtain ⟨t, rfl⟩ := rx; obtain ⟨t', rfl⟩ := ry
    exact gt_int ⟨.bl _, H, I, rfl, q⟩
  | GtE =>
    cases dx <;> cases dy <;> first | (cases e; done) | skip
    cases lx.int; cases ly.int; cases e
    obtain ⟨t, rfl⟩ := rx; obtain ⟨t', rfl⟩ := ry
    exact ge_int ⟨.bl _, H, I, rfl, q⟩
  | Is =>
    cases dx <;> cases dy <;> first | (cases e; done) | skip
    cases lx.bl; cases ly.bl; cases e
    exact op_is_bl pins s σ H _ _ v u Q I rx ry ⟨_, _, rfl, rfl, q⟩
  | IsNot =>
    cases dx <;> cases dy <;> first | (cases e; done) | skip
    cases lx.bl; cases ly.bl; cases e
    exact op_isnot_bl pins s σ H _ _ v u Q I rx ry ⟨_, _, rfl, rfl, q⟩

/-! ### subscripts -/
theorem ixN_pair {ds : List D} {xs : List V} {F : D → V → Prop} (p : Paired F ds xs) {i : Int} {d : D} (h : atI ds i = some d) : ∃ v, atI xs i = some v ∧ F d v := by
  unfold atI at h ⊢
  rw [← Paired.length p]
  cases e : ixN ds.length i with
  | none => rw [e] at h; cases h
  | some j =>
    rw [e] at h
    obtain ⟨v, h1, h2⟩ := p.gt h
    exact ⟨v, h1, h2⟩
theorem ix_D (hK : X.K = G.K) (hW : X.w = G.w) (hu : X.A.units + 150 < cLine) : IxR X (rD G idxD) := by
  intro value slice pins s σ H x y v u Q I rx ry h hs
  obtain ⟨W, S, dx, dy, dm, lx, ly, p⟩ := h
  cases dx with
  | lst as =>
    cases dy with
    | int i =>
      obtain ⟨a, xs, rfl, ra, pa⟩ := lx.lst hK
      cases ly.int
      have p' : Post G W H S (match atI as i with | some d => okF d | none => .fail) Q := p
      cases e : atI as i with
      | none => rw [e] at p'; exact p'.elim
      | some d =>
        rw [e] at p'
        obtain ⟨w, h1, h2⟩ := ixN_pair pa e
        exact ix_list value slice pins s σ H _ _ v u Q I rx ry ⟨a, xs, i, w, rfl, rfl, ra, h1, p'.f h2⟩ hs
    | _ => exact False.elim p
  | tup as =>
    cases dy with
    | int i =>
      obtain ⟨a, xs, rfl, ra, pa⟩ := lx.tup
      cases ly.int
      have p' : Post G W H S (match atI as i with | some d => okF d | none => .fail) Q := p
      cases e : atI as i with
      | none => rw [e] at p'; exact p'.elim
      | some d =>
        rw [e] at p'
        obtain ⟨w, h1, h2⟩ := ixN_pair pa e
        exact ix_tup value slice pins s σ H _ _ v u Q I rx ry ⟨a, xs, i, w, rfl, rfl, by rw [hK]; exact ra.sq, h1, p'.f h2⟩ hs
    | _ => exact False.elim p
  | dct ks ds =>
    cases dy with
    | str z =>
      obtain ⟨a, xs, rfl, ra, pa⟩ := lx.dct
      cases ly.str
      have p' : Post G W H S (match lkD ks ds z with | some d => okF d | none => .fail) Q := p
      cases e : lkD ks ds z with
      | none => rw [e] at p'; exact p'.elim
      | some d =>
        rw [e] at p'
        obtain ⟨w, h1, h2⟩ := (lkD_pair pa z ks).1 d e
        exact ix_dct hK hW hu value slice pins s σ H _ _ v u Q I rx ry ⟨S, a, z, ks, xs, w, rfl, rfl, ra, h1, p'.f h2⟩ hs
    | _ => exact False.elim p
  | str z =>
    cases dy with
    | int i =>
      cases lx.str
      cases ly.int
      obtain ⟨c, p⟩ := Post.ite p
      have p' : Post G W H S (match atI z.cps.toList i with | some c => okF (.str ⟨#[c]⟩) | none => .fail) Q := p
      cases e : atI z.cps.toList i with
      | none => rw [e] at p'; exact p'.elim
      | some d =>
        rw [e] at p'
        exact ix_str value slice pins s σ H _ _ v u Q I rx ry ⟨z, i, d, rfl, rfl, c, e, p'.f (.str _)⟩ hs
    | _ => exact False.elim p
  | _ => cases dy <;> exact False.elim p
def rSl (G : Gm) : V → Option Int → Option Int → Hp → VK → Prop := fun x lo hi H Q => ∃ W S dx, Dm G H S ∧ Loo G H S dx x ∧ Post G W H S (slcD dx lo hi) Q
theorem whole_of {α : Type} {xs : List α} {lo hi : Option Int} (h : HT.sIx xs.length 0 lo = 0 ∧ HT.sIx xs.length xs.length hi = xs.length) : (xs.drop (HT.sIx xs.length 0 lo)).take (HT.sIx xs.length xs.length hi - HT.sIx xs.length 0 lo) = xs := by
  rw [h.1, h.2]
  simp
theorem sl_D (hK : X.K = G.K) : SlR X (rSl G) := by
  intro pins s σ H x v vl vu lo hi sl Q I rx hs pl pu h
  obtain ⟨W, S, dx, dm, lx, p⟩ := h
  cases dx with
  | lst as =>
    obtain ⟨a, xs, rfl, ra, pa⟩ := lx.lst hK
    exact sl_list pins s σ H _ v vl vu lo hi sl Q I rx hs pl pu ⟨a, xs, rfl, ra, fun q hq => p.new dm (cutD_pair pa lo hi) q hq⟩
  | tup as =>
    obtain ⟨a, xs, rfl, ra, pa⟩ := lx.tup
    refine sl_tupA pins s σ H _ v vl vu lo hi sl Q I rx hs pl pu ⟨a, xs, rfl, by rw [hK]; exact ra.sq, fun hw => ?_, fun _ q hq => p.newT (cutD_pair pa lo hi) q hq⟩
    refine p.f (.tup ra ?_)
    have e : cutD as lo hi = as := whole_of (by rw [Paired.length pa]; exact hw)
    rw [e]
    exact pa
  | str z =>
    cases lx.str
    obtain ⟨c, p⟩ := Post.ite p
    exact sl_str pins s σ H _ v vl vu lo hi sl Q I rx hs pl pu ⟨z, rfl, c, p.f (.str _)⟩
  | _ => exact False.elim p

/-! ### built-in functions of one value -/
def rB (G : Gm) (f : D → Res (Bool × D)) : List V → Hp → VK → Prop := fun xs H Q => ∃ W S x dx, xs = [x] ∧ Dm G H S ∧ Loo G H S dx x ∧ Post G W H S (f dx) Q
theorem ints_pair {H : Hp} {S : Sy} : ∀ {ds : List D} {xs : List V} {ns : List Int}, Paired (Rep G H S) ds xs → intsOf ds = some ns → xs = ns.map V.int
  | [], _, ns, .nil, e => by cases e; rfl
  | d :: ds, _, ns, .cons r t, e => by
    cases r with
    | int i =>
      have e' : (intsOf ds).map (i :: ·) = some ns := e
      cases q : intsOf ds with
      | none => rw [q] at e'; cases e'
      | some ms =>
        rw [q] at e'
        cases e'
        rw [ints_pair t q]
        rfl
    | _ => cases e
def Bi.fv : Bi → Value
  | .len => .builtin "len"
  | .tuple => .type "tuple"
  | .list => .type "list"
  | .sum => .builtin "sum"
  | .abs => .builtin "abs"
  | .int => .type "int"
theorem call_bi (hK : X.K = G.K) (f : Bi) (hc : f = .sum → X.calm = true) : CallR X f.fv (rB G (biD f)) := by
  intro pins s σ H xs us Q I r h
  obtain ⟨W, S, x, dx, rfl, dm, lx, p⟩ := h
  cases f with
  | len =>
    cases dx with
    | lst as =>
      obtain ⟨a, xs, rfl, ra, pa⟩ := lx.lst hK
      refine call_len pins s σ H _ us Q I r ⟨_, xs.length, rfl, .inl ⟨xs, ra, rfl⟩, ?_⟩
      rw [← Paired.length pa]
      exact p.f (.int _)
    | tup as =>
      obtain ⟨a, xs, rfl, ra, pa⟩ := lx.tup
      refine call_len pins s σ H _ us Q I r ⟨_, xs.length, rfl, .inr ⟨xs, by rw [hK]; exact ra.sq, rfl⟩, ?_⟩
      rw [← Paired.length pa]
      exact p.f (.int _)
    | str z =>
      cases lx.str
      obtain ⟨c, p⟩ := Post.ite p
      exact call_len pins s σ H _ us Q I r ⟨_, z.length, rfl, ⟨c, rfl⟩, p.f (.int _)⟩
    | _ => exact False.elim p
  | tuple =>
    cases dx with
    | lst as =>
      obtain ⟨a, xs, rfl, ra, pa⟩ := lx.lst hK
      exact call_tuple_of pins s σ H _ us Q I r ⟨a, xs, rfl, .inl ⟨ra, fun q hq => p.newT pa q hq⟩⟩
    | tup as =>
      obtain ⟨a, xs, rfl, ra, pa⟩ := lx.tup
      exact call_tuple_of pins s σ H _ us Q I r ⟨a, xs, rfl, .inr ⟨by rw [hK]; exact ra.sq, p.f (.tup ra pa)⟩⟩
    | _ => exact False.elim p
  | list =>
    cases dx with
    | lst as =>
      obtain ⟨a, xs, rfl, ra, pa⟩ := lx.lst hK
      exact call_list_of pins s σ H _ us Q I r ⟨a, xs, rfl, .inl (ra), fun q hq => p.new dm pa q hq⟩
    | tup as =>
      obtain ⟨a, xs, rfl, ra, pa⟩ := lx.tup
      exact call_list_of pins s σ H _ us Q I r ⟨a, xs, rfl, .inr (by rw [hK]; exact ra.sq), fun q hq => p.new dm pa q hq⟩
    | _ => exact False.elim p
  | sum =>
    cases dx with
    | lst as =>
      obtain ⟨a, xs, rfl, ra, pa⟩ := lx.lst hK
      have p' : Post G W H S (match intsOf as with | some ns => okF (.int ns.sum) | none => .fail) Q := p
      cases e : intsOf as with
      | none => rw [e] at p'; exact p'.elim
      | some ns =>
        rw [e] at p'
        have ex := ints_pair pa e
        subst ex
        exact cr_sum (hc rfl) pins s σ H _ us Q I r ⟨a, ns, rfl, ra, p'.f (.int _)⟩
    | _ => exact False.elim p
  | abs =>
    cases dx with
    | int i =>
      cases lx.int
      exact call_abs pins s σ H _ us Q I r ⟨i, rfl, p.f (.int _)⟩
    | _ => exact False.elim p
  | int =>
    cases dx with
    | int i =>
      cases lx.int
      exact call_int1 pins s σ H _ us Q I r (.inl ⟨i, rfl, p.f (.int _)⟩)
    | bl k =>
      cases lx.bl
      exact call_int1 pins s σ H _ us Q I r (.inr ⟨k, rfl, p.f (.int _)⟩)
    | _ => exact False.elim p

/-! ### isinstance -/
def Ty.nm : Ty → String
  | .int => "int" | .bool => "bool" | .str => "str" | .tuple => "tuple" | .list => "list"
def rI1 (G : Gm) (t : Ty) : List V → Hp → VK → Prop := fun xs H Q => ∃ S x dx k, xs = [x, .ty t.nm] ∧ Loo G H S dx x ∧ isiD dx t = .ok k ∧ Q (.bl k) H
theorem tyx_tup {K : PySem.W.Frag} {H : Hp} {S : Sy} {a : Addr} {xs : List V} (h : FzT K H S a xs) : TyX K H (.ref a) (.type "tuple") := by
  rcases h with ⟨_, h | ⟨o, h⟩⟩ | ⟨o, its, n, h, c, _⟩
  · exact .base (.tup h)
  · exact .fTuple h
  · exact .kTuple h c
theorem tyx_lst {K : PySem.W.Frag} {H : Hp} {a : Addr} {xs : List V} (h : SqL K H a xs) : TyX K H (.ref a) (.type "list") := by
  rcases h with (h | ⟨o, h⟩) | ⟨o, its, n, h, c, _⟩
  · exact .base (.lst h)
  · exact .base (.frz h)
  · exact .kList h c
theorem call_isiD (hK : X.K = G.K) (t : Ty) : CallR X (.builtin "isinstance") (rI1 G t) := by
  intro pins s σ H xs us Q I r h
  obtain ⟨S, x, dx, k, rfl, lx, e, q⟩ := h
  have go : ∀ (a : String), TyX X.K H x (.type a) → kitB a t.nm = some k → wpAny (model X.prog X.w) X.A (call (.builtin "isinstance") us) (EP X pins σ Q) X.xe s := fun a h1 h2 =>
    call_isi pins s σ H _ us Q I r ⟨x, _, .type a, .type t.nm, k, rfl, .ty _, h1, kit_ty h2, q⟩
  cases dx with
  | non => cases lx.non; refine go "NoneType" (.base .non) ?_; cases t <;> cases e <;> decide +kernel
  | bl b => cases lx.bl; refine go "bool" (.base (.bl _)) ?_; cases t <;> cases e <;> decide +kernel
  | int i => cases lx.int; refine go "int" (.base (.int _)) ?_; cases t <;> cases e <;> decide +kernel
  | str z => cases lx.str; refine go "str" (.base (.str _)) ?_; cases t <;> cases e <;> decide +kernel
  | lst as =>
    obtain ⟨a, xs, rfl, ra, pa⟩ := lx.lst hK
    refine go "list" (tyx_lst ra) ?_
    cases t <;> cases e <;> decide +kernel
  | tup as =>
    obtain ⟨a, xs, rfl, ra, pa⟩ := lx.tup
    refine go "tuple" (tyx_tup (by rw [hK]; exact ra)) ?_
    cases t <;> cases e <;> decide +kernel
  | fn _ => cases t <;> cases e
  | exc _ => cases t <;> cases e
  | dct _ _ => cases t <;> cases e
end
end Hf

/-! Hf4: readings by data; expressions' rules over them. -/
namespace Hf
open PySem PySem.Spec PyProof.Rows L2
set_option autoImplicit false

abbrev WD := Str → L2.St → Hp → Prop
def PostL (G : Gm) (W : Str → Hp → Prop) (H : Hp) (S : Sy) (r : Res (List D)) (Q : List V → Hp → Prop) : Prop := match r with
  | .ok ds => ∀ vs H' S', Gr H S H' S' → Paired (Rep G H' S') ds vs → Q vs H'
  | .exc c => ∀ H' S', Gr H S H' S' → W c H'
  | .fail => False
def PostV {α : Type} (W : Str → Hp → Prop) (H : Hp) (S : Sy) (r : Res α) (Q : α → Hp → Prop) : Prop := match r with
  | .ok k => ∀ H' S', Gr H S H' S' → Q k H'
  | .exc c => ∀ H' S', Gr H S H' S' → W c H'
  | .fail => False
/-- what is walked -/
structure Wlk (G : Gm) (J : It) (ds : List D) (H : Hp) (S : Sy) : Prop where
  go : ∀ (i : Nat) (H' : Hp) (S' : Sy), Keep H S H' S' → i < ds.length → J.go i H'
  yld : ∀ (i : Nat) (H' : Hp) (S' : Sy) (x : V) (H'' : Hp), Keep H S H' S' → J.yld i H' x H'' → ∀ d, ds[i]? = some d → H'' = H' ∧ Rep G H' S' d x
  stop : ∀ (H' : Hp) (S' : Sy), Keep H S H' S' → J.stop ds.length H'
def PostI (G : Gm) (W : Str → Hp → Prop) (H : Hp) (S : Sy) (r : Res (List D)) (R : It → Hp → Prop) : Prop := match r with
  | .ok ds => ∀ J H' S', Gr H S H' S' → Wlk G J ds H' S' → R J H'
  | .exc c => ∀ H' S', Gr H S H' S' → W c H'
  | .fail => False
section
variable (G : Gm) (W : WD) (H0 : Hp)
def tD (f : En → Res (Bool × D)) : TE := fun σ H Q => ∃ S ρ, REnv G H0 H S σ ρ ∧ Post G (fun c => W c σ) H S (f ρ) Q
def tB (f : En → Res D) : TE := fun σ H Q => ∃ S ρ, REnv G H0 H S σ ρ ∧ PostB G (fun c => W c σ) H S (f ρ) Q
def tF (f : En → Res D) : TE := fun σ H Q => ∃ S ρ, REnv G H0 H S σ ρ ∧ PostF G (fun c => W c σ) H S (f ρ) Q
def tL (f : En → Res (List D)) : TA := fun σ H Q => ∃ S ρ, REnv G H0 H S σ ρ ∧ PostL G (fun c => W c σ) H S (f ρ) Q
def tT (f : En → Res Bool) : TT := fun σ H Q => ∃ S ρ, REnv G H0 H S σ ρ ∧ PostV (fun c => W c σ) H S (f ρ) Q
def tO (f : En → Res (Option Int)) : TO := fun σ H Q => ∃ S ρ, REnv G H0 H S σ ρ ∧ PostV (fun c => W c σ) H S (f ρ) Q
def tI (f : En → Res (List D)) : TI := fun σ H R => ∃ S ρ, REnv G H0 H S σ ρ ∧ PostI G (fun c => W c σ) H S (f ρ) R
end
section
variable {X : Cx} {e : Expr}
theorem _root_.L2.PE.im {t t' : TE} (h : PE X e t) (i : ∀ σ H Q, t' σ H Q → t σ H Q) : PE X e t' := ⟨fun pins s σ H Q I q => h.run pins s σ H Q I (i σ H Q q)⟩
theorem _root_.L2.PT.im {t t' : TT} (h : PT X e t) (i : ∀ σ H Q, t' σ H Q → t σ H Q) : PT X e t' := ⟨fun pins s σ H Q I q => h.run pins s σ H Q I (i σ H Q q)⟩
theorem _root_.L2.PW.im {t t' : TT} (h : PW X e t) (i : ∀ σ H Q, t' σ H Q → t σ H Q) : PW X e t' := ⟨fun w pins s σ H Q I q => h.run w pins s σ H Q I (i σ H Q q)⟩
theorem _root_.L2.PA.im {es : List Expr} {t t' : TA} (h : PA X es t) (i : ∀ σ H Q, t' σ H Q → t σ H Q) : PA X es t' := ⟨fun pos pins s σ H Q I q => h.run pos pins s σ H Q I (i σ H Q q)⟩
theorem _root_.L2.PI.im {tg : Expr} {t t' : TI} (h : PI X tg e t) (i : ∀ σ H Q, t' σ H Q → t σ H Q) : PI X tg e t' := ⟨fun pins s σ H Q I q => h.run pins s σ H Q I (i σ H Q q)⟩
end

/-! ### one step behind another -/
section
variable {G : Gm} {W : Str → Hp → Prop} {H : Hp} {S : Sy} {β : Type} {Z : Res β → Prop}
/-- what a wish about a result allows to read off a first step -/
structure Rd1 (W : Str → Hp → Prop) (H : Hp) (S : Sy) {β : Type} (Z : Res β → Prop) : Prop where
  f : Z .fail → False
  x : ∀ c, Z (.exc c) → ∀ H' S', Gr H S H' S' → W c H'
theorem rdD {Q : VK} : Rd1 W H S (fun r => Post G W H S r Q) := ⟨fun h => h, fun _ h => h⟩
theorem rdB {Q : VK} : Rd1 W H S (fun r => PostB G W H S r Q) := ⟨fun h => h, fun _ h => h⟩
theorem rdF {Q : VK} : Rd1 W H S (fun r => PostF G W H S r Q) := ⟨fun h => h, fun _ h => h⟩
theorem rdL {Q : List V → Hp → Prop} : Rd1 W H S (fun r => PostL G W H S r Q) := ⟨fun h => h, fun _ h => h⟩
theorem rdV {α : Type} {Q : α → Hp → Prop} : Rd1 W H S (fun r => PostV W H S r Q) := ⟨fun h => h, fun _ h => h⟩
theorem rdI {R : It → Hp → Prop} : Rd1 W H S (fun r => PostI G W H S r R) := ⟨fun h => h, fun _ h => h⟩
variable {α : Type}
theorem mkD (rd : Rd1 W H S Z) {r : Res (Bool × D)} {k : Bool × D → Res β} {Q : VK} (z : Z (r.bind k)) (ok : ∀ b d, Z (k (b, d)) → ∀ v H' S', Gr H S H' S' → RepO G H H' S' b d v → Q v H') : Post G W H S r Q := by
  cases r with
  | ok x => exact ok x.1 x.2 z
  | exc c => exact rd.x c z
  | fail => exact rd.f z
theorem mkB (rd : Rd1 W H S Z) {r : Res D} {k : D → Res β} {Q : VK} (z : Z (r.bind k)) (ok : ∀ d, Z (k d) → ∀ v H' S', Gr H S H' S' → Loo G H' S' d v → Q v H') : PostB G W H S r Q := by
  cases r with
  | ok x => exact ok x z
  | exc c => exact rd.x c z
  | fail => exact rd.f z
theorem mkF (rd : Rd1 W H S Z) {r : Res D} {k : D → Res β} {Q : VK} (z : Z (r.bind k)) (ok : ∀ d, Z (k d) → ∀ v H' S', Gr H S H' S' → Rep G H' S' d v → Q v H') : PostF G W H S r Q := by
  cases r with
  | ok x => exact ok x z
  | exc c => exact rd.x c z
  | fail => exact rd.f z
theorem mkL (rd : Rd1 W H S Z) {r : Res (List D)} {k : List D → Res β} {Q : List V → Hp → Prop} (z : Z (r.bind k)) (ok : ∀ ds, Z (k ds) → ∀ vs H' S', Gr H S H' S' → Paired (Rep G H' S') ds vs → Q vs H') : PostL G W H S r Q := by
  cases r with
  | ok x => exact ok x z
  | exc c => exact rd.x c z
  | fail => exact rd.f z
theorem mkV (rd : Rd1 W H S Z) {r : Res α} {k : α → Res β} {Q : α → Hp → Prop} (z : Z (r.bind k)) (ok : ∀ a, Z (k a) → ∀ H' S', Gr H S H' S' → Q a H') : PostV W H S r Q := by
  cases r with
  | ok x => exact ok x z
  | exc c => exact rd.x c z
  | fail => exact rd.f z
theorem mkI (rd : Rd1 W H S Z) {r : Res (List D)} {k : List D → Res β} {R : It → Hp → Prop} (z : Z (r.bind k)) (ok : ∀ ds, Z (k ds) → ∀ J H' S', Gr H S H' S' → Wlk G J ds H' S' → R J H') : PostI G W H S r R := by
  cases r with
  | ok x => exact ok x z
  | exc c => exact rd.x c z
  | fail => exact rd.f z
theorem PostB.gr {r : Res D} {Q : VK} {H2 : Hp} {S2 : Sy} (e : Gr H S H2 S2) (h : PostB G W H S r Q) : PostB G W H2 S2 r Q := by
  cases r with
  | fail => exact h
  | exc c => exact fun H' S' e' => h H' S' (e.trans e')
  | ok d => exact fun v H' S' e' => h v H' S' (e.trans e')
theorem PostL.gr {r : Res (List D)} {Q : List V → Hp → Prop} {H2 : Hp} {S2 : Sy} (e : Gr H S H2 S2) (h : PostL G W H S r Q) : PostL G W H2 S2 r Q := by
  cases r with
  | fail => exact h
  | exc c => exact fun H' S' e' => h H' S' (e.trans e')
  | ok d => exact fun v H' S' e' => h v H' S' (e.trans e')
theorem PostV.gr {α : Type} {r : Res α} {Q : α → Hp → Prop} {H2 : Hp} {S2 : Sy} (e : Gr H S H2 S2) (h : PostV W H S r Q) : PostV W H2 S2 r Q := by
  cases r with
  | fail => exact h
  | exc c => exact fun H' S' e' => h H' S' (e.trans e')
  | ok d => exact fun H' S' e' => h H' S' (e.trans e')
theorem PostI.gr {r : Res (List D)} {R : It → Hp → Prop} {H2 : Hp} {S2 : Sy} (e : Gr H S H2 S2) (h : PostI G W H S r R) : PostI G W H2 S2 r R := by
  cases r with
  | fail => exact h
  | exc c => exact fun H' S' e' => h H' S' (e.trans e')
  | ok d => exact fun v H' S' e' => h v H' S' (e.trans e')
theorem Post.weak {W2 : Str → Hp → Prop} {r : Res (Bool × D)} {Q : VK} (i : ∀ c H', W c H' → W2 c H') (h : Post G W H S r Q) : Post G W2 H S r Q := by
  cases r with
  | fail => exact h
  | exc c => exact fun H' S' e => i c H' (h H' S' e)
  | ok x => exact h
/-- a result read loosely, frozen -/
theorem Post.ofB {r : Res (Bool × D)} {Q : VK} (h : PostB G W H S (sndR r) Q) : Post G W H S r Q := by
  cases r with
  | fail => exact h
  | exc c => exact h
  | ok x => exact fun v H' S' e q => h v H' S' e q.loo
theorem Post.ofF {r : Res (Bool × D)} {Q : VK} (h : PostF G W H S (sndR r) Q) : Post G W H S r Q := by
  cases r with
  | fail => exact h
  | exc c => exact h
  | ok x =>
    intro v H' S' e q
    obtain ⟨S'', e2, _, q2⟩ := q.fz e
    exact h v H' S'' e2 q2
end
section
variable {G : Gm} {W : WD} {H0 : Hp} {X : Cx} {e : Expr}
theorem pe_B {f : En → Res (Bool × D)} (h : PE X e (tD G W H0 f)) : PE X e (tB G W H0 fun ρ => sndR (f ρ)) := h.im fun _ _ _ ⟨S, ρ, R, p⟩ => ⟨S, ρ, R, .ofB p⟩
theorem pe_F {f : En → Res (Bool × D)} (h : PE X e (tD G W H0 f)) : PE X e (tF G W H0 fun ρ => sndR (f ρ)) := h.im fun _ _ _ ⟨S, ρ, R, p⟩ => ⟨S, ρ, R, .ofF p⟩

/-! ### names -/
theorem pe_getF {i : Nat} (h : PE X e (tVar i)) : PE X e (tD G W H0 fun ρ => getF ρ i) := h.im fun σ H Q ⟨S, ρ, R, p⟩ => by
  unfold getF at p
  dsimp only at p
  split at p
  · rename_i d q
    obtain ⟨v, h1, h2⟩ := R.slot i false d q
    exact ⟨v, h1, p v H S (Gr.refl H S) h2⟩
  · exact p.elim
theorem pe_getO {i : Nat} (h : PE X e (tVar i)) : PE X e (tB G W H0 fun ρ => sndR (getO ρ i)) := h.im fun σ H Q ⟨S, ρ, R, p⟩ => by
  unfold getO at p
  dsimp only at p
  split at p
  · rename_i x q
    obtain ⟨v, h1, h2⟩ := R.slot i x.1 x.2 q
    exact ⟨v, h1, p v H S (Gr.refl H S) h2.loo⟩
  · exact p.elim
theorem pe_lit {d : D} {v : V} (h : PE X e (tC v)) (r : ∀ H S, Rep G H S d v) : PE X e (tD G W H0 fun _ => okF d) := h.im fun σ H Q ⟨S, ρ, R, p⟩ => p v H S (Gr.refl H S) (r H S)

/-! ### two, three values -/
variable {a b c : Expr} {fa fb fc : En → Res D} {pos : Pos}
theorem t2 {r : R2} {β : Type} {h : D → D → Res (Bool × D)} {σ : L2.St} {H : Hp} {Q : VK}
    (hr : ∀ x y H' S' dx dy, Dm G H' S' → Loo G H' S' dx x → Loo G H' S' dy y → Post G (fun c => W c σ) H' S' (h dx dy) Q → r x y H' Q)
    (p : tD G W H0 (fun ρ => (fa ρ).bind fun x => (fb ρ).bind fun y => h x y) σ H Q) : tOp r (tB G W H0 fa) (tB G W H0 fb) σ H Q := by
  obtain ⟨S, ρ, R, p⟩ := p
  refine ⟨S, ρ, R, mkB rdD p fun dx p v H1 S1 e1 l1 => ⟨S1, ρ, R.gr e1, ?_⟩⟩
  have p1 := p.gr e1
  refine mkB rdD p1 fun dy p u H2 S2 e2 l2 => ?_
  exact hr v u H2 S2 dx dy ((R.gr e1).gr e2).dom (l1.ex e2) l2 (p.gr e2)
theorem pe_bin (hK : X.K = G.K) {o : Operator} (ha : PE X a (tB G W H0 fa)) (hb : PE X b (tB G W H0 fb)) : PE X (.BinOp a o b pos) (tD G W H0 fun ρ => (fa ρ).bind fun x => (fb ρ).bind fun y => opD o x y) :=
  (pe_op (op_binD hK o) ha hb).im fun σ H Q p => t2 (β := D) (fun x y H' S' dx dy dm lx ly q => ⟨_, S', dx, dy, dm, lx, ly, q⟩) p
theorem pe_ng (ha : PE X a (tB G W H0 fa)) : PE X (.UnaryOp .USub a pos) (tD G W H0 fun ρ => (fa ρ).bind negD) := (pe_un un_neg ha).im fun σ H Q ⟨S, ρ, R, p⟩ => by
  refine ⟨S, ρ, R, mkB rdD p fun d p v H1 S1 e1 l1 => ?_⟩
  cases d with
  | int i => exact ⟨i, l1.int, (p.gr e1).f (.int _)⟩
  | _ => exact False.elim p
abbrev rCmp (G : Gm) (o : CmpOp) : R2 := fun x y H Q => ∃ S dx dy k, Loo G H S dx x ∧ Loo G H S dy y ∧ cmpD o dx dy = .ok k ∧ Q (.bl k) H
theorem pe_cm (hK : X.K = G.K) (hW : X.w = G.w) (hu : X.A.units + 150 < cLine) {o : CmpOp} (hm : behindInMarks o b = false) (ha : PE X a (tB G W H0 fa)) (hb : PE X b (tB G W H0 fb)) :
    PE X (.Compare a [o] [b] pos) (tD G W H0 fun ρ => (fa ρ).bind fun x => (fb ρ).bind fun y => okB (cmpD o x y)) :=
  (pe_cmpR (op_cmpD hK hW hu o) ha hb hm).im fun σ H Q p => t2 (β := D) (fun x y H' S' dx dy dm lx ly q => by
    obtain ⟨k, e, q⟩ := q.okB fun _ => cmpD_nox
    exact ⟨S', dx, dy, k, lx, ly, e, q⟩) p
theorem pt_cm (hK : X.K = G.K) (hW : X.w = G.w) (hu : X.A.units + 150 < cLine) {o : CmpOp} (hm : behindInMarks o b = false) (ha : PE X a (tB G W H0 fa)) (hb : PE X b (tB G W H0 fb)) :
    PT X (.Compare a [o] [b] pos) (tT G W H0 fun ρ => (fa ρ).bind fun x => (fb ρ).bind fun y => cmpD o x y) :=
  (pt_cmpR (op_cmpD hK hW hu o) ha hb hm).im fun σ H Q ⟨S, ρ, R, p⟩ => by
    refine ⟨S, ρ, R, mkB rdV p fun dx p v H1 S1 e1 l1 => ⟨S1, ρ, R.gr e1, mkB rdV (p.gr e1) fun dy p u H2 S2 e2 l2 => ?_⟩⟩
    cases z : cmpD o dx dy with
    | fail => rw [z] at p; exact p.elim
    | exc k => exact absurd z cmpD_nox
    | ok k =>
      rw [z] at p
      exact ⟨S2, dx, dy, k, l1.ex e2, l2, z, k, rfl, p H2 S2 e2⟩
theorem pe_ch (hK : X.K = G.K) (hW : X.w = G.w) (hu : X.A.units + 150 < cLine) {o o' : CmpOp} (hm : lastMarks [o, o'] [b, c] = false) (ha : PE X a (tB G W H0 fa)) (hb : PE X b (tB G W H0 fb)) (hc : PE X c (tB G W H0 fc)) :
    PE X (.Compare a [o, o'] [b, c] pos) (tD G W H0 fun ρ => (fa ρ).bind fun x => (fb ρ).bind fun y => (cmpD o x y).bind fun k => if k = true then (fc ρ).bind fun z => okB (cmpD o' y z) else okF (.bl false)) :=
  (pe_chain (op_cmpD hK hW hu o) (op_cmpD hK hW hu o') ha hb hc hm).im fun σ H Q ⟨S, ρ, R, p⟩ => by
    refine ⟨S, ρ, R, mkB rdD p fun dx p v H1 S1 e1 l1 => ⟨S1, ρ, R.gr e1, mkB rdD (p.gr e1) fun dy p u H2 S2 e2 l2 => ?_⟩⟩
    have p := p.gr e2
    cases z : cmpD o dx dy with
    | fail => rw [z] at p; exact p.elim
    | exc k => exact absurd z cmpD_nox
    | ok k =>
      rw [z] at p
      refine ⟨S2, dx, dy, k, l1.ex e2, l2, z, k, rfl, ?_⟩
      cases k with
      | false => exact p.f (.bl false)
      | true =>
        refine ⟨S2, ρ, (R.gr e1).gr e2, mkB rdD (show Post G _ H2 S2 ((fc ρ).bind fun z => okB (cmpD o' dy z)) Q from p) fun dz p w H3 S3 e3 l3 => ?_⟩
        obtain ⟨k, e, q⟩ := (p.gr e3).okB fun _ => cmpD_nox
        exact ⟨S3, dy, dz, k, l2.ex e3, l3, e, q⟩
theorem pt_ch (hK : X.K = G.K) (hW : X.w = G.w) (hu : X.A.units + 150 < cLine) {o o' : CmpOp} (hm : lastMarks [o, o'] [b, c] = false) (ha : PE X a (tB G W H0 fa)) (hb : PE X b (tB G W H0 fb)) (hc : PE X c (tB G W H0 fc)) :
    PT X (.Compare a [o, o'] [b, c] pos) (tT G W H0 fun ρ => (fa ρ).bind fun x => (fb ρ).bind fun y => (cmpD o x y).bind fun k => if k = true then (fc ρ).bind fun z => cmpD o' y z else .ok false) :=
  (pt_chain (op_cmpD hK hW hu o) (op_cmpD hK hW hu o') ha hb hc hm).im fun σ H Q ⟨S, ρ, R, p⟩ => by
    refine ⟨S, ρ, R, mkB rdV p fun dx p v H1 S1 e1 l1 => ⟨S1, ρ, R.gr e1, mkB rdV (p.gr e1) fun dy p u H2 S2 e2 l2 => ?_⟩⟩
    have p := p.gr e2
    cases z : cmpD o dx dy with
    | fail => rw [z] at p; exact p.elim
    | exc k => exact absurd z cmpD_nox
    | ok k =>
      rw [z] at p
      refine ⟨S2, dx, dy, k, l1.ex e2, l2, z, k, rfl, ?_⟩
      cases k with
      | false => exact ⟨false, rfl, p H2 S2 (Gr.refl _ _)⟩
      | true =>
        refine ⟨S2, ρ, (R.gr e1).gr e2, mkB rdV (show PostV _ H2 S2 ((fc ρ).bind fun z => cmpD o' dy z) Q from p) fun dz p w H3 S3 e3 l3 => ?_⟩
        cases z' : cmpD o' dy dz with
        | fail => rw [z'] at p; exact p.elim
        | exc k => exact absurd z' cmpD_nox
        | ok k =>
          rw [z'] at p
          exact ⟨S3, dy, dz, k, l2.ex e3, l3, z', k, rfl, p H3 S3 e3⟩

/-! ### and, or, not, by truth -/
variable {rest : List Expr} {ga gb : En → Res (Bool × D)}
theorem truK (hK : X.K = G.K) {H : Hp} {S : Sy} {d : D} {v : V} {k : Bool} (l : Loo G H S d v) (e : d.tru = .ok k) : TruV X.K v H k := by
  rw [hK]; exact tru_rep l e
theorem tru_nox {d : D} {c : Str} : d.tru ≠ .exc c := fun e => by
  cases d with
  | str z =>
    have e' : (if z.length ≤ sizeLine then Res.ok ((z.length : Int) != 0) else Res.fail) = Res.exc c := e
    split at e' <;> cases e'
  | _ => cases e
theorem pe_an (hK : X.K = G.K) (ha : PE X a (tD G W H0 ga)) (hb : PE X (.BoolOp .And (b :: rest) pos) (tD G W H0 gb)) : PE X (.BoolOp .And (a :: b :: rest) pos) (tD G W H0 fun ρ => (ga ρ).bind fun x => x.2.tru.bind fun k => if k = true then gb ρ else .ok x) :=
  (pe_andT ha hb).im fun σ H Q ⟨S, ρ, R, p⟩ => by
    refine ⟨S, ρ, R, mkD rdD p fun bo d p v H1 S1 e1 r1 => ?_⟩
    cases z : d.tru with
    | fail => rw [show (bo, d).2.tru = d.tru from rfl, z] at p; exact p.elim
    | exc k => exact absurd z tru_nox
    | ok k =>
      rw [show (bo, d).2.tru = d.tru from rfl, z] at p
      refine ⟨k, truK hK r1.loo z, ?_⟩
      cases k with
      | false => exact p v H1 S1 e1 r1
      | true => exact ⟨S1, ρ, R.gr e1, Post.gr e1 p⟩
theorem pe_o (hK : X.K = G.K) (ha : PE X a (tD G W H0 ga)) (hb : PE X (.BoolOp .Or (b :: rest) pos) (tD G W H0 gb)) : PE X (.BoolOp .Or (a :: b :: rest) pos) (tD G W H0 fun ρ => (ga ρ).bind fun x => x.2.tru.bind fun k => if k = true then .ok x else gb ρ) :=
  (pe_orT ha hb).im fun σ H Q ⟨S, ρ, R, p⟩ => by
    refine ⟨S, ρ, R, mkD rdD p fun bo d p v H1 S1 e1 r1 => ?_⟩
    cases z : d.tru with
    | fail => rw [show (bo, d).2.tru = d.tru from rfl, z] at p; exact p.elim
    | exc k => exact absurd z tru_nox
    | ok k =>
      rw [show (bo, d).2.tru = d.tru from rfl, z] at p
      refine ⟨k, truK hK r1.loo z, ?_⟩
      cases k with
      | true => exact p v H1 S1 e1 r1
      | false => exact ⟨S1, ρ, R.gr e1, Post.gr e1 p⟩
theorem pe_no (hK : X.K = G.K) (ha : PE X a (tB G W H0 fa)) : PE X (.UnaryOp .Not a pos) (tD G W H0 fun ρ => (fa ρ).bind fun x => x.tru.bind fun k => okF (.bl (!k))) :=
  (pe_notT ha).im fun σ H Q ⟨S, ρ, R, p⟩ => by
    refine ⟨S, ρ, R, mkB rdD p fun d p v H1 S1 e1 l1 => ?_⟩
    cases z : d.tru with
    | fail => rw [z] at p; exact p.elim
    | exc k => exact absurd z tru_nox
    | ok k =>
      rw [z] at p
      exact ⟨k, truK hK l1 z, (Post.gr e1 p).f (.bl _)⟩
theorem pe_if {tc : En → Res Bool} (hc : PT X c (tT G W H0 tc)) (ha : PE X a (tD G W H0 ga)) (hb : PE X b (tD G W H0 gb)) : PE X (.IfExp c a b pos) (tD G W H0 fun ρ => (tc ρ).bind fun k => if k = true then ga ρ else gb ρ) :=
  (pe_ifExp hc ha hb).im fun σ H Q ⟨S, ρ, R, p⟩ => by
    refine ⟨S, ρ, R, mkV rdD p fun k p H1 S1 e1 => ?_⟩
    cases k with
    | true => exact ⟨S1, ρ, R.gr e1, Post.gr e1 p⟩
    | false => exact ⟨S1, ρ, R.gr e1, Post.gr e1 p⟩

/-! ### tests -/
variable {ta tb : En → Res Bool}
theorem pt_tr (hK : X.K = G.K) (ha : PE X a (tB G W H0 fa)) (he : ∀ whole, isTrue a X.env whole = (do let v ← whole; standAt a.pos; holding [v] (truthy v))) : PT X a (tT G W H0 fun ρ => (fa ρ).bind D.tru) :=
  (pt_truth ha he).im fun σ H Q ⟨S, ρ, R, p⟩ => by
    refine ⟨S, ρ, R, mkB rdV p fun d p v H1 S1 e1 l1 => ?_⟩
    cases z : d.tru with
    | fail => rw [z] at p; exact p.elim
    | exc k => exact absurd z tru_nox
    | ok k =>
      rw [z] at p
      exact ⟨k, truK hK l1 z, p H1 S1 e1⟩
theorem pw_an (ha : PT X a (tT G W H0 ta)) (hb : PW X (.BoolOp .And (b :: rest) pos) (tT G W H0 tb)) : PW X (.BoolOp .And (a :: b :: rest) pos) (tT G W H0 fun ρ => (ta ρ).bind fun k => if k = true then tb ρ else .ok false) :=
  (pw_and ha hb).im fun σ H Q ⟨S, ρ, R, p⟩ => by
    refine ⟨S, ρ, R, mkV rdV p fun k p H1 S1 e1 => ?_⟩
    cases k with
    | true => exact ⟨S1, ρ, R.gr e1, PostV.gr e1 p⟩
    | false => exact p H1 S1 e1
theorem pw_o (ha : PT X a (tT G W H0 ta)) (hb : PW X (.BoolOp .Or (b :: rest) pos) (tT G W H0 tb)) : PW X (.BoolOp .Or (a :: b :: rest) pos) (tT G W H0 fun ρ => (ta ρ).bind fun k => if k = true then .ok true else tb ρ) :=
  (pw_or ha hb).im fun σ H Q ⟨S, ρ, R, p⟩ => by
    refine ⟨S, ρ, R, mkV rdV p fun k p H1 S1 e1 => ?_⟩
    cases k with
    | true => exact p H1 S1 e1
    | false => exact ⟨S1, ρ, R.gr e1, PostV.gr e1 p⟩
theorem pt_no (ha : PT X a (tT G W H0 ta)) : PT X (.UnaryOp .Not a pos) (tT G W H0 fun ρ => (ta ρ).bind fun k => .ok (!k)) :=
  (pt_not ha).im fun σ H Q ⟨S, ρ, R, p⟩ => ⟨S, ρ, R, mkV rdV p fun k p H1 S1 e1 => p H1 S1 e1⟩

/-! ### displays, subscripts, calls -/
variable {es : List Expr} {fs : En → Res (List D)}
theorem pa_ni : PA X [] (tL G W H0 fun _ => .ok []) := pa_nil.im fun σ H Q ⟨S, ρ, R, p⟩ => p [] H S (Gr.refl _ _) .nil
theorem pa_co (ha : PE X a (tD G W H0 ga)) (hr : PA X es (tL G W H0 fs)) (hs : starEach (a :: es) X.env = (false, eval a X.env) :: starEach es X.env) : PA X (a :: es) (tL G W H0 fun ρ => (ga ρ).bind fun x => (fs ρ).bind fun xs => .ok (x.2 :: xs)) :=
  (pa_cons ha hr hs).im fun σ H Q ⟨S, ρ, R, p⟩ => by
    refine ⟨S, ρ, R, mkD rdL p fun bo d p v H1 S1 e1 r1 => ?_⟩
    obtain ⟨S2, e2, k2, r2⟩ := r1.fz e1
    refine ⟨S2, ρ, R.gr e2, mkL rdL (p.gr e2) fun ds p vs H3 S3 e3 r3 => ?_⟩
    exact p (v :: vs) H3 S3 e3 (.cons (e3.rep r2) r3)
theorem pa_st {ga : En → Res D} {sp : Pos} (hK : X.K = G.K) (ha : PE X a (tB G W H0 ga)) (hr : PA X es (tL G W H0 fs)) : PA X (.Starred a sp :: es) (tL G W H0 fun ρ => (ga ρ).bind fun x => (itemsD x).bind fun ds => (fs ρ).bind fun xs => .ok (ds ++ xs)) :=
  (StX.pa_star ha hr).im fun σ H Q ⟨S, ρ, R, p⟩ => by
    refine ⟨S, ρ, R, mkB rdL p fun d p v H1 S1 e1 l1 => ?_⟩
    have fin : ∀ ds xs b, v = V.ref b → (SqT X.K H1 b xs ∨ SqL X.K H1 b xs) → Paired (Rep G H1 S1) ds xs → PostL G (fun c => W c σ) H S ((fs ρ).bind fun xs => .ok (ds ++ xs)) Q →
        ∃ p xs, v = V.ref p ∧ (SqT X.K H1 p xs ∨ SqL X.K H1 p xs) ∧ tL G W H0 fs σ H1 fun ys H2 => Q (xs ++ ys) H2 := fun ds xs b ev hs hp p =>
      ⟨b, xs, ev, hs, S1, ρ, R.gr e1, mkL rdL (p.gr e1) fun ys p vs H2 S2 e2 r2 => p (xs ++ vs) H2 S2 e2 (Paired.app (e2.reps hp) r2)⟩
    cases d with
    | lst ds =>
      obtain ⟨b, xs, ev, hs, hp⟩ := l1.lst hK
      exact fin ds xs b ev (.inr hs) hp p
    | tup ds =>
      obtain ⟨b, xs, ev, hs, hp⟩ := l1.tup
      exact fin ds xs b ev (.inl (by rw [hK]; exact hs.sq)) hp p
    | _ => exact p.elim
theorem pe_tu {k : Nat} (h : PA X es (tL G W H0 fs)) : PE X (.Tuple es k pos) (tD G W H0 fun ρ => (fs ρ).bind fun xs => if xs.length ≤ sizeLine then okF (.tup xs) else .fail) :=
  (pe_tup h).im fun σ H Q ⟨S, ρ, R, p⟩ => by
    refine ⟨S, ρ, R, mkL rdD p fun ds p vs H1 S1 e1 r1 => ?_⟩
    obtain ⟨c, p⟩ := Post.ite p
    exact ⟨by rw [← Paired.length r1]; exact c, fun q hq => (Post.gr e1 p).newT r1 q hq⟩
theorem pe_li (h : PA X es (tL G W H0 fs)) : PE X (.List es pos) (tD G W H0 fun ρ => (fs ρ).bind fun xs => if xs.length ≤ sizeLine then .ok (true, .lst xs) else .fail) :=
  (pe_lst h).im fun σ H Q ⟨S, ρ, R, p⟩ => by
    refine ⟨S, ρ, R, mkL rdD p fun ds p vs H1 S1 e1 r1 => ?_⟩
    obtain ⟨c, p⟩ := Post.ite p
    exact ⟨by rw [← Paired.length r1]; exact c, fun q hq => (Post.gr e1 p).new (R.gr e1).dom r1 q hq⟩
theorem pe_id (hK : X.K = G.K) (hW : X.w = G.w) (hu : X.A.units + 150 < cLine) (hs : PlainIx b) (ha : PE X a (tB G W H0 fa)) (hb : PE X b (tB G W H0 fb)) : PE X (.Subscript a b pos) (tD G W H0 fun ρ => (fa ρ).bind fun x => (fb ρ).bind fun y => idxD x y) :=
  (pe_ix (ix_D hK hW hu) ha hb hs).im fun σ H Q p => t2 (β := D) (fun x y H' S' dx dy dm lx ly q => ⟨_, S', dx, dy, dm, lx, ly, q⟩) p
theorem po_no : PO X none (tO G W H0 fun _ => .ok none) := ⟨fun pins s σ H Q I ⟨S, ρ, R, p⟩ => po_none.run pins s σ H Q I (p H S (Gr.refl _ _))⟩
theorem po_so (h : PE X e (tB G W H0 fa)) : PO X (some e) (tO G W H0 fun ρ => (intR (fa ρ)).bind fun i => .ok (some i)) := ⟨fun pins s σ H Q I ⟨S, ρ, R, p⟩ => (po_some h).run pins s σ H Q I ⟨S, ρ, R, by
  dsimp only at p
  cases z : fa ρ with
  | fail => rw [z] at p; exact p.elim
  | exc c => rw [z] at p; exact p
  | ok d =>
    rw [z] at p
    cases d with
    | int i => exact fun v H1 S1 e1 l1 => ⟨i, l1.int, p H1 S1 e1⟩
    | _ => exact False.elim p⟩⟩
theorem pe_sl {lo hi : Option Expr} {fl fh : En → Res (Option Int)} {p2 : Pos} (hK : X.K = G.K) (ha : PE X a (tB G W H0 fa)) (hl : PO X lo (tO G W H0 fl)) (hh : PO X hi (tO G W H0 fh)) :
    PE X (.Subscript a (.Slice lo hi none p2) pos) (tD G W H0 fun ρ => (fa ρ).bind fun x => (fl ρ).bind fun l => (fh ρ).bind fun h => slcD x l h) :=
  (pe_slice (sl_D hK) ha hl hh).im fun σ H Q ⟨S, ρ, R, p⟩ => by
    refine ⟨S, ρ, R, mkB rdD p fun d p v H1 S1 e1 l1 => ⟨S1, ρ, R.gr e1, mkV rdD (p.gr e1) fun l p H2 S2 e2 => ⟨S2, ρ, (R.gr e1).gr e2, mkV rdD (p.gr e2) fun h p H3 S3 e3 => ?_⟩⟩⟩
    exact ⟨_, S3, d, (((R.gr e1).gr e2).gr e3).dom, (l1.ex e2).ex e3, p.gr e3⟩
/-- what a def of the text gives, as its promise -/
def spD (G : Gm) (k : Nat) (r : List D → Res (Bool × D)) : Sp := fun vs H Q E => vs.length = k ∧ ∃ S ds, Dm G H S ∧ Paired (Rep G H S) ds vs ∧ Post G (fun c H' => ∀ a, G.mg c = some (.ref a) → E (.ref a) none H') H S (r ds) Q
def wOf (G : Gm) (W : WD) : WX := fun cls d σ H => ∃ c a, cls = .ref a ∧ G.mg c = some (.ref a) ∧ d = none ∧ W c σ H
theorem tCallS_of {k : Nat} {r : List D → Res (Bool × D)} {σ : L2.St} {H : Hp} {Q : VK} (hk : ∀ vs ds H' S', Paired (Rep G H' S') ds vs → (∃ x, r ds = .ok x ∨ ∃ c, r ds = .exc c) → vs.length = k)
    (p : tD G W H0 (fun ρ => (fs ρ).bind r) σ H Q) : tCallS (spD G k r) (WE (wOf G W)) (tL G W H0 fs) σ H Q := by
  obtain ⟨S, ρ, R, p⟩ := p
  refine ⟨S, ρ, R, mkL rdD p fun ds p vs H1 S1 e1 r1 => ?_⟩
  have p1 := Post.gr e1 p
  refine ⟨hk vs ds H1 S1 r1 ?_, S1, ds, (R.gr e1).dom, r1, p1.weak fun c H' w a ha => ⟨c, a, rfl, ha, rfl, w⟩⟩
  cases z : r ds with
  | fail => rw [z] at p1; exact p1.elim
  | exc c => exact ⟨(false, .non), .inr ⟨c, rfl⟩⟩
  | ok x => exact ⟨x, .inl rfl⟩
theorem pe_callS0 {CX : CXT} {k : Nat} {f : Addr} {fd : FuncData} {ps : List Str} {sp : Sp} {E : L2.St → XK} {x : Str} {p : Pos} (F : FnOk X.prog X.w X.K X.mg X.base CX k f fd ps sp) (hr : Room k X.A) (hg : Gl X x) (hm : X.mg x = some (.ref f)) (hk : PySem.W.keepIn X.K (.ref f) = true) (hb : Binds X.K fd ps []) (hx : ∀ σ, PassesAt CX X σ (E σ))
    (hdb : (x == ("__debug__" : Str)) = false) : PE X (.Call (.Name x p) [] [] pos) (tCallS sp E tNil) := by
  refine ⟨fun pins s σ H Q I h => ?_⟩
  refine wpAny_Call_Name_kw (ld_glob I hg hm ?_ hdb)
  exact PySem.W.callWith_K0 I.kIn hk (run_fnS (us := []) F hr hb (hx σ) I .nil h)
theorem pe_b1 {f : Bi} {x : Str} {p : Pos} (hK : X.K = G.K) (hc : f = .sum → X.calm = true) (hg : Gl X x) (hm : X.mg x = none) (hv : bootBuiltins x = some f.fv) (hn : x ≠ "__name__") (hdb : (x == ("__debug__" : Str)) = false) (ha : PE X a (tB G W H0 fa))
    (hs : starEach [a] X.env = [(false, eval a X.env)]) : PE X (.Call (.Name x p) [a] [] pos) (tD G W H0 fun ρ => (fa ρ).bind fun x => biD f x) := by
  have hA := pa_cons ha pa_nil hs
  have fin : ∀ σ H Q, tD G W H0 (fun ρ => (fa ρ).bind fun x => biD f x) σ H Q → tCB (rB G (biD f)) (tCons (tB G W H0 fa) tNil) σ H Q := fun σ H Q ⟨S, ρ, R, p⟩ =>
    ⟨S, ρ, R, mkB rdD p fun d p v H1 S1 e1 l1 => ⟨_, S1, v, d, rfl, (R.gr e1).dom, l1, p.gr e1⟩⟩
  cases f with
  | len => exact (pe_callB (call_bi hK .len hc) hg hm hv hA hn hdb hs rfl).im fin
  | sum => exact (pe_callB (call_bi hK .sum hc) hg hm hv hA hn hdb hs rfl).im fin
  | abs => exact (pe_callB (call_bi hK .abs hc) hg hm hv hA hn hdb hs rfl).im fin
  | tuple => exact (pe_callTy (call_bi hK .tuple hc) hg hm hv hA hn hdb hs rfl).im fin
  | list => exact (pe_callTy (call_bi hK .list hc) hg hm hv hA hn hdb hs rfl).im fin
  | int => exact (pe_callTy (call_bi hK .int hc) hg hm hv hA hn hdb hs rfl).im fin
theorem isiD_nox {d : D} {t : Ty} {c : Str} : isiD d t ≠ .exc c := fun e => by
  cases d <;> cases t <;> cases e
theorem pe_is {t : Ty} {p pt : Pos} (hK : X.K = G.K) (hg : Gl X "isinstance") (hm : X.mg "isinstance" = none) (hT : PE X b (tC (.ty t.nm))) (ha : PE X a (tB G W H0 fa))
    (hs : starEach [a, b] X.env = (false, eval a X.env) :: starEach [b] X.env) (hs2 : starEach [b] X.env = [(false, eval b X.env)]) (hpl : (backTo pos (starEach [b] X.env)).any (·.1) = false) :
    PE X (.Call (.Name "isinstance" p) [a, b] [] pos) (tD G W H0 fun ρ => (fa ρ).bind fun x => okB (isiD x t)) :=
  (pe_callB (call_isiD hK t) hg hm boot_isinstance (pa_cons ha (pa_cons hT pa_nil hs2) hs) (by decide) (by decide) hs hpl).im fun σ H Q ⟨S, ρ, R, p⟩ => by
    refine ⟨S, ρ, R, mkB rdD p fun d p v H1 S1 e1 l1 => ?_⟩
    obtain ⟨k, e, q⟩ := (p.gr e1).okB fun _ => isiD_nox
    exact ⟨S1, v, d, k, rfl, l1, e, q⟩
end
end Hf

/-! Hf5: what is walked; comprehensions. -/
namespace Hf
open PySem PySem.Spec PyProof.Rows L2
set_option autoImplicit false

/-! ### slots stored, forgotten -/
section
variable {G : Gm} {H0 H : Hp} {S : Sy} {σ : L2.St} {ρ : En}
theorem get_set {α : Type} {l : List α} {i j : Nat} {x y : α} (h : (l.set i x)[j]? = some y) : (j = i ∧ y = x ∧ i < l.length) ∨ (j ≠ i ∧ l[j]? = some y) := by
  by_cases e : i = j
  · subst e
    by_cases hl : i < l.length
    · rw [List.getElem?_set_self hl] at h
      exact .inl ⟨rfl, (Option.some.inj h).symm, hl⟩
    · rw [List.getElem?_eq_none (by simpa using hl)] at h
      cases h
  · rw [List.getElem?_set_ne e] at h
    exact .inr ⟨fun z => e z.symm, h⟩
/-- a slot takes a value; o: what is said of it -/
theorem REnv.put (R : REnv G H0 H S σ ρ) (i : Nat) (v : V) (o : Option (Bool × D)) (h : ∀ b d, o = some (b, d) → RepO G H0 H S b d v)
    (ap : ∀ d, o = some (true, d) → ∀ j e a, j ≠ i → ρ[j]? = some (some (true, e)) → σ[j]? = some (some (.ref a)) → v ≠ .ref a) : REnv G H0 H S (σ.set i (some v)) (ρ.set i o) := by
  refine ⟨by rw [List.length_set, List.length_set]; exact R.len, R.dom, fun j b d q => ?_, fun j k d e a hjk q1 q2 z1 z2 => ?_⟩
  · rcases get_set q with ⟨rfl, e, hl⟩ | ⟨ne, q⟩
    · exact ⟨v, List.getElem?_set_self (by rw [← R.len]; exact hl), h b d e.symm⟩
    · obtain ⟨w, h1, h2⟩ := R.slot j b d q
      exact ⟨w, by rw [List.getElem?_set_ne (Ne.symm ne)]; exact h1, h2⟩
  · rcases get_set q1 with ⟨w1, e1, l1⟩ | ⟨n1, q1'⟩
    · rcases get_set q2 with ⟨w2, _, _⟩ | ⟨n2, q2'⟩
      · exact hjk (w1.trans w2.symm)
      · rw [w1, List.getElem?_set_self (by rw [← R.len]; exact l1)] at z1
        rw [List.getElem?_set_ne (Ne.symm n2)] at z2
        exact ap d e1.symm k e a n2 q2' z2 (Option.some.inj (Option.some.inj z1))
    · rcases get_set q2 with ⟨w2, e2, l2⟩ | ⟨n2, q2'⟩
      · rw [w2, List.getElem?_set_self (by rw [← R.len]; exact l2)] at z2
        rw [List.getElem?_set_ne (Ne.symm n1)] at z1
        exact ap e e2.symm j d a n1 q1' z1 (Option.some.inj (Option.some.inj z2))
      · rw [List.getElem?_set_ne (Ne.symm n1)] at z1
        rw [List.getElem?_set_ne (Ne.symm n2)] at z2
        exact R.apart j k d e a hjk q1' q2' z1 z2
theorem REnv.setF (R : REnv G H0 H S σ ρ) (i : Nat) {v : V} {d : D} (h : Rep G H S d v) : REnv G H0 H S (σ.set i (some v)) (setE ρ i d) :=
  R.put i v _ (fun b d' e => by cases e; exact h) (fun d' e => by cases e)
theorem REnv.drop1 (R : REnv G H0 H S σ ρ) (i : Nat) : REnv G H0 H S (σ.set i none) (ρ.set i none) := by
  refine ⟨by rw [List.length_set, List.length_set]; exact R.len, R.dom, fun j b d q => ?_, fun j k d e a hjk q1 q2 z1 z2 => ?_⟩
  · rcases get_set q with ⟨rfl, e, hl⟩ | ⟨ne, q⟩
    · cases e
    · obtain ⟨w, h1, h2⟩ := R.slot j b d q
      exact ⟨w, by rw [List.getElem?_set_ne (Ne.symm ne)]; exact h1, h2⟩
  · rcases get_set q1 with ⟨_, e, _⟩ | ⟨n1, q1⟩
    · cases e
    · rcases get_set q2 with ⟨_, e, _⟩ | ⟨n2, q2⟩
      · cases e
      · rw [List.getElem?_set_ne (Ne.symm n1)] at z1
        rw [List.getElem?_set_ne (Ne.symm n2)] at z2
        exact R.apart j k d e a hjk q1 q2 z1 z2
theorem REnv.wipe (R : REnv G H0 H S σ ρ) : ∀ vs : List Nat, REnv G H0 H S (wipe σ vs) (wipeE ρ vs)
  | [] => R
  | v :: vs => (REnv.wipe R vs).drop1 v
end
/-! ### targets -/
def gNs : List Nat → TGs
  | [] => gNil
  | i :: is => gCons (gName i) (gNs is)
def gOf (K : PySem.W.Frag) : Tg → TG
  | .one i => gName i
  | .tup is => gTup K is.length (gNs is)
def Tg.sl : Tg → List Nat
  | .one i => [i]
  | .tup is => is
theorem wipe_comm (σ : L2.St) (i : Nat) (x : Option V) : ∀ vs : List Nat, i ∉ vs → wipe (σ.set i x) vs = (wipe σ vs).set i x
  | [], _ => rfl
  | v :: vs, h => by
    have h1 : i ≠ v := fun e => h (by rw [e]; exact List.mem_cons_self)
    have h2 : i ∉ vs := fun e => h (List.mem_cons_of_mem _ e)
    show (wipe (σ.set i x) vs).set v none = ((wipe σ vs).set v none).set i x
    rw [wipe_comm σ i x vs h2, List.set_comm _ _ h1]
theorem wipe_same (σ : L2.St) (i : Nat) (x : Option V) : ∀ vs : List Nat, i ∈ vs → wipe (σ.set i x) vs = wipe σ vs
  | [], h => nomatch h
  | v :: vs, h => by
    show (wipe (σ.set i x) vs).set v none = (wipe σ vs).set v none
    by_cases hm : i ∈ vs
    · rw [wipe_same σ i x vs hm]
    · have e : i = v := by
        rcases List.mem_cons.mp h with e | e
        · exact e
        · exact absurd e hm
      subst e
      rw [wipe_comm σ i x vs hm, List.set_set]
theorem wipe_wipe (σ : L2.St) : ∀ (us vs : List Nat), (∀ i ∈ us, i ∈ vs) → wipe (wipe σ us) vs = wipe σ vs
  | [], _, _ => rfl
  | v :: us, vs, h => by
    show wipe ((wipe σ us).set v none) vs = wipe σ vs
    rw [wipe_same _ v none vs (h v List.mem_cons_self)]
    exact wipe_wipe σ us vs fun i hi => h i (List.mem_cons_of_mem _ hi)
section
variable {G : Gm} {H0 H : Hp} {S : Sy}
theorem gNs_of : ∀ (is : List Nat) (ds : List D) (xs : List V) (σ : L2.St) (ρ ρ' : En) (Q : L2.St → Hp → Prop), setEs is ds ρ = .ok ρ' → Paired (Rep G H S) ds xs → REnv G H0 H S σ ρ →
    (∀ σ', REnv G H0 H S σ' ρ' → (∀ vs, (∀ i ∈ is, i ∈ vs) → wipe σ' vs = wipe σ vs) → Q σ' H) → gNs is xs σ H Q
  | [], [], _, σ, ρ, ρ', Q, e, .nil, R, q => by cases e; exact ⟨rfl, q σ R fun _ _ => rfl⟩
  | i :: is, d :: ds, _, σ, ρ, ρ', Q, e, .cons r t, R, q => by
    refine ⟨_, _, rfl, gNs_of is ds _ (σ.set i (some _)) (setE ρ i d) ρ' Q e t (R.setF i r) fun σ' R' w => q σ' R' fun vs h => ?_⟩
    rw [w vs fun j hj => h j (List.mem_cons_of_mem _ hj), wipe_same σ i _ vs (h i List.mem_cons_self)]
  | [], _ :: _, _, _, _, _, _, e, _, _, _ => by cases e
  | _ :: _, [], _, _, _, _, _, e, _, _, _ => by cases e
theorem setEs_len : ∀ (is : List Nat) (ds : List D) (ρ ρ' : En), setEs is ds ρ = .ok ρ' → ds.length = is.length
  | [], [], _, _, _ => rfl
  | i :: is, d :: ds, ρ, ρ', e => by
    have := setEs_len is ds (setE ρ i d) ρ' e
    rw [List.length_cons, List.length_cons, this]
  | [], _ :: _, _, _, e => by cases e
  | _ :: _, [], _, _, e => by cases e
theorem gOf_of {t : Tg} {d : D} {x : V} {σ : L2.St} {ρ ρ' : En} {Q : L2.St → Hp → Prop} (e : bindT t d ρ = .ok ρ') (r : Rep G H S d x) (R : REnv G H0 H S σ ρ)
    (q : ∀ σ', REnv G H0 H S σ' ρ' → (∀ vs, (∀ i ∈ t.sl, i ∈ vs) → wipe σ' vs = wipe σ vs) → Q σ' H) : gOf G.K t x σ H Q := by
  cases t with
  | one i =>
    cases e
    exact q _ (R.setF i r) fun vs h => wipe_same σ i _ vs (h i List.mem_cons_self)
  | tup is =>
    cases d with
    | tup ds =>
      have e' : setEs is ds ρ = .ok ρ' := e
      cases r with
      | tup z p => exact ⟨_, _, rfl, z.sq, by rw [← Paired.length p]; exact setEs_len is ds ρ ρ' e', gNs_of is ds _ σ ρ ρ' Q e' p R q⟩
    | _ => cases e
end
/-! ### what is walked -/
section
variable {G : Gm} {H : Hp} {S : Sy}
theorem wlk_lst {K : PySem.W.Frag} {a : Addr} {xs : List V} {ds : List D} (hK : K = G.K) (h : FzL G.K H S a xs) (p : Paired (Rep G H S) ds xs) : Wlk G (Itl K a) ds H S where
  go := fun i H' S' k hi => by
    obtain ⟨v, h1, _⟩ := p.gt (List.getElem?_eq_getElem hi)
    exact ⟨xs, v, by rw [hK]; exact (k.fzl h).sq, h1⟩
  yld := fun i H' S' x H'' k y d hd => by
    obtain ⟨e, y⟩ := y
    obtain ⟨v, h1, h2⟩ := p.gt hd
    have h3 := y xs (by rw [hK]; exact (k.fzl h).sq)
    rw [h1] at h3
    cases h3
    exact ⟨e, h2.keep k⟩
  stop := fun H' S' k => ⟨xs, by rw [hK]; exact (k.fzl h).sq, by rw [Paired.length p]; exact Nat.le_refl _⟩
theorem wlk_tup {K : PySem.W.Frag} {a : Addr} {xs : List V} {ds : List D} (hK : K = G.K) (h : FzT G.K H S a xs) (p : Paired (Rep G H S) ds xs) : Wlk G (Itt K a) ds H S where
  go := fun i H' S' k hi => by
    obtain ⟨v, h1, _⟩ := p.gt (List.getElem?_eq_getElem hi)
    exact ⟨xs, v, by rw [hK]; exact (k.fzt h).sq, h1⟩
  yld := fun i H' S' x H'' k y d hd => by
    obtain ⟨e, y⟩ := y
    obtain ⟨v, h1, h2⟩ := p.gt hd
    have h3 := y xs (by rw [hK]; exact (k.fzt h).sq)
    rw [h1] at h3
    cases h3
    exact ⟨e, h2.keep k⟩
  stop := fun H' S' k => ⟨xs, by rw [hK]; exact (k.fzt h).sq, by rw [Paired.length p]; exact Nat.le_refl _⟩
theorem wlk_rng {lo : Int} {n : Nat} {ds : List D} (h : ds = (List.range n).map fun (k : Nat) => D.int (lo + (k : Int))) : Wlk G (Itr lo n) ds H S where
  go := fun i H' S' k hi => by
    rw [h, List.length_map, List.length_range] at hi
    exact hi
  yld := fun i H' S' x H'' k y d hd => by
    obtain ⟨e, y⟩ := y
    rw [h, List.getElem?_map] at hd
    cases z : (List.range n)[i]? with
    | none => rw [z] at hd; cases hd
    | some j =>
      rw [z] at hd
      obtain ⟨_, e3⟩ := List.getElem?_eq_some_iff.mp z
      rw [List.getElem_range] at e3
      subst e3
      cases hd
      rw [y]
      exact ⟨e, .int _⟩
  stop := fun H' S' k => by
    show n ≤ ds.length
    rw [h, List.length_map, List.length_range]
    exact Nat.le_refl _
end
section
variable {G : Gm} {W : WD} {H0 : Hp} {X : Cx} {e a b tg : Expr} {pos : Pos}
def iAny (K : PySem.W.Frag) (tl : TE) : TI := fun σ H R => tl σ H fun x H1 => (∃ z, x = .str z ∧ R (Its z) H1) ∨ ∃ a, x = .ref a ∧ ((∃ xs, SqL K H1 a xs) ∧ R (Itl K a) H1 ∨ (∃ xs, SqT K H1 a xs) ∧ R (Itt K a) H1)
theorem pi_any {tl : TE} (hl : PE X e tl) : PI X tg e (iAny X.K tl) := by
  refine ⟨fun pins s σ H R I h => ?_⟩
  refine thn (hl.run pins s σ H _ I h) fun v s1 ⟨x, H1, I1, r1, q1⟩ => ?_
  obtain ⟨x, rfl, q⟩ | ⟨a, rfl, ⟨⟨xs, hq⟩, q⟩ | ⟨⟨xs, hq⟩, q⟩⟩ := q1
  · obtain ⟨t, rfl⟩ := r1
    cases ha : x.cps.all (· < 128)
    · exact wpAny_pyIter_wide ha (pi_one (tk := s1.toks) I1 _ (turn_str _ x t "str_iterator" (.inr rfl)) ⟨_, Heap.get?_push_size _ rfl, rfl, rfl⟩ q)
    · exact wpAny_pyIter_ascii ha (pi_one (tk := s1.toks) I1 _ (turn_str _ x t "str_ascii_iterator" (.inl rfl)) ⟨_, Heap.get?_push_size _ rfl, rfl, rfl⟩ q)
  · cases r1
    obtain ⟨its, rv, p, hz⟩ := I1.list hq
    refine wpAny_pyIter_list p.isList ?_
    refine ⟨s1.heap.objs.size, [s1.heap.objs.size], _, _, H1, rfl, I1.kept (t' := s1.toks) fun b o e => Heap.get?_push_of_some _ e, turn_list a _, ⟨_, Heap.get?_push_size _ rfl, rfl, rfl⟩, fun b hb => ?_, q⟩
    have e : b = s1.heap.objs.size := by simpa using hb
    subst e
    exact I1.fpOk (Nat.le_refl _) (I1.hok.fresh (Nat.le_refl _))
  · cases r1
    obtain ⟨its, rv, p, hz⟩ := I1.tuple hq
    refine wpAny_pyIter_tuple (show s1.heap.IsTuple a its.toArray from p) ?_
    refine ⟨s1.heap.objs.size, [s1.heap.objs.size], _, _, H1, rfl, I1.kept (t' := s1.toks) fun b o e => Heap.get?_push_of_some _ e, turn_tuple a _, ⟨_, Heap.get?_push_size _ rfl, rfl, rfl⟩, fun b hb => ?_, q⟩
    have e : b = s1.heap.objs.size := by simpa using hb
    subst e
    exact I1.fpOk (Nat.le_refl _) (I1.hok.fresh (Nat.le_refl _))
theorem wlk_str {z : Str} {H : Hp} {S : Sy} : Wlk G (Its z) (z.cps.toList.map fun c => D.str ⟨#[c]⟩) H S where
  go := fun i H' S' k hi => by
    rw [List.length_map, Array.length_toList] at hi
    exact hi
  yld := fun i H' S' x H'' k y d hd => by
    obtain ⟨e, c, y1, y2⟩ := y
    rw [List.getElem?_map, Array.getElem?_toList, y1] at hd
    cases hd
    subst y2
    exact ⟨e, .str _⟩
  stop := fun H' S' k => by
    show z.cps.size ≤ _
    rw [List.length_map, Array.length_toList]
    exact Nat.le_refl _
theorem itemsD_nox {d : D} {c : Str} : itemsD d ≠ .exc c := fun e => by cases d <;> cases e
theorem pi_sq {f : En → Res (Bool × D)} (hK : X.K = G.K) (h : PE X e (tD G W H0 f)) : PI X tg e (tI G W H0 fun ρ => (sndR (f ρ)).bind itemsW) :=
  (pi_any (pe_F h)).im fun σ H Q ⟨S, ρ, R, p⟩ => by
    refine ⟨S, ρ, R, mkF rdI p fun d p v H1 S1 e1 r1 => ?_⟩
    cases d with
    | lst ds =>
      cases r1 with
      | lst z q => exact .inr ⟨_, rfl, .inl ⟨⟨_, by rw [hK]; exact z.sq⟩, p _ H1 S1 e1 (wlk_lst hK z q)⟩⟩
    | tup ds =>
      cases r1 with
      | tup z q => exact .inr ⟨_, rfl, .inr ⟨⟨_, by rw [hK]; exact z.sq⟩, p _ H1 S1 e1 (wlk_tup hK z q)⟩⟩
    | str z =>
      cases r1
      refine .inl ⟨z, rfl, ?_⟩
      have p : PostI G (fun c => W c σ) H S (if z.length ≤ sizeLine then .ok (z.cps.toList.map fun c => D.str ⟨#[c]⟩) else .fail) Q := p
      by_cases c : z.length ≤ sizeLine
      · rw [if_pos c] at p
        exact p _ H1 S1 e1 wlk_str
      · rw [if_neg c] at p
        exact p.elim
    | _ => exact False.elim p
theorem mkBI {W : Str → Hp → Prop} {H : Hp} {S : Sy} {β : Type} {Z : Res β → Prop} (rd : Rd1 W H S Z) {r : Res D} {k : Int → Res β} {Q : VK} (z : Z ((intR r).bind k)) (ok : ∀ i, Z (k i) → ∀ H' S', Gr H S H' S' → Q (.int i) H') : PostB G W H S r Q := by
  cases r with
  | ok d =>
    cases d with
    | int i => exact fun v H' S' e l => by cases l.int; exact ok i z H' S' e
    | _ => exact (rd.f z).elim
  | exc c => exact rd.x c z
  | fail => exact rd.f z
variable {fa fb : En → Res D} {p : Pos}
theorem rng_ite {W : Str → Hp → Prop} {H : Hp} {S : Sy} {i j : Int} {R : It → Hp → Prop} (p : PostI G W H S (rngD i j) R) : (-(2 ^ 62) ≤ i ∧ i < 2 ^ 62 ∧ -(2 ^ 62) ≤ j ∧ j < 2 ^ 62) ∧ PostI G W H S (.ok ((List.range (j - i).toNat).map fun (k : Nat) => D.int (i + (k : Int)))) R := by
  unfold rngD at p
  by_cases z : -(2 ^ 62) ≤ i ∧ i < 2 ^ 62 ∧ -(2 ^ 62) ≤ j ∧ j < 2 ^ 62
  · rw [if_pos z] at p; exact ⟨z, p⟩
  · rw [if_neg z] at p; exact p.elim
theorem pi_r1 (hg : Gl X "range") (hm : X.mg "range" = none) (ha : PE X a (tB G W H0 fa)) (hs : starEach [a] X.env = [(false, eval a X.env)]) : PI X tg (.Call (.Name "range" p) [a] [] pos) (tI G W H0 fun ρ => (intR (fa ρ)).bind fun j => rngD 0 j) :=
  (pi_range1 hg hm (pa_cons ha pa_nil hs) hs).im fun σ H Q ⟨S, ρ, R, p⟩ => by
    refine ⟨S, ρ, R, mkBI rdI p fun j p H1 S1 e1 => ?_⟩
    obtain ⟨⟨_, _, c3, c4⟩, p⟩ := rng_ite (p.gr e1)
    exact ⟨j, rfl, c3, c4, p _ H1 S1 (Gr.refl _ _) (wlk_rng (by rw [Int.sub_zero]))⟩
theorem pi_r2 (hg : Gl X "range") (hm : X.mg "range" = none) (ha : PE X a (tB G W H0 fa)) (hb : PE X b (tB G W H0 fb)) (hs : starEach [a, b] X.env = [(false, eval a X.env), (false, eval b X.env)]) (hs2 : starEach [b] X.env = [(false, eval b X.env)]) :
    PI X tg (.Call (.Name "range" p) [a, b] [] pos) (tI G W H0 fun ρ => (intR (fa ρ)).bind fun i => (intR (fb ρ)).bind fun j => rngD i j) :=
  (pi_range2 hg hm (pa_cons ha (pa_cons hb pa_nil hs2) (by rw [hs, hs2])) hs hs2).im fun σ H Q ⟨S, ρ, R, p⟩ => by
    refine ⟨S, ρ, R, mkBI rdI p fun i p H1 S1 e1 => ⟨S1, ρ, R.gr e1, mkBI rdI (p.gr e1) fun j p H2 S2 e2 => ?_⟩⟩
    obtain ⟨⟨c1, c2, c3, c4⟩, p⟩ := rng_ite (p.gr e2)
    exact ⟨i, j, rfl, ⟨c1, c2, c3, c4⟩, p _ H2 S2 (Gr.refl _ _) (wlk_rng rfl)⟩
end
/-! ### comprehensions -/
section
variable {G : Gm} {W : WD} {H0 : Hp} {X : Cx}
theorem Keep.updN {H : Hp} {S : Sy} {p : Addr} {o : HO} (h : ¬ S p) : Keep H S (upd H p o) S := fun b s => ⟨s, fun u e => by rw [upd_ne (show b ≠ p from fun z => h (by rw [← z]; exact s)), e]; exact SaO.self u⟩
theorem pe_co {elt tg iter : Expr} {ifs : List Expr} {scope : Scope} {own : List (Str × Nat)} {pos : Pos} {t : Tg} {fi : En → Res (List D)} {fc : En → Res Bool} {fe : En → Res (Bool × D)} (hK : X.K = G.K) (hc : X.calm = true) (hN : X.N.Nodup)
    (hi : PI X tg iter (tI G W H0 fi)) (ok : BlkOk X.N X.env.scope scope own) (hsl : ∀ i ∈ t.sl, i ∈ own.map (·.2))
    (hg : ∀ (s : Shared) (H : Hp) (C : Addr) (cl : List (Str × Addr)) (fp : List Addr), PG (X.blk s H scope (compEnvC scope cl C X.env) fp) tg (gOf G.K t))
    (ht : ∀ (s : Shared) (H : Hp) (C : Addr) (cl : List (Str × Addr)) (fp : List Addr), PTs (X.blk s H scope (compEnvC scope cl C X.env) fp) ifs (tT G (fun _ _ _ => False) H0 fc))
    (he : ∀ (s : Shared) (H : Hp) (C : Addr) (cl : List (Str × Addr)) (fp : List Addr), PE (X.blk s H scope (compEnvC scope cl C X.env) fp) elt (tD G (fun _ _ _ => False) H0 fe)) :
    (∀ σ H Q, tD G W H0 (fun ρ => (fi ρ).bind fun ds => if ds.length ≤ sizeLine then (compL (fun d => noX ((bindT t d (wipeE ρ (own.map (·.2)))).bind fun ρ' => (fc ρ').bind fun k => if k = true then (fe ρ').bind fun y => .ok (some y.2) else .ok none)) ds).bind fun ys => .ok (true, .lst ys) else .fail) σ H Q →
      tLc (tI G W H0 fi) (gOf G.K t) (tT G (fun _ _ _ => False) H0 fc) (tD G (fun _ _ _ => False) H0 fe) (own.map (·.2)) σ H Q) := by
  intro σ H Q ⟨S, ρ, R, p⟩
  generalize hvs : own.map (·.2) = vs at *
  refine ⟨S, ρ, R, mkI rdD p fun ds p J H1 S1 e1 wk D0 hD => ?_⟩
  obtain ⟨hsz, p⟩ := Post.ite p
  generalize hf : (fun d => noX ((bindT t d (wipeE ρ vs)).bind fun ρ' => (fc ρ').bind fun k => if k = true then (fe ρ').bind fun y => Res.ok (some y.2) else .ok none)) = f at p
  have fd : ∀ d, f d = noX ((bindT t d (wipeE ρ vs)).bind fun ρ' => (fc ρ').bind fun k => if k = true then (fe ρ').bind fun y => Res.ok (some y.2) else .ok none) := fun d => by rw [← hf]
  have H0D : H D0 = none := e1.same.free hD
  -- what holds between two turns
  let J2 : Nat → Hp → Prop := fun i Hc => ∃ (Sc : Sy) (acc : List V) (ys : List D), Gr H1 S1 Hc Sc ∧ ¬ Sc D0 ∧ Hc D0 = some (.lst acc) ∧ acc.length ≤ i ∧ Paired (Rep G Hc Sc) ys acc ∧
    Post G (fun c => W c σ) H S ((compL f (ds.drop i)).bind fun r => .ok (true, .lst (ys ++ r))) Q
  refine ⟨fun i m Hc => m = ds.length - i ∧ i ≤ ds.length ∧ J2 i Hc, ⟨_, rfl, Nat.zero_le _, S1, [], [], Gr.laid hD, fun z => ?_, upd_same, Nat.le_refl _, .nil, ?_⟩, fun i m Hc => ?_⟩
  · obtain ⟨o, h⟩ := (R.gr e1).dom.1 D0 z
    rw [hD] at h
    cases h
  · exact p
  · rintro ⟨rfl, hle, Sc, acc, ys, g, nS, hacc, hal, pr, p⟩
    have gg := e1.trans g
    by_cases hi : i < ds.length
    · have ed : ds.drop i = ds[i] :: ds.drop (i + 1) := List.drop_eq_getElem_cons hi
      have gt : ds[i]? = some ds[i] := List.getElem?_eq_getElem hi
      refine .inr ⟨wk.go i Hc Sc g.keep hi, fun Hc' => J2 (i + 1) Hc', fun Hc' hn => ⟨ds.length - (i + 1), by omega, rfl, hi, hn⟩, fun x Hx y => ?_⟩
      obtain ⟨rfl, rx⟩ := wk.yld i Hc Sc x Hx g.keep y _ gt
      rw [ed] at p
      generalize hd : ds[i] = d at *
      have p : Post G (fun c => W c σ) H S (((f d).bind fun o => (compL f (ds.drop (i + 1))).bind fun r => .ok (match o with | some y => y :: r | none => r)).bind fun r => .ok (true, .lst (ys ++ r))) Q := p
      rw [fd] at p
      cases zb : bindT t d (wipeE ρ vs) with
      | fail => rw [zb] at p; exact p.elim
      | exc c => rw [zb] at p; exact False.elim p
      | ok ρ' =>
        rw [zb] at p
        refine gOf_of zb rx ((R.gr gg).wipe vs) fun σ2 R2 hw => ⟨?_, Sc, ρ', R2, ?_⟩
        · rw [hw vs hsl]
          exact wipe_wipe σ vs vs fun _ h => h
        · cases zc : fc ρ' with
          | fail => rw [show ((Res.ok ρ').bind fun ρ' => (fc ρ').bind fun k => if k = true then (fe ρ').bind fun y => Res.ok (some y.2) else Res.ok none) = ((fc ρ').bind fun k => if k = true then (fe ρ').bind fun y => Res.ok (some y.2) else Res.ok none) from rfl, zc] at p; exact False.elim p
          | exc c => rw [show ((Res.ok ρ').bind fun ρ' => (fc ρ').bind fun k => if k = true then (fe ρ').bind fun y => Res.ok (some y.2) else Res.ok none) = ((fc ρ').bind fun k => if k = true then (fe ρ').bind fun y => Res.ok (some y.2) else Res.ok none) from rfl, zc] at p; exact False.elim p
          | ok k =>
            rw [show ((Res.ok ρ').bind fun ρ' => (fc ρ').bind fun k => if k = true then (fe ρ').bind fun y => Res.ok (some y.2) else Res.ok none) = ((fc ρ').bind fun k => if k = true then (fe ρ').bind fun y => Res.ok (some y.2) else Res.ok none) from rfl, zc] at p
            intro H3 S3 e3
            have nS3 : ¬ S3 D0 := fun z => (e3.new D0 z).elim nS fun q => by rw [hacc] at q; cases q.1
            cases k with
            | false =>
              refine ⟨S3, acc, ys, g.trans e3, nS3, e3.same _ _ hacc, by omega, e3.reps pr, ?_⟩
              cases zr : compL f (ds.drop (i + 1)) with
              | fail => rw [zr] at p; exact False.elim p
              | exc c => rw [zr] at p; exact p
              | ok r => rw [zr] at p; exact p
            | true =>
              refine ⟨S3, ρ', R2.gr e3, ?_⟩
              cases ze : fe ρ' with
              | fail => rw [show ((Res.ok true).bind fun k => if k = true then (fe ρ').bind fun y => Res.ok (some y.2) else Res.ok none) = ((fe ρ').bind fun y => Res.ok (some y.2)) from rfl, ze] at p; exact False.elim p
              | exc c => rw [show ((Res.ok true).bind fun k => if k = true then (fe ρ').bind fun y => Res.ok (some y.2) else Res.ok none) = ((fe ρ').bind fun y => Res.ok (some y.2)) from rfl, ze] at p; exact False.elim p
              | ok y =>
                rw [show ((Res.ok true).bind fun k => if k = true then (fe ρ').bind fun y => Res.ok (some y.2) else Res.ok none) = ((fe ρ').bind fun y => Res.ok (some y.2)) from rfl, ze] at p
                intro v H4 S4 e4 r4
                obtain ⟨S5, e5, k5, r5⟩ := r4.fz e4
                have e35 := e3.trans e5
                have hD4 : H4 D0 = some (.lst acc) := e35.same _ _ hacc
                have nS5 : ¬ S5 D0 := fun z => (e35.new D0 z).elim nS fun q => by rw [hacc] at q; cases q.1
                have kp : Keep H4 S5 (upd H4 D0 (.lst (acc ++ [v]))) S5 := Keep.updN nS5
                refine ⟨acc, hD4, by omega, S5, acc ++ [v], ys ++ [y.2], ⟨fun b o hb => ?_, (g.trans e35).sub, fun b hb => ?_⟩, nS5, upd_same, by rw [List.length_append, List.length_singleton]; omega, ?_, ?_⟩
                · have nb : b ≠ D0 := fun z => by rw [z, hD] at hb; cases hb
                  rw [upd_ne nb]
                  exact (g.trans e35).same _ _ hb
                · have nb : b ≠ D0 := fun z => nS5 (z ▸ hb)
                  rw [upd_ne nb]
                  exact (g.trans e35).new b hb
                · exact (Rep.keepL kp _ _ (e35.reps pr)).app (.cons (r5.keep kp) .nil)
                · have ea : ∀ r : List D, (ys ++ [y.2]) ++ r = ys ++ (y.2 :: r) := fun r => by rw [List.append_assoc]; rfl
                  cases zr : compL f (ds.drop (i + 1)) with
                  | fail => rw [zr] at p; exact False.elim p
                  | exc c => rw [zr] at p; exact p
                  | ok r =>
                    rw [zr] at p
                    show Post G (fun c => W c σ) H S (.ok (true, .lst ((ys ++ [y.2]) ++ r))) Q
                    rw [ea]
                    exact p
    · have e : i = ds.length := by omega
      subst e
      rw [List.drop_length] at p
      refine .inl ⟨wk.stop Hc Sc g.keep, ?_⟩
      have p : Post G (fun c => W c σ) H S (.ok (true, .lst (ys ++ []))) Q := p
      rw [List.append_nil] at p
      exact p _ Hc Sc gg ⟨D0, acc, ys, rfl, rfl, nS, H0D, hacc, pr⟩
end
end Hf

/-! Hg0: a generator expression whose element calls defs: its segments, its walk by all and any. -/
namespace Hg
open PySem PySem.Spec PyProof.Rows L2
set_option autoImplicit false
/-! ### generators are never taken away -/
theorem runs_gens {M : Model} {Γ : PySem.Ctx} {p : Pos} {t : Sem Fin} {fs : List Frame} {s s' : Shared} {e : End} (h : Runs M Γ p t fs s e s') : s.gens.size ≤ s'.gens.size := by
  induction h <;> (try simp only [Shared.setGen, Array.size_setIfInBounds, Array.size_push] at *) <;> omega
theorem wakes_gens {M : Model} {Γ : PySem.Ctx} {p : Pos} {g : Nat} {r : Resume} {s s' : Shared} {res : GenResult} (h : Wakes M Γ p g r s res s') : s.gens.size ≤ s'.gens.size := by
  have sg : ∀ (s : Shared) (g : Nat) (x : GenState), (s.setGen g x).gens.size = s.gens.size := fun s g x => by simp [Shared.setGen]
  unfold Wakes at h
  split at h
  · exact h.elim
  · split at h
    · obtain ⟨e₁, s₁, hr, _, _, rfl⟩ := h; have := runs_gens hr; rw [sg] at this; rw [sg]; exact this
    · rw [h.2]; exact Nat.le_refl _
    · rw [h.2, sg]; exact Nat.le_refl _
  · obtain ⟨e₁, s₁, hr, _, _, rfl⟩ := h; have := runs_gens hr; rw [sg] at this; rw [sg]; exact this
  · rw [h.2]; exact Nat.le_refl _
  · rw [h.2]; exact Nat.le_refl _
theorem wp_gens {α : Type} (M : Model) (Γ : PySem.Ctx) (n : Nat) (t : Sem α) : ∀ (Q : α → Pos → Shared → Prop) (E : Value → Pos → Shared → Prop) (p : Pos) (s : Shared), n ≤ s.gens.size → Sem.wp M Γ t Q E p s →
    Sem.wp M Γ t (fun a p' s' => n ≤ s'.gens.size ∧ Q a p' s') (fun e p' s' => n ≤ s'.gens.size ∧ E e p' s') p s := by
  induction t with
  | pure a => intro Q E p s hn h; exact ⟨hn, h⟩
  | raise e => intro Q E p s hn h; exact ⟨hn, h⟩
  | unsupported _ => intro Q E p s _ h; exact h
  | finish _ => intro Q E p s _ h; exact h
  | rule _ k ih => intro Q E p s hn h; exact ih () Q E p s hn h
  | «at» p' k ih => intro Q E p s hn h; exact ih () Q E p' s hn h
  | load a _ k ih => intro Q E p s hn h; obtain ⟨o, ho, h⟩ := h; exact ⟨o, ho, ih o Q E p s hn h⟩
  | update a _ f k ih => intro Q E p s hn h; exact ⟨h.1, ih () Q E p _ hn h.2⟩
  | loadIfAlive a k ih => intro Q E p s hn h; exact ih _ Q E p s hn h
  | point _ k ih => intro Q E p s hn h; exact ih () Q E p s hn h
  | register _ _ => intro Q E p s _ h; exact h
  | alloc o k ih => intro Q E p s hn h; exact ih _ Q E p _ hn h
  | fresh k ih => intro Q E p s hn h; exact ih _ Q E p _ hn h
  | ask k ih => intro Q E p s hn h; exact ih _ Q E p s hn h
  | choose src m k ih => intro Q E p s hn h; exact ⟨h.1, ih _ Q E p _ hn h.2⟩
  | os q _ k ih => intro Q E p s hn h; exact ih _ Q E p _ hn h
  | call c hd _ _ k ih => intro Q E p s hn h; obtain ⟨r, s', hr, h⟩ := h; exact ⟨r, s', hr, ih r Q E p s' (Nat.le_trans hn (runs_gens hr)) h⟩
  | handled own k ih => intro Q E p s hn h; exact ih _ Q E p s hn h
  | genState g k ih => intro Q E p s hn h; obtain ⟨st, hs, h⟩ := h; exact ⟨st, hs, ih _ Q E p s hn h⟩
  | newGen c k ih => intro Q E p s hn h; exact ih _ Q E p _ (by show n ≤ (s.gens.push _).size; rw [Array.size_push]; exact Nat.le_succ_of_le hn) h
  | resume g r _ k ih => intro Q E p s hn h; obtain ⟨res, s', hw, h⟩ := h; exact ⟨res, s', hw, ih res Q E p s' (Nat.le_trans hn (wakes_gens hw)) h⟩
  | yield _ _ _ _ => intro Q E p s _ h; exact h
  | stack k ih => intro Q E p s hn h; exact ih _ Q E p s hn h
  | fork _ _ => intro Q E p s _ h; exact h
  | thread k ih => intro Q E p s hn h; exact ih _ Q E p s hn h
  | await _ _ _ _ _ => intro Q E p s _ h; exact h
theorem wpAny_gens {α : Type} {M : Model} {A : Around} {s : Shared} {t : Sem α} {Q : α → Shared → Prop} {E : Value → Shared → Prop} {n : Nat} (hn : n ≤ s.gens.size) (h : wpAny M A t Q E s) :
    wpAny M A t (fun a s' => n ≤ s'.gens.size ∧ Q a s') (fun e s' => n ≤ s'.gens.size ∧ E e s') s :=
  fun Γ p hΓ => wp_gens M Γ n t _ _ p s hn (h Γ p hΓ)
/-! ### the segments of a generator expression -/
section
variable {prog : Program} {w : World} {A : Around}
/-- between two turns the world outside moves the state so -/
abbrev OutR := Value → Shared → Shared → Prop
def NoE : Value → Shared → Prop := fun _ _ => False
def gR (L : Shared → Prop) : GenEnd := fun m _ r s => r = .ok .next ∧ (m = 1 ∧ L s)
def gY (n : Nat) (K : Nat → Value → Shared → Prop) (O : OutR) : Protocol := fun m _ v s kap => K (n - m) v s ∧ ∀ s'', O v s s'' → kap (.send .none) s''
abbrev cL (elt tg iter : Expr) (scope : Scope) (pos : Pos) (I : Addr) (cenv : Env) : Code := .compLoop (.GeneratorExp elt [⟨tg, iter, [], 0⟩] scope pos) 0 (.ref I) .none cenv
abbrev cS (elt tg iter : Expr) (scope : Scope) (pos : Pos) (I : Addr) (cenv : Env) : Code := .compStart (.GeneratorExp elt [⟨tg, iter, [], 0⟩] scope pos) 0 (.ref I) .none cenv
/-- one turn: J i before, K i behind the element, Yv i of what it gives -/
def TurnG (prog : Program) (w : World) (A : Around) (elt tg : Expr) (I : Addr) (cenv : Env) (n : Nat) (J : Nat → Shared → Prop) (K : Nat → Value → Shared → Prop) (L : Shared → Prop) : Prop :=
  (∀ i s, i < n → J i s → wpAny (model prog w) A (pyNext (.ref I)) (fun r s1 => ∃ u, r = some u ∧ wpAny (model prog w) A (letOwnedTupleGo tg (.ref I) u) (fun _ s2 => wpAny (model prog w) A (assign tg cenv u) (fun _ s3 =>
    wpAny (model prog w) A (eval elt cenv) (fun y s4 => K i y s4) NoE s3) NoE s2) NoE s1) NoE s) ∧
  ∀ s, J n s → wpAny (model prog w) A (pyNext (.ref I)) (fun r s1 => r = none ∧ L s1) NoE s
theorem seg_loop {elt tg iter : Expr} {scope : Scope} {pos : Pos} {I : Addr} {cenv : Env} {n : Nat} {J : Nat → Shared → Prop} {K : Nat → Value → Shared → Prop} {L : Shared → Prop} {O : OutR}
    (hco : cenv.scope.isCoroutine = false) (T : TurnG prog w (A.over (cL elt tg iter scope pos I cenv) []) elt tg I cenv n J K L) (res : ∀ i v s s'', i < n → K i v s → O v s s'' → J (i + 1) s'') :
    ∀ (k i : Nat) (s₀ s : Shared), n - i = k → i ≤ n → J i s →
      Seg (model prog w) A (gR L) (gY n K O) (n + 1 - i) s₀ (cL elt tg iter scope pos I cenv) ((model prog w).den (cL elt tg iter scope pos I cenv)) [] s := by
  obtain ⟨T1, T2⟩ := T
  intro k
  induction k with
  | zero =>
    intro i s₀ s hk hi hJ
    have hin : i = n := by omega
    subst hin
    show Seg _ A _ _ _ s₀ _ ((compTurn (.GeneratorExp elt [⟨tg, iter, [], 0⟩] scope pos) 0 (.ref I) .none cenv).onRaise (leaving cenv)) [] s
    rw [compTurn_gen, Sem.onRaise_eq_wrap]
    refine seg_bind_wrap (wpAny_standAt ?_)
    refine seg_bind_wrap (wpAny_mono (T2 s hJ) (fun r s1 h1 => ?_) fun _ _ z => z.elim)
    obtain ⟨rfl, hL⟩ := h1
    exact seg_end (.ok .next) ⟨rfl, by omega, hL⟩
  | succ k ih =>
    intro i s₀ s hk hi hJ
    have hlt : i < n := by omega
    show Seg _ A _ _ _ s₀ _ ((compTurn (.GeneratorExp elt [⟨tg, iter, [], 0⟩] scope pos) 0 (.ref I) .none cenv).onRaise (leaving cenv)) [] s
    rw [compTurn_gen, Sem.onRaise_eq_wrap]
    refine seg_bind_wrap (wpAny_standAt ?_)
    refine seg_bind_wrap (wpAny_mono (T1 i s hlt hJ) (fun r s1 h1 => ?_) fun _ _ z => z.elim)
    obtain ⟨u, rfl, h1⟩ := h1
    refine seg_bind_wrap (wpAny_mono h1 (fun _ s2 h2 => ?_) fun _ _ z => z.elim)
    refine seg_bind_wrap (wpAny_mono h2 (fun _ s3 h3 => ?_) fun _ _ z => z.elim)
    refine seg_bind_wrap (wpAny_tests_nil ?_)
    have e : n + 1 - i = (n + 1 - (i + 1)) + 1 := by omega
    rw [e]
    simp only [if_true]
    have hy : ∀ v, yieldOut cenv v = yieldValue v := fun v => by simp only [yieldOut, hco, Bool.false_eq_true, if_false]
    simp only [hy]
    rw [Sem.bind_eq_wrap', Sem.bind_eq_wrap', Sem.wrap_wrap, Sem.wrap_wrap]
    refine seg_wrap (wpAny_mono h3 (fun y s4 h4 => ?_) fun _ _ z => z.elim)
    have hK := h4
    have ei : n - (n + 1 - (i + 1)) = i := by omega
    refine seg_at (seg_yield rfl rfl rfl ⟨by rw [ei]; exact hK, fun s'' ho => ?_⟩)
    exact seg_again rfl (ih (i + 1) s'' s'' (by omega) hlt (res i y s4 s'' hlt hK ho))
theorem seg_start {elt tg iter : Expr} {scope : Scope} {pos : Pos} {I : Addr} {cenv : Env} {n : Nat} {J : Nat → Shared → Prop} {K : Nat → Value → Shared → Prop} {L : Shared → Prop} {O : OutR}
    (hco : cenv.scope.isCoroutine = false) (T : TurnG prog w (A.over (cL elt tg iter scope pos I cenv) []) elt tg I cenv n J K L) (res : ∀ i v s s'', i < n → K i v s → O v s s'' → J (i + 1) s'') (s₀ s : Shared) (hJ : J 0 s)
    (self : ∀ (A' : Around) (Q : Value → Shared → Prop) (E : Value → Shared → Prop), Q (.ref I) s → wpAny (model prog w) A' (pyIter (.ref I)) Q E s) :
    Seg (model prog w) A (gR L) (gY n K O) (n + 1) s₀ (cS elt tg iter scope pos I cenv) ((model prog w).den (cS elt tg iter scope pos I cenv)) [] s := by
  have loop := seg_loop (iter := iter) (scope := scope) (pos := pos) (prog := prog) (w := w) (A := A) (O := O) hco T res n 0 s₀ s (Nat.sub_zero _) (Nat.zero_le _) hJ
  show Seg _ A _ _ _ s₀ _ ((compStart (.GeneratorExp elt [⟨tg, iter, [], 0⟩] scope pos) 0 (.ref I) .none cenv).onRaise (leaving cenv)) [] s
  unfold compStart
  rw [Sem.onRaise_eq_wrap]
  show Seg _ A _ _ _ s₀ _ ((ask >>= _).wrap _ _ _ _) [] s
  refine seg_bind_wrap (wpAny_askSetting ?_)
  split
  · exact seg_again rfl loop
  · first
      | exact seg_bind_wrap (wpAny_rule (seg_bind_wrap (wpAny_standAt (seg_bind_wrap (self _ _ _ (seg_again rfl loop))))))
      | (refine seg_bind_wrap (wpAny_rule ?_); show Seg _ A _ _ _ s₀ _ ((standAt iter.pos >>= _).wrap _ _ _ _) [] s; exact seg_bind_wrap (wpAny_standAt (seg_bind_wrap (self _ _ _ (seg_again rfl loop)))))
end
end Hg

/-! Hg1: the frame of a generator expression as a context. -/
namespace Hg
open PySem PySem.Spec PyProof.Rows L2
set_option autoImplicit false
/-- the context of a generator expression's frame -/
abbrev Gx (X : Cx) (A' : Around) (s : Shared) (H : Hp) (genv : Env) (fp : List Addr) : Cx := { X with A := A', s_0 := s, H_0 := H, env := genv, outer := X.stack, stack := genv :: X.stack, ex := fp, fn := fun _ => false, pn := [], xe := fun _ _ => False }
structure GScope (scope : Scope) : Prop where
  co : scope.isCoroutine = false
  cell : ∀ y ∈ scope.names, y.2 ≠ .cell
  dot : scope.names.lookup (".0" : Str) = some NameKind.local
abbrev gEnv (X : Cx) (scope : Scope) (C : Addr) (code : Value) : Env := genEnv scope (cloFrom X.env.cells scope.names []) C code builtinsNs X.env
section
variable {X : Cx} {pins : List (Addr × Obj)} {σ : L2.St} {H : Hp} {s : Shared}
theorem gen_inv {A' : Around} {scope : Scope} {own : List (Str × Nat)} {fp : List Addr} {code : Value} (I : Inv X pins σ H s) (ok : BlkOk X.N X.env.scope scope own) (gs : GScope scope) (hN : X.N.Nodup) (hA : A'.handled = none)
    (hfr : A'.frames = some (gEnv X scope s.heap.objs.size code :: X.stack)) (hfp : ∀ b ∈ fp, FpOk X pins H b ∧ b < s.heap.objs.size)
    {h5 : Heap} {m0 : Str → Option Value} (hn : h5.Ns s.heap.objs.size m0) (hk : ∀ b o, s.heap.get? b = some o → h5.get? b = some o) {ga : Addr} {go : Obj} (hgo : h5.get? ga = some go) (hga : s.heap.objs.size < ga) (hgd : ∀ v, go.data ≠ .cell v)
    {gens' : Array GenState} {tk : Nat} (hb : AllBare gens') :
    Inv (Gx X A' s H (gEnv X scope s.heap.objs.size code) fp) [(ga, go)] (wipe σ (own.map (·.2))) H { s with heap := h5, gens := gens', toks := tk } := by
  have hfree : ∀ y ∈ scope.names, y.2 = .free → ∃ c, X.env.cells.lookup y.1 = some c := fun y hy e => by
    rcases ok.free y hy e with k | k
    · exact I.ok.has _ (.inl k)
    · exact I.ok.has _ (.inr k)
  generalize hcenv : gEnv X scope s.heap.objs.size code = cenv at *
  have hL : cenv.locals = s.heap.objs.size := by rw [← hcenv]; rfl
  have hcl : cenv.cells = cloFrom X.env.cells scope.names [] := by rw [← hcenv]; rfl
  have hsc : cenv.scope = scope := by rw [← hcenv]; rfl
  have hfm : cenv.frame = some cenv.locals := by rw [← hcenv]; rfl
  have cm : ∀ {y c}, (y, c) ∈ cloFrom X.env.cells scope.names [] → X.env.cells.lookup y = some c ∧ c < s.heap.objs.size := fun {y c} hm => by
    rcases cloFrom_mem hm with hm | ⟨h1, rfl⟩
    · cases hm
    · obtain ⟨c, hc⟩ := hfree _ h1 rfl
      rw [hc]
      obtain ⟨w, z⟩ := I.cell _ _ hc
      exact ⟨rfl, z.lt⟩
  have mem : ∀ {y c}, cenv.cells.lookup y = some c → X.env.cells.lookup y = some c ∧ c < s.heap.objs.size := fun {y c} e => by
    rw [hcl] at e
    exact cm (PySem.mem_of_lookup e)
  have look : ∀ {y}, scope.names.lookup y = some .free → ∃ c, cenv.cells.lookup y = some c ∧ X.env.cells.lookup y = some c := fun {y} hl => by
    have hy : (y, NameKind.free) ∈ scope.names := PySem.mem_of_lookup hl
    obtain ⟨c', e'⟩ := L2.mem_lookup (cloFrom_has (cells := X.env.cells) (acc := []) hy)
    rw [← hcl] at e'
    exact ⟨c', e', (mem e').1⟩
  have okB : (Gx X A' s H cenv fp).Ok := by
    refine ⟨I.ok.mod, by show cenv.scope.kind = _; rw [hsc]; exact ok.kind, by show cenv.globals = _; rw [← hcenv]; exact I.ok.glob, by show cenv.builtins = _; rw [← hcenv]; rfl, by show s.heap.objs.size ≤ cenv.locals; rw [hL]; exact Nat.le_refl _,
      fun y z c e1 e2 => ?_, fun y hy => ?_, fun y c z e => ?_, fun _ => hA, hfr, .inr ⟨rfl, hfm⟩, fun b hb => ⟨?_, fun y c e z => ?_⟩, I.bs, Nat.le_trans I.ok.bsz I.sz, fun b o e hb => ?_, fun b hb z => ?_, I.stack, I.stkFree⟩
    · exact I.ok.inj y z c (mem e1).1 (mem e2).1
    · show ∃ c, cenv.cells.lookup y = some c
      rcases hy with hy | hy
      · have hy : cenv.scope.names.lookup y = some .cell := hy
        rw [hsc] at hy
        exact absurd rfl (gs.cell _ (PySem.mem_of_lookup hy))
      · have hy : cenv.scope.names.lookup y = some .free := hy
        rw [hsc] at hy
        obtain ⟨c, h1, _⟩ := look hy
        exact ⟨c, h1⟩
    · cases z
    · show b ≠ cenv.locals
      rw [hL]; exact Nat.ne_of_lt (hfp b hb).2
    · exact (hfp b hb).1.2.2.2.2.1 y c (mem e).1 z
    · rcases (hfp b hb).1.2.2.2.1 with z | z
      · exact I.ok.noex b o e z
      · exact absurd (Nat.lt_of_lt_of_le (Heap.lt_size e) (Nat.le_trans I.ok.bsz z)) (Nat.lt_irrefl _)
    · rcases List.mem_cons.mp (I.stkSub b z) with z | z
      · exact (hfp b hb).1.2.1 z
      · exact (hfp b hb).1.2.2.1 z
  refine ⟨okB, rfl, hb, Un.kept hk, ⟨m0, ?_, fun i y av e1 e2 e3 => ?_⟩, fun y c e => ?_, ?_, fun y c e => ?_, fun p hp => ?_, I.hok.kept hk, by rw [wipe_length]; exact I.len⟩
  · show Heap.Ns _ cenv.locals _
    rw [hL]
    exact hn
  · obtain ⟨e2, hne⟩ := wipe_some e2
    have e3 : Vis cenv.scope y := e3
    rw [hsc] at e3
    have no : ∀ k, scope.names.lookup y = some k → ¬ (k = .local ∨ k = .cell) := fun k e hh => by
      rcases ok.own _ (PySem.mem_of_lookup e) hh with e' | e'
      · obtain ⟨p, hp, hpy⟩ := List.mem_map.mp e'
        have e3 := ok.ix p hp
        have : p.1 = y := hpy
        rw [this] at e3
        exact hne (List.mem_map.mpr ⟨p, hp, nodup_ix hN e3 e1⟩)
      · exact e' (List.mem_of_getElem? e1)
    have hf : scope.names.lookup y = some .free := by
      rcases e3 with e3 | e3 | e3
      · exact absurd (.inl rfl) (no _ e3)
      · exact absurd (.inr rfl) (no _ e3)
      · exact e3
    obtain ⟨m, hn, hl⟩ := I.loc
    have hvis : Vis X.env.scope y := (ok.free _ (PySem.mem_of_lookup hf) rfl).elim (fun k => .inr (.inl k)) (fun k => .inr (.inr k))
    obtain ⟨w, r, q⟩ := hl i y av e1 e2 hvis
    refine ⟨w, r, .inr ⟨.inr (by show cenv.scope.names.lookup y = _; rw [hsc]; exact hf), ?_⟩⟩
    obtain ⟨c, h1, h2⟩ := look hf
    rcases q with ⟨k, _⟩ | ⟨_, c', e', z⟩
    · have k : X.env.scope.names.lookup y = some .local := k
      rcases ok.free _ (PySem.mem_of_lookup hf) rfl with k' | k' <;> rw [show X.env.scope.names.lookup y = _ from k'] at k <;> cases k
    · rw [h2] at e'; cases e'
      exact ⟨c, h1, z.keeps hk⟩
  · obtain ⟨h1, _⟩ := mem e
    obtain ⟨w, z⟩ := I.cell y c h1
    exact ⟨w, z.keeps hk⟩
  · show H cenv.locals = none
    rw [hL]; exact I.hok.fresh (Nat.le_refl _)
  · exact I.freeC y c (mem e).1
  · have hp : p = (ga, go) := by simpa using (show p ∈ ([] : List (Addr × Obj)) ++ [(ga, go)] from hp)
    subst hp
    refine ⟨hgo, I.hok.fresh (Nat.le_of_lt hga), ?_, fun z => ?_, hgd⟩
    · show ga ≠ cenv.locals
      rw [hL]; exact Nat.ne_of_gt hga
    · rcases List.mem_cons.mp (I.stkSub ga z) with z | z
      · have := I.lt
        have h2 : X.env.locals < ga := Nat.lt_trans this hga
        rw [← z] at h2
        exact Nat.lt_irrefl _ h2
      · exact I.nofs (Nat.le_of_lt hga) z
/-- back from the frame -/
theorem gen_back {A' : Around} {genv : Env} {fp : List Addr} {ps : List (Addr × Obj)} {σ' : L2.St} {H' : Hp} {s' : Shared} (I : Inv X pins σ H s) (hfp : ∀ b ∈ fp, FpOk X pins H b) (I' : Inv (Gx X A' s H genv fp) ps σ' H' s') : Inv X pins σ H' s' :=
  I.call' (ch := fp) I'.os I'.base I'.hok I'.bare fun b hb => ⟨(hfp b hb).2.2.2.1, (hfp b hb).2.1, (hfp b hb).2.2.2.2.1, (hfp b hb).2.2.2.2.2⟩
end
end Hg

/-! Hg2: all and any of a generator expression whose element calls defs. -/
namespace Hg
open PySem PySem.Spec PyProof.Rows L2
set_option autoImplicit false
/-! ### all, any over a generator -/
structure WalkG (prog : Program) (w : World) (A : Around) (a : Addr) (n : Nat) (b : Bool) (St : Nat → Shared → Prop) (Qe : Bool → Shared → Prop) : Prop where
  self : ∀ (A' : Around) (j : Nat) (s : Shared) (Q : Value → Shared → Prop) (E : Value → Shared → Prop), St j s → Q (.ref a) s → wpAny (model prog w) A' (pyIter (.ref a)) Q E s
  item : ∀ j s, j < n → St j s → wpAny (model prog w) A (pyNext (.ref a)) (fun r s' => ∃ k, r = some (.bool k) ∧ if k = b then St (j + 1) s' else Qe (!b) s') NoE s
  done : ∀ s, St n s → wpAny (model prog w) A (pyNext (.ref a)) (fun r s' => r = none ∧ Qe b s') NoE s
section
variable {prog : Program} {w : World} {A : Around} {E : Value → Shared → Prop} {s : Shared} {a : Addr} {n : Nat} {St : Nat → Shared → Prop} {Qe : Bool → Shared → Prop}
theorem all_loop {R : Result → Shared → Prop} (W : WalkG prog w A.in1 a n true St Qe) (hR : ∀ k s', Qe k s' → R (.ok (.ret (.bool k))) s') : ∀ (k i : Nat) (s : Shared), n - i = k → i ≤ n → St i s → codeAny (model prog w) A (.builtin "all.loop" ⟨[.ref a], []⟩) R s := by
  intro k
  induction k with
  | zero =>
    intro i s hk hi hst
    have hin : i = n := by omega
    subst hin
    refine codeAny_builtin F.entry_all_loop ?_
    rw [Around.under_plainId F.plain_all_loop _]
    show wpAny _ A.in1 (pyNext (.ref a) >>= _) _ _ s
    refine wpAny_bind (wpAny_mono (W.done s hst) (fun r s' h => ?_) fun _ _ z => z.elim)
    obtain ⟨rfl, hq⟩ := h
    exact wpAny_bind (wpAny_rule (wpAny_pure (hR _ _ hq)))
  | succ k ih =>
    intro i s hk hi hst
    have hlt : i < n := by omega
    refine codeAny_builtin F.entry_all_loop ?_
    rw [Around.under_plainId F.plain_all_loop _]
    show wpAny _ A.in1 (pyNext (.ref a) >>= _) _ _ s
    refine wpAny_bind (wpAny_mono (W.item i s hlt hst) (fun r s' h => ?_) fun _ _ z => z.elim)
    obtain ⟨k', rfl, h⟩ := h
    refine wpAny_bind (wpAny_holding (wpAny_truthy_bool ?_))
    refine wpAny_bind (wpAny_letGo ?_)
    cases k' with
    | true => exact wpAny_pure ⟨plainId_quiet F.plain_all_loop _, ih (i + 1) _ (by omega) hlt h⟩
    | false => exact wpAny_bind (wpAny_rule (wpAny_pure (hR _ _ h)))
theorem any_loop {R : Result → Shared → Prop} (W : WalkG prog w A.in1 a n false St Qe) (hR : ∀ k s', Qe k s' → R (.ok (.ret (.bool k))) s') : ∀ (k i : Nat) (s : Shared), n - i = k → i ≤ n → St i s → codeAny (model prog w) A (.builtin "any.loop" ⟨[.ref a], []⟩) R s := by
  intro k
  induction k with
  | zero =>
    intro i s hk hi hst
    have hin : i = n := by omega
    subst hin
    refine codeAny_builtin F.entry_any_loop ?_
    rw [Around.under_plainId F.plain_any_loop _]
    show wpAny _ A.in1 (pyNext (.ref a) >>= _) _ _ s
    refine wpAny_bind (wpAny_mono (W.done s hst) (fun r s' h => ?_) fun _ _ z => z.elim)
    obtain ⟨rfl, hq⟩ := h
    exact wpAny_bind (wpAny_rule (wpAny_pure (hR _ _ hq)))
  | succ k ih =>
    intro i s hk hi hst
    have hlt : i < n := by omega
    refine codeAny_builtin F.entry_any_loop ?_
    rw [Around.under_plainId F.plain_any_loop _]
    show wpAny _ A.in1 (pyNext (.ref a) >>= _) _ _ s
    refine wpAny_bind (wpAny_mono (W.item i s hlt hst) (fun r s' h => ?_) fun _ _ z => z.elim)
    obtain ⟨k', rfl, h⟩ := h
    refine wpAny_bind (wpAny_holding (wpAny_truthy_bool ?_))
    refine wpAny_bind (wpAny_letGo ?_)
    cases k' with
    | false => exact wpAny_pure ⟨plainId_quiet F.plain_any_loop _, ih (i + 1) _ (by omega) hlt h⟩
    | true => exact wpAny_bind (wpAny_rule (wpAny_pure (hR _ _ h)))
theorem call_allG {Q : Value → Shared → Prop} (W : WalkG prog w A.in1 a n true St Qe) (h : St 0 s) (hQ : ∀ k s', Qe k s' → Q (.bool k) s') : wpAny (model prog w) A (call (.builtin "all") [.ref a]) Q E s := by
  refine call_function_tree F.kind_all F.plain_all F.entry_all (F.args_all1 _) ?_
  unfold Builtin.«all»
  refine wpAny_bind (m := oneArg "all" _) (wpAny_pure ?_)
  refine wpAny_bind (W.self _ 0 s _ _ h ?_)
  exact wpAny_pure ⟨plainId_quiet F.plain_all_loop _, all_loop W (fun k s' hq => hQ k s' hq) n 0 s (Nat.sub_zero _) (Nat.zero_le _) h⟩
theorem call_anyG {Q : Value → Shared → Prop} (W : WalkG prog w A.in1 a n false St Qe) (h : St 0 s) (hQ : ∀ k s', Qe k s' → Q (.bool k) s') : wpAny (model prog w) A (call (.builtin "any") [.ref a]) Q E s := by
  refine call_function_tree F.kind_any F.plain_any F.entry_any (F.args_any1 _) ?_
  unfold Builtin.«any»
  refine wpAny_bind (m := oneArg "any" _) (wpAny_pure ?_)
  refine wpAny_bind (W.self _ 0 s _ _ h ?_)
  exact wpAny_pure ⟨plainId_quiet F.plain_any_loop _, any_loop W (fun k s' hq => hQ k s' hq) n 0 s (Nat.sub_zero _) (Nat.zero_le _) h⟩
/-! ### a generator's walk out of its segments -/
def GAt (prog : Program) (w : World) (A : Around) (a : Addr) (g n : Nat) (K : Nat → Value → Shared → Prop) (O : OutR) (L : Shared → Prop) (j : Nat) (s : Shared) : Prop :=
  s.heap.IsGen a g ∧ s.heap.NoLimit ∧ AllBare s.gens ∧ ∃ gs, s.gens[g]? = some gs ∧ ∀ s'', (s.heap = s''.heap ∧ s.os = s''.os ∧ AllBare s''.gens ∧ s.gens.size ≤ s''.gens.size) → gs.Goes (model prog w) A.in1 (gR L) (gY n K O) (n + 1 - j) (.send .none) s''
theorem bare_set {gens : Array GenState} (h : AllBare gens) {g : Nat} {x : GenState} (hx : x.bare = true) (s : Shared) (e : s.gens = gens) : AllBare (s.setGen g x).gens := by
  subst e
  intro y hy
  obtain ⟨i, hi, rfl⟩ := Array.mem_iff_getElem.mp hy
  simp only [Shared.setGen, Array.size_setIfInBounds] at hi
  show ((s.gens.setIfInBounds g x)[i]'(by simpa using hi)).bare = true
  rw [Array.getElem_setIfInBounds (by simpa using hi)]
  split
  · exact hx
  · exact h _ (Array.getElem_mem _)
theorem walk_of {b : Bool} {a : Addr} {g n : Nat} {K : Nat → Value → Shared → Prop} {O : OutR} {L : Shared → Prop} {Qe : Bool → Shared → Prop} (hh : A.handled = none) (hroom : A.depth < recursionLimit)
    (hK : ∀ j v s, j < n → K j v s → ∃ k, v = .bool k ∧ g < s.gens.size ∧ AllBare s.gens ∧ s.heap.IsGen a g ∧ s.heap.NoLimit ∧ ∀ gs' : GenState, gs'.bare = true → (k = b → ∀ s'', ((s.setGen g gs').heap = s''.heap ∧ (s.setGen g gs').os = s''.os ∧ AllBare s''.gens ∧ (s.setGen g gs').gens.size ≤ s''.gens.size) → O v s s'') ∧ (k ≠ b → Qe (!b) (s.setGen g gs')))
    (hKn : ∀ v s, ¬ K n v s) (hL : ∀ s h', L s → (∀ b o, s.heap.get? b = some o → h'.get? b = some o) → Qe b { s.setGen g .finished with heap := h' }) :
    WalkG prog w A a n b (GAt prog w A a g n K O L) Qe where
  self := fun A' j s Q E h hq => wpAny_pyIter_gen h.1 hq
  item := fun j s hj h => by
    obtain ⟨h1, h2, h3, gs, h4, h5⟩ := h
    have run := h5 (s.setGen g .running) ⟨rfl, rfl, bare_set h3 rfl s rfl, by simp [Shared.setGen]⟩
    obtain ⟨m, hm⟩ : ∃ m, n + 1 - j = m + 2 := ⟨n + 1 - j - 2, by omega⟩
    rw [hm] at run
    refine wpAny_pyNext_genexpQ (P := fun m s₀ s₁ => m = 1 ∧ L s₁) hh h2 hroom h1 h4 run (fun v s₁ gs' hb hv => ?_) (fun s₁ hp h' hk => ?_)
    · obtain ⟨q1, q2⟩ := hv
      have ej : n - (m + 2 - 1) = j := by omega
      rw [ej] at q1
      obtain ⟨k, e, k1, k2, k3, k4, k5⟩ := hK j v s₁ hj q1
      obtain ⟨k6, k7⟩ := k5 gs' hb
      refine ⟨k, by rw [e], ?_⟩
      by_cases c : k = b
      · rw [if_pos c]
        refine ⟨k3, k4, bare_set k2 hb s₁ rfl, gs', by simp [Shared.setGen, k1], fun s'' ho => ?_⟩
        have e2 : n + 1 - (j + 1) = m + 1 := by omega
        rw [e2]
        exact q2 s'' (k6 c s'' ho)
      · rw [if_neg c]
        exact k7 c
    · exact absurd hp.1 (by omega)
  done := fun s h => by
    obtain ⟨h1, h2, h3, gs, h4, h5⟩ := h
    have run := h5 (s.setGen g .running) ⟨rfl, rfl, bare_set h3 rfl s rfl, by simp [Shared.setGen]⟩
    have e1 : n + 1 - n = 1 := by omega
    rw [e1] at run
    refine wpAny_pyNext_genexpQ (P := fun m s₀ s₁ => m = 1 ∧ L s₁) hh h2 hroom h1 h4 run (fun v s₁ gs' hb hv => ?_) (fun s₁ hp h' hk => ?_)
    · obtain ⟨q1, q2⟩ := hv
      exact absurd q1 (by simpa using hKn v s₁)
    · exact ⟨rfl, hL s₁ h' hp.2 hk⟩
end
end Hg

/-! Hg3: all and any of a generator expression, as rules. -/
namespace Hg
open PySem PySem.Spec PyProof.Rows L2
set_option autoImplicit false
/-- all (b = true), any (b = false) of what te gives, as far as it is asked -/
def tGx (b : Bool) (P : Addr) (wi : TI) (g : TG) (te : TE) (vs : List Nat) : TE := fun σ H Q => wi σ H fun J H1 => GxR.TabG H1 P ∧ ∀ H2, GxR.Tabbed P H1 H2 → ∃ (n : Nat) (W : Nat → Hp → Prop), W 0 H2 ∧ ∀ i H, W i H →
  (i = n ∧ J.stop i H ∧ Q (.bl b) H) ∨ (i < n ∧ J.go i H ∧ ∀ x H', J.yld i H x H' → g x (wipe σ vs) H' fun σ2 H3 => wipe σ2 vs = wipe σ vs ∧ te σ2 H3 fun y H4 => ∃ k, y = .bl k ∧ if k = b then W (i + 1) H4 else Q (.bl (!b)) H4)
section
variable {X : Cx} {pins : List (Addr × Obj)} {σ : L2.St} {H : Hp} {s : Shared}
theorem inv_gens {s'' : Shared} (I : Inv X pins σ H s) (k : ∀ b o, s.heap.get? b = some o → s''.heap.get? b = some o) (ho : s''.os = s.os) (hb : AllBare s''.gens) : Inv X pins σ H s'' :=
  I.call' (ch := []) ho (Un.kept k) (I.hok.kept k) hb fun b hb => by cases hb
theorem over_handled {A : Around} {c : Code} : (A.over c []).handled = A.handled := rfl
theorem over_frames {A : Around} {elt tg iter : Expr} {scope : Scope} {pos : Pos} {I : Addr} {genv : Env} {l : List Env} (h : A.frames = some l) : (A.over (cL elt tg iter scope pos I genv) []).frames = some (genv :: l) := by
  have e : (A.over (cL elt tg iter scope pos I genv) []).frames = pushEnvs (cL elt tg iter scope pos I genv).envs (pushEnvs (envsOf (([] : List Frame).map Frame.where_)) A.frames) := rfl
  rw [e, h]
  rfl
theorem over_depth {A : Around} {elt tg iter : Expr} {scope : Scope} {pos : Pos} {I : Addr} {genv : Env} : (A.over (cL elt tg iter scope pos I genv) []).depth = A.depth + 1 := rfl
theorem over_units {A : Around} {elt tg iter : Expr} {scope : Scope} {pos : Pos} {I : Addr} {genv : Env} : (A.over (cL elt tg iter scope pos I genv) []).units = A.units + 3 := rfl
/-- the Around of a generator's frame that all or any walks -/
structure ArG (X : Cx) (A' : Around) : Prop where
  hd : A'.handled = none
  dp : A'.depth = X.A.depth + 1
  un : A'.units = X.A.units + 5
theorem gx_make {b : Bool} {c P : Addr} {elt tg iter : Expr} {scope : Scope} {own : List (Str × Nat)} {gpos : Pos} {wi : TI} {g : TG} {te : TE} {Q : VK} {Q' : Value → Shared → Prop}
    (hc : X.calm = true) (hroom : X.A.depth < recursionLimit) (hN : X.N.Nodup) (TB : GxR.TabB X.base X.mg c P) (hcode : X.env.code = .ref c) (ok : BlkOk X.N X.env.scope scope own) (gs : GScope scope) (hi : PI X tg iter wi)
    (hg : ∀ (A' : Around) (s : Shared) (H : Hp) (C : Addr) (code : Value) (fp : List Addr), ArG X A' → PG (Gx X A' s H (gEnv X scope C code) fp) tg g) (he : ∀ (A' : Around) (s : Shared) (H : Hp) (C : Addr) (code : Value) (fp : List Addr), ArG X A' → PE (Gx X A' s H (gEnv X scope C code) fp) elt te)
    (hs : ∀ v, genFold iter X.env v = pure v) (I : Inv X pins σ H s) (h : tGx b P wi g te (own.map (·.2)) σ H Q)
    (fin : ∀ a s5 n St, WalkG X.prog X.w X.A.in1 a n b St (fun k s' => EP X pins σ Q (.bool k) s') → St 0 s5 → Q' (.ref a) s5) :
    wpAny (model X.prog X.w) X.A (eval (.GeneratorExp elt [⟨tg, iter, [], 0⟩] scope gpos) X.env) Q' X.xe s := by
  have hfree : ∀ y ∈ scope.names, y.2 = .free → ∃ c, X.env.cells.lookup y.1 = some c := fun y hy e => by
    rcases ok.free y hy e with k | k
    · exact I.ok.has _ (.inl k)
    · exact I.ok.has _ (.inr k)
  refine wpAny_GeneratorExp_make gs.co (closure_ok hfree) gs.cell gs.dot ok.kind hroom ?_ hs
  refine thn (hi.run pins s σ H _ I h) fun xv s1 hx => thn hx fun itv s2 h2 => ?_
  obtain ⟨it, fp, tn, J, H2, e, I2, T, st2, f2, ⟨ps, hP, ht⟩, q⟩ := h2
  subst e
  refine ⟨I2.nolimit, ?_⟩
  have hPs : s2.heap.get? P = some { cls := .none, data := .fields ps } := I2.hok P _ hP
  have hPlt : P < s2.heap.objs.size := Heap.lt_size hPs
  have cd : PySem.W.CodeHd s2.heap c P := TB.code.keeps fun b u e => I2.bk b u e
  have cont : ∀ (code : Value) (h3 : Heap) (tk : Nat) (ps' : Array Value), Heap.ExtBut P s2.heap h3 → s2.heap.objs.size ≤ h3.objs.size → h3.get? P = some { cls := .none, data := .fields ps' } → (∃ more, ps' = ps ++ more) → TriplesOk ps'.toList →
      wpAny (model X.prog X.w) X.A (builtinsFor X.env.globals X.env.builtins) (fun bi s₄ => ∀ h', h'.Ns s₄.heap.objs.size (fun y => if y = ".0" then some (.ref it) else none) → Heap.SameBut s₄.heap.objs.size (s₄.heap.push { cls := .type "frame", data := .dict #[] }) h' →
          Q' (.ref h'.objs.size) { s₄ with
            gens := s₄.gens.push (.fresh (.compStart (.GeneratorExp elt [⟨tg, iter, [], 0⟩] scope gpos) 0 (.ref it) .none (genEnv scope (cloFrom X.env.cells scope.names []) s₄.heap.objs.size code bi X.env))),
            toks := s₄.toks + 1 + 1 + 1,
            heap := h'.push { cls := .type "generator", data := .fields #[.int s₄.gens.size 0, .str "<genexpr>" (s₄.toks + 1), .str (X.env.qual ++ "<genexpr>") (s₄.toks + 1 + 1)] } }) X.xe { s2 with heap := h3, toks := tk } := by
    intro code h3 tk ps' hx hsz hP3 hmore ht3
    obtain ⟨bm, ob, e1, e2, e3, e4, e5, e6, e7, e8⟩ := TB.bm
    have keep3 : ∀ b u, b ≠ P → s2.heap.get? b = some u → h3.get? b = some u := fun b u hb e => hx b u hb e
    refine wpAny_builtinsFor (m := X.mg) (by rw [I2.ok.glob]; exact ((I2.mod.glob.keeps I2.bk)).extBut hx TB.gP) e1 e2 (keep3 _ _ e4 (I2.bk _ _ e5)) e6 e7 e8 ?_
    obtain ⟨more, rfl⟩ := hmore
    generalize hs4 : ({ s2 with heap := h3, toks := tk } : Shared) = s4
    have h4 : s4.heap = h3 := by rw [← hs4]
    have g4 : s4.gens = s2.gens := by rw [← hs4]
    generalize hH3 : upd H2 P (.tbl (ps ++ more)) = H3
    have I3 : Inv X pins σ H3 s4 := by
      have := GxR.inv_tab (more := more) (h' := h3) (g' := s2.gens) (d' := s2.drawn) (t' := tk) I2 hP keep3 hP3 I2.bare
      rw [← hs4, ← hH3]
      exact this
    intro h' hn' hs'
    have hsz4 : h'.objs.size = s4.heap.objs.size + 1 := by rw [hs'.1, Heap.size_push]
    have keep' : ∀ b o, s4.heap.get? b = some o → h'.get? b = some o := fun b o e => hs'.extBut b o (Nat.ne_of_lt (Heap.lt_size e)) (Heap.get?_push_of_some _ e)
    generalize hgo : ({ cls := .type "generator", data := .fields #[.int s4.gens.size 0, .str "<genexpr>" (s4.toks + 1), .str (X.env.qual ++ "<genexpr>") (s4.toks + 1 + 1)] } : Obj) = go
    have fpP : ∀ b ∈ fp, b ≠ P := fun b hb z => by
      have := (f2 b hb).1
      rw [z, hP] at this
      cases this
    have f3 : ∀ b ∈ fp, FpOk X pins H3 b ∧ b < s4.heap.objs.size := fun b hb => by
      refine ⟨⟨?_, (f2 b hb).2⟩, ?_⟩
      · rw [← hH3, upd_ne (fpP b hb)]
        exact (f2 b hb).1
      · obtain ⟨o, e, _⟩ := T.obj _ _ st2 b hb
        rw [h4]
        exact Nat.lt_of_lt_of_le (Heap.lt_size e) hsz
    have keep5 : ∀ b o, s4.heap.get? b = some o → (h'.push go).get? b = some o := fun b o e => Heap.get?_push_of_some _ (keep' b o e)
    have hgaP : (h'.push go).get? h'.objs.size = some go := by
      rw [← hgo]
      exact Heap.get?_push_size _ rfl
    generalize hgens : s4.gens.push (.fresh (.compStart (.GeneratorExp elt [⟨tg, iter, [], 0⟩] scope gpos) 0 (.ref it) .none (genEnv scope (cloFrom X.env.cells scope.names []) s4.heap.objs.size code builtinsNs X.env))) = gens5
    have hb5 : AllBare gens5 := by rw [← hgens]; exact I3.bare.push rfl
    have ar : ArG X ((X.A.in1.in1).over (cL elt tg iter scope gpos it (gEnv X scope s4.heap.objs.size code)) []) := ⟨I.ok.hd hc, over_depth, over_units⟩
    have IG := gen_inv (A' := (X.A.in1.in1).over (cL elt tg iter scope gpos it (gEnv X scope s4.heap.objs.size code)) []) (code := code) I3 ok gs hN ar.hd (over_frames I.ok.frames) f3 (hn'.push go) keep5 hgaP (by omega) (by rw [← hgo]; intro v z; cases z) (gens' := gens5) (tk := s4.toks + 1 + 1 + 1) hb5
    have pg := hg _ s4 H3 s4.heap.objs.size code fp ar
    have pe := he _ s4 H3 s4.heap.objs.size code fp ar
    generalize hA' : (X.A.in1.in1).over (cL elt tg iter scope gpos it (gEnv X scope s4.heap.objs.size code)) [] = A' at *
    generalize hge : gEnv X scope s4.heap.objs.size code = genv at *
    have hco : genv.scope.isCoroutine = false := by rw [← hge]; exact gs.co
    generalize hga : h'.objs.size = ga at *
    have hfpga : ∀ b ∈ fp, ga ≠ b := fun b hb z => by
      have h9 := (f3 b hb).2
      rw [← z] at h9
      exact absurd (Nat.lt_trans (Nat.lt_of_lt_of_eq (Nat.lt_succ_self _) hsz4.symm) h9) (Nat.lt_irrefl _)
    obtain ⟨n, W, w0, turn⟩ := q H3 ⟨⟨_, by rw [← hH3]; exact upd_same, ht3⟩, fun b hb => by rw [← hH3]; exact upd_ne hb⟩
    generalize hvs : own.map (·.2) = vs at *
    have nfp : ∀ b ∈ fp, H3 b = none := fun b hb => (f3 b hb).1.1
    have st5 : tn 0 (h'.push go) := T.keep _ _ _ st2 fun b hb o e => keep5 b o (by rw [h4]; exact keep3 b o (fpP b hb) e)
    have gen5 : s4.gens.size < gens5.size := by rw [← hgens, Array.size_push]; exact Nat.lt_succ_self _
    have stat : ∀ {σ' : L2.St} {H' : Hp} {s' : Shared}, Inv (Gx X A' s4 H3 genv fp) [(ga, go)] σ' H' s' → (∀ b ∈ fp, H' b = none) → ∀ b ∈ fp, FpOk (Gx X A' s4 H3 genv fp) [(ga, go)] H' b := fun {σ' H' s'} I' hn b hb =>
      ⟨hn b hb, (I'.ok.exf b hb).1, I'.ok.exfs b hb, .inl hb, fun x c e => (I'.ok.exf b hb).2 x c e, fun p hp => by
        have hp : p = (ga, go) := by simpa using (show p ∈ ([] : List (Addr × Obj)) ++ [(ga, go)] from hp)
        subst hp
        exact hfpga b hb⟩
    let Jp : Nat → Shared → Prop := fun j s => ∃ H, Inv (Gx X A' s4 H3 genv fp) [(ga, go)] (wipe σ vs) H s ∧ tn j s.heap ∧ (∀ b ∈ fp, H b = none) ∧ s4.gens.size < s.gens.size ∧ W j H
    let Kp : Nat → Value → Shared → Prop := fun j v s => j < n ∧ ∃ H k, v = .bool k ∧ Inv (Gx X A' s4 H3 genv fp) [(ga, go)] (wipe σ vs) H s ∧ tn (j + 1) s.heap ∧ (∀ b ∈ fp, H b = none) ∧ s4.gens.size < s.gens.size ∧ if k = b then W (j + 1) H else Q (.bl (!b)) H
    let Op : OutR := fun v s s'' => v = .bool b ∧ (∀ x o, s.heap.get? x = some o → s''.heap.get? x = some o) ∧ s''.os = s.os ∧ AllBare s''.gens ∧ s.gens.size ≤ s''.gens.size
    let Lp : Shared → Prop := fun s => ∃ H, Inv (Gx X A' s4 H3 genv fp) [(ga, go)] (wipe σ vs) H s ∧ Q (.bl b) H
    have TG : TurnG X.prog X.w A' elt tg it genv n Jp Kp Lp := by
      refine ⟨fun i s5 hi ⟨H5, I5, st5, n5, g5, w5⟩ => ?_, fun s5 ⟨H5, I5, st5, n5, g5, w5⟩ => ?_⟩
      · rcases turn i H5 w5 with ⟨z, _⟩ | ⟨_, go5, step⟩
        · exact absurd hi (by omega)
        have ti := T.item (Gx X A' s4 H3 genv fp) rfl rfl rfl hc i [(ga, go)] s5 _ H5 NoE I5 (stat I5 n5) st5 go5
        refine wpAny_mono (wpAny_gens g5 ti) (fun r s6 ⟨g6, u, hr, h6⟩ => ?_) fun _ _ z => z.2
        refine ⟨u, hr, wpAny_mono (wpAny_gens g6 h6) (fun _ s7 ⟨g7, x, H7, I7, r7, y7, st7, n7⟩ => ?_) fun _ _ z => z.2⟩
        have I7' := I7.pinned (stat I7 n7) (T.obj _ _ st7)
        refine wpAny_mono (wpAny_gens g7 (pg.run _ s7 _ H7 x u _ I7' r7 (step x H7 y7))) (fun _ s8 ⟨g8, σ8, H8, I8, hw8, q8⟩ => ?_) fun _ _ z => z.2
        refine wpAny_mono (wpAny_gens g8 (pe.run _ s8 σ8 H8 _ I8 q8)) (fun v s9 ⟨g9, y, H9, I9, r9, k, e9, q9⟩ => ?_) fun _ _ z => z.2
        subst e9
        obtain rfl : v = Value.bool k := r9
        have pin' : ∀ b ∈ fp, ∀ o, s7.heap.get? b = some o → s9.heap.get? b = some o ∧ H9 b = none := fun b hb o e =>
          let z := I9.pin (b, o) (List.mem_append_right _ (List.mem_append_right _ (mem_pinsAt hb e)))
          ⟨z.1, z.2.1⟩
        have hl : (wipe σ vs).length = σ8.length := by rw [← hw8, wipe_length]
        refine ⟨hi, H9, k, rfl, (I9.unpinned (pins := [(ga, go)])).weak hl (fun j v e => ?_), T.keep _ _ _ st7 fun b hb o e => (pin' b hb o e).1, fun b hb => ?_, g9, q9⟩
        · rw [← hw8] at e
          exact (wipe_some e).1
        · obtain ⟨o, e, _⟩ := T.obj _ _ st7 b hb
          exact (pin' b hb o e).2
      · rcases turn n H5 w5 with ⟨_, stop, qq⟩ | ⟨z, _⟩
        rotate_left
        · exact absurd z (Nat.lt_irrefl _)
        have td := T.done (Gx X A' s4 H3 genv fp) rfl rfl rfl hc n [(ga, go)] s5 _ H5 NoE I5 (stat I5 n5) st5 stop
        exact wpAny_mono td (fun r s6 ⟨hr, I6⟩ => ⟨hr, H5, I6, qq⟩) fun _ _ z => z
    have res : ∀ i v s s'', i < n → Kp i v s → Op v s s'' → Jp (i + 1) s'' := fun i v s s'' hi ⟨_, H', k, e, I', t', n', g', w'⟩ ⟨e2, k2, os2, b2, g2⟩ => by
      rw [e] at e2
      cases e2
      rw [if_pos rfl] at w'
      exact ⟨H', inv_gens I' k2 os2 b2, T.keep _ _ _ t' fun b _ o e => k2 b o e, n', Nat.lt_of_lt_of_le g' g2, w'⟩
    have back : ∀ {σ' : L2.St} {H' : Hp} {s' : Shared}, Inv (Gx X A' s4 H3 genv fp) [(ga, go)] σ' H' s' → Inv X pins σ H' s' := fun I' => gen_back I3 (fun b hb => (f3 b hb).1) I'
    have WG : WalkG X.prog X.w X.A.in1 ga n b (GAt X.prog X.w X.A.in1 ga s4.gens.size n Kp Op Lp) (fun k s' => EP X pins σ Q (.bool k) s') := by
      refine walk_of (I.ok.hd hc) hroom (fun j v s hj ⟨_, H', k, e, I', t', n', g', w'⟩ => ?_) (fun v s z => absurd z.1 (Nat.lt_irrefl _)) fun s h' ⟨H', I', qq⟩ hk => ?_
      · have pin := I'.pin (ga, go) (List.mem_append_right _ List.mem_cons_self)
        refine ⟨k, e, g', I'.bare, ⟨go, _, _, pin.1, by rw [← hgo], by rw [← hgo], by rw [← hgo]⟩, I'.nolimit, fun gs' hb' => ⟨fun ek s'' ⟨o1, o2, o3, o4⟩ => ?_, fun ek => ?_⟩⟩
        · subst ek
          have sz : (s.setGen s4.gens.size gs').gens.size = s.gens.size := by simp [Shared.setGen]
          exact ⟨e, fun x o ex => by rw [← o1]; exact ex, by rw [← o2]; rfl, o3, by rw [← sz]; exact o4⟩
        · rw [if_neg ek] at w'
          exact ⟨.bl (!b), H', inv_gens (back I') (fun _ _ e => e) rfl (bare_set I'.bare hb' s rfl), rfl, w'⟩
      · exact ⟨.bl b, H', inv_gens (back I') hk rfl (bare_set I'.bare rfl s rfl), rfl, qq⟩
    have e5 : Q' (.ref ga) { s4 with gens := gens5, toks := s4.toks + 1 + 1 + 1, heap := h'.push go } := by
      refine fin ga _ n _ WG ⟨⟨go, _, _, hgaP, by rw [← hgo], by rw [← hgo], by rw [← hgo]⟩, IG.nolimit, hb5, .fresh (cS elt tg iter scope gpos it genv), ?_, fun s'' ⟨o1, o2, o3, o4⟩ => ?_⟩
      · show gens5[s4.gens.size]? = _
        rw [← hgens, ← hge]
        exact Array.getElem?_push_size ..
      · refine ⟨rfl, ?_⟩
        have hJ : Jp 0 s'' := by
          refine ⟨H3, inv_gens IG (fun b o e => by rw [← o1]; exact e) (by rw [← o2]) o3, by rw [← o1]; exact st5, nfp, Nat.lt_of_lt_of_le gen5 o4, w0⟩
        have TG' : TurnG X.prog X.w (X.A.in1.in1.over (cL elt tg iter scope gpos it genv) []) elt tg it genv n Jp Kp Lp := by
          rw [hA']
          exact TG
        exact seg_start (O := Op) hco TG' res s'' s'' hJ fun A2 Q2 E2 hq => T.self A2 0 s'' Q2 E2 (by rw [← o1]; exact st5) hq
    exact e5
  cases hf : codeAmong gpos ps.toList with
  | none =>
    refine wpAny_genexprCodeX hcode (cd.code hPs ht) (cd.tab hPs) hf fun c' h' tk hx hge hlt hco' _ htab' _ => ?_
    obtain ⟨o1, vs, f1, tf, fl, tg', inF, tx, tt, op, _, _, _, _, _, _, _, _, _, htr, _⟩ := hco'
    exact cont _ h' tk _ hx (Nat.le_trans hge (Nat.le_of_lt hlt)) htab'.2 ⟨_, rfl⟩ htr
  | some cv =>
    refine wpAny_genexprCode_hit hcode (cd.code hPs ht) hf ?_
    exact cont cv s2.heap s2.toks ps (Heap.ExtBut.refl _ _) (Nat.le_refl _) hPs ⟨#[], by simp⟩ ht
theorem pe_all {c P : Addr} {elt tg iter : Expr} {scope : Scope} {own : List (Str × Nat)} {p pos gpos : Pos} {wi : TI} {g : TG} {te : TE}
    (hga : Gl X "all") (hm : X.mg "all" = none) (hc : X.calm = true) (hroom : X.A.depth < recursionLimit) (hN : X.N.Nodup) (TB : GxR.TabB X.base X.mg c P) (hcode : X.env.code = .ref c) (ok : BlkOk X.N X.env.scope scope own) (gs : GScope scope) (hi : PI X tg iter wi)
    (hg : ∀ (A' : Around) (s : Shared) (H : Hp) (C : Addr) (code : Value) (fp : List Addr), ArG X A' → PG (Gx X A' s H (gEnv X scope C code) fp) tg g) (he : ∀ (A' : Around) (s : Shared) (H : Hp) (C : Addr) (code : Value) (fp : List Addr), ArG X A' → PE (Gx X A' s H (gEnv X scope C code) fp) elt te)
    (hs : ∀ v, genFold iter X.env v = pure v) :
    PE X (.Call (.Name "all" p) [.GeneratorExp elt [⟨tg, iter, [], 0⟩] scope gpos] [] pos) (tGx true P wi g te (own.map (·.2))) := by
  refine ⟨fun pins s σ H Q I h => ?_⟩
  have he2 : starEach [.GeneratorExp elt [⟨tg, iter, [], 0⟩] scope gpos] X.env = (false, eval (.GeneratorExp elt [⟨tg, iter, [], 0⟩] scope gpos) X.env) :: starEach [] X.env := by rfl
  have hb : bootBuiltins "all" = some (.builtin "all") := by decide +kernel
  refine wpAny_Call_Name_kw (ld_blt I hga hm hb ?_)
  refine PyProof.Rows.callWith_builtin1 ?_ he2 (by rfl)
  rw [he2]
  show wpAny _ _ (spliced ((false, eval (.GeneratorExp elt [⟨tg, iter, [], 0⟩] scope gpos) X.env) :: backTo pos (starEach [] X.env))) _ _ s
  refine Calls.spliced_cons (gx_make (b := true) hc hroom hN TB hcode ok gs hi hg he hs I h fun a s5 n St W h0 => ?_)
  refine Calls.spliced_nil ?_
  exact call_allG W h0 fun k s' hq => hq
theorem pe_any {c P : Addr} {elt tg iter : Expr} {scope : Scope} {own : List (Str × Nat)} {p pos gpos : Pos} {wi : TI} {g : TG} {te : TE}
    (hga : Gl X "any") (hm : X.mg "any" = none) (hc : X.calm = true) (hroom : X.A.depth < recursionLimit) (hN : X.N.Nodup) (TB : GxR.TabB X.base X.mg c P) (hcode : X.env.code = .ref c) (ok : BlkOk X.N X.env.scope scope own) (gs : GScope scope) (hi : PI X tg iter wi)
    (hg : ∀ (A' : Around) (s : Shared) (H : Hp) (C : Addr) (code : Value) (fp : List Addr), ArG X A' → PG (Gx X A' s H (gEnv X scope C code) fp) tg g) (he : ∀ (A' : Around) (s : Shared) (H : Hp) (C : Addr) (code : Value) (fp : List Addr), ArG X A' → PE (Gx X A' s H (gEnv X scope C code) fp) elt te)
    (hs : ∀ v, genFold iter X.env v = pure v) :
    PE X (.Call (.Name "any" p) [.GeneratorExp elt [⟨tg, iter, [], 0⟩] scope gpos] [] pos) (tGx false P wi g te (own.map (·.2))) := by
  refine ⟨fun pins s σ H Q I h => ?_⟩
  have he2 : starEach [.GeneratorExp elt [⟨tg, iter, [], 0⟩] scope gpos] X.env = (false, eval (.GeneratorExp elt [⟨tg, iter, [], 0⟩] scope gpos) X.env) :: starEach [] X.env := by rfl
  have hb : bootBuiltins "any" = some (.builtin "any") := by decide +kernel
  refine wpAny_Call_Name_kw (ld_blt I hga hm hb ?_)
  refine PyProof.Rows.callWith_builtin1 ?_ he2 (by rfl)
  rw [he2]
  show wpAny _ _ (spliced ((false, eval (.GeneratorExp elt [⟨tg, iter, [], 0⟩] scope gpos) X.env) :: backTo pos (starEach [] X.env))) _ _ s
  refine Calls.spliced_cons (gx_make (b := false) hc hroom hN TB hcode ok gs hi hg he hs I h fun a s5 n St W h0 => ?_)
  refine Calls.spliced_nil ?_
  exact call_anyG W h0 fun k s' hq => hq
end
end Hg

/-! Hg4: all and any by data. -/
namespace Hf
open PySem PySem.Spec PyProof.Rows L2
set_option autoImplicit false
theorem gr_tab {H H2 : Hp} {S : Sy} {P : Addr} (h : GxR.TabG H P) (t : GxR.Tabbed P H H2) : Gr H S H2 S := by
  refine ⟨fun a o e => ?_, fun _ z => z, fun a z => .inl z⟩
  by_cases c : a = P
  · subst c
    obtain ⟨ps, h1, h2⟩ := h
    obtain ⟨⟨ps', h3, h4⟩, _⟩ := t
    rw [h1] at e
    cases e
    exact ⟨ps', h3, fun _ => h4⟩
  · rw [t.2 a c, e]
    exact SaO.self o
theorem gen_of {G : Gm} {W : WD} {H0 : Hp} {b : Bool} {P : Addr} {t : Tg} {fi : En → Res (List D)} {fe : En → Res (Bool × D)} {vs : List Nat} (hP : G.tb P) (hsl : ∀ i ∈ t.sl, i ∈ vs) {σ : L2.St} {H : Hp} {Q : VK}
    (h : tD G W H0 (fun ρ => (fi ρ).bind fun ds => okB (genL b (fun d => noX ((bindT t d (wipeE ρ vs)).bind fun ρ' => blR (fe ρ'))) ds)) σ H Q) : Hg.tGx b P (tI G W H0 fi) (gOf G.K t) (tD G (fun _ _ _ => False) H0 fe) vs σ H Q := by
  obtain ⟨S, ρ, R, p⟩ := h
  refine ⟨S, ρ, R, mkI rdD p fun ds p J H1 S1 e1 wk => ?_⟩
  have R1 := R.gr e1
  have TG := R1.dom.2 P hP
  refine ⟨TG, fun H2 ht => ?_⟩
  have g2 : Gr H1 S1 H2 S1 := gr_tab TG ht
  generalize hf : (fun d => noX ((bindT t d (wipeE ρ vs)).bind fun ρ' => blR (fe ρ'))) = f at p
  have fd : ∀ d, f d = noX ((bindT t d (wipeE ρ vs)).bind fun ρ' => blR (fe ρ')) := fun d => by rw [← hf]
  have nox : ∀ ds c, genL b f ds ≠ .exc c := by
    intro ds c
    induction ds with
    | nil => intro z; cases z
    | cons d r ih =>
      intro z
      have z : ((f d).bind fun k => if k = b then genL b f r else .ok (!b)) = .exc c := z
      cases y : f d with
      | fail => rw [y] at z; cases z
      | exc c => rw [fd] at y; unfold noX at y; split at y <;> cases y
      | ok k =>
        rw [y] at z
        have z : (if k = b then genL b f r else .ok (!b)) = .exc c := z
        split at z
        · exact ih z
        · cases z
  cases hr : genL b f ds with
  | fail => rw [hr] at p; exact p.elim
  | exc c => exact absurd hr (nox ds c)
  | ok kf =>
    rw [hr] at p
    have fin : ∀ H' S', Gr H2 S1 H' S' → Q (.bl kf) H' := fun H' S' g => p (.bl kf) H' S' (e1.trans (g2.trans g)) (.bl kf)
    refine ⟨ds.length, fun i H' => i ≤ ds.length ∧ ∃ S', Gr H2 S1 H' S' ∧ genL b f (ds.drop i) = .ok kf, ⟨Nat.zero_le _, S1, Gr.refl _ _, hr⟩, fun i H' ⟨hle, S', g, hd⟩ => ?_⟩
    have gg := g2.trans g
    by_cases hi : i < ds.length
    · refine .inr ⟨hi, wk.go i H' S' gg.keep hi, fun x Hx y => ?_⟩
      have ed : ds.drop i = ds[i] :: ds.drop (i + 1) := List.drop_eq_getElem_cons hi
      have gt : ds[i]? = some ds[i] := List.getElem?_eq_getElem hi
      obtain ⟨rfl, rx⟩ := wk.yld i H' S' x Hx gg.keep y _ gt
      rw [ed] at hd
      generalize ds[i] = d at *
      have hd : ((f d).bind fun k => if k = b then genL b f (ds.drop (i + 1)) else .ok (!b)) = .ok kf := hd
      rw [fd] at hd
      cases zb : bindT t d (wipeE ρ vs) with
      | fail => rw [zb] at hd; cases hd
      | exc c => rw [zb] at hd; cases hd
      | ok ρ' =>
        rw [zb] at hd
        have hd : ((noX (blR (fe ρ'))).bind fun k => if k = b then genL b f (ds.drop (i + 1)) else .ok (!b)) = .ok kf := hd
        refine gOf_of zb rx ((R1.gr gg).wipe vs) fun σ2 R2 hw => ⟨?_, S', ρ', R2, ?_⟩
        · rw [hw vs hsl]
          exact wipe_wipe σ vs vs fun _ h => h
        · cases ze : fe ρ' with
          | fail => rw [ze] at hd; cases hd
          | exc c => rw [ze] at hd; cases hd
          | ok y =>
            obtain ⟨o, y⟩ := y
            rw [ze] at hd
            intro v H4 S4 e4 r4
            cases y with
            | bl k =>
              have hd : (if k = b then genL b f (ds.drop (i + 1)) else .ok (!b)) = .ok kf := hd
              have ev : v = .bl k := by
                cases o with
                | false => cases r4; rfl
                | true => obtain ⟨_, _, _, _, z, _⟩ := r4; cases z
              refine ⟨k, ev, ?_⟩
              by_cases c : k = b
              · rw [if_pos c] at hd ⊢
                exact ⟨hi, S4, g.trans e4, hd⟩
              · rw [if_neg c] at hd ⊢
                cases hd
                exact fin H4 S4 (g.trans e4)
            | _ => cases hd
    · have e : i = ds.length := by omega
      subst e
      rw [List.drop_length] at hd
      cases hd
      exact .inl ⟨rfl, wk.stop H' S' gg.keep, fin H' S' g⟩
end Hf

/-! Hg5: how many texts of a list or tuple are unlike: len(set(..)). -/
namespace Hg
open PySem PySem.Spec PyProof.Rows L2
set_option autoImplicit false
open Hf (newIn)
theorem newIn_le : ∀ (zs seen : List Str), newIn seen zs ≤ zs.length
  | [], _ => Nat.le_refl _
  | z :: r, seen => by
    have := newIn_le r (seen ++ [z])
    rw [newIn, List.length_cons]
    split <;> omega
section
variable {prog : Program} {w : World} {A : Around} {R : Result → Shared → Prop} {I : Addr} {fp wr : List Addr} {G : Array GenState → Array GenState → Prop} {n : Nat} {P : Nat → Value → Prop} {St : Nat → Shared → Prop}
theorem mem_any (l : List Str) (k : Str) : (l.any (· == k)) = decide (k ∈ l) := by
  rw [Bool.eq_iff_iff, List.any_eq_true, decide_eq_true_iff]
  exact ⟨fun ⟨x, h1, h2⟩ => (eq_of_beq h2) ▸ h1, fun h => ⟨k, h, beq_self_eq_true k⟩⟩
/-- the walk puts each text in -/
theorem texts_loop (W : WalksS prog w A.in1 I fp wr G n P St) (D : Addr) (nD : D ∉ fp) (xs : List Str) (hn : xs.length = n) (hz : n + 1 < scanBound) (val : ∀ i v, P i v → ∃ t, v = .str (xs.getD i Str.empty) t) (tot : Nat) :
    ∀ (d i m : Nat) (s : Shared), n - i = d → i ≤ n → m ≤ i → m + newIn (xs.take i) (xs.drop i) = tot → St i s → s.heap.SetOf (PySem.strKind prog w) D (fun k => decide (k ∈ xs.take i)) m →
      (∀ s', Moved (D :: wr) G s s' → s'.heap.SetOf (PySem.strKind prog w) D (fun k => decide (k ∈ xs)) tot → R (.ok (.ret .none)) s') →
      codeAny (model prog w) A (.builtin "set.update.loop" ⟨[.ref D, .ref I], []⟩) R s := by
  have nW : D ∉ wr := fun h => nD (W.sub _ h)
  have more : ∀ b ∈ wr, b ∈ D :: wr := fun b hb => List.mem_cons_of_mem _ hb
  have stay : ∀ {s s' : Shared} {f : Str → Bool} {m : Nat}, Moved wr G s s' → s.heap.SetOf (PySem.strKind prog w) D f m → s'.heap.SetOf (PySem.strKind prog w) D f m := fun hm ⟨o, es, ep, t, ho, r⟩ => ⟨o, es, ep, t, hm.heap D _ nW ho, r⟩
  intro d
  induction d with
  | zero =>
    intro i m s hd hi _ ht st hS hR
    have e : i = n := by omega
    subst e
    refine codeAny_builtin F.entry_set_update_loop ?_
    rw [Around.under_plainId F.plain_set_update_loop _]
    show wpAny _ A.in1 (pyNext (.ref I) >>= _) _ _ s
    refine wpAny_bind (W.done s _ _ st fun s' hm => wpAny_pure (hR s' (hm.mono more) ?_))
    rw [List.drop_eq_nil_of_le (by omega)] at ht
    have et : m = tot := ht
    subst et
    refine SetOf_congr (stay hm hS) (fun k => ?_) rfl
    rw [List.take_of_length_le (by omega)]
  | succ d ih =>
    intro i m s hd hi hmi ht st hS hR
    have lt : i < n := by omega
    refine codeAny_builtin F.entry_set_update_loop ?_
    rw [Around.under_plainId F.plain_set_update_loop _]
    show wpAny _ A.in1 (pyNext (.ref I) >>= _) _ _ s
    refine wpAny_bind (W.item i s _ _ lt st fun v s' hP st' hm => ?_)
    obtain ⟨t, rfl⟩ := val i v hP
    have gd : xs.getD i Str.empty = xs[i] := by rw [List.getD_eq_getElem?_getD, List.getElem?_eq_getElem (by omega)]; rfl
    have cut : xs.drop i = xs[i] :: xs.drop (i + 1) := List.drop_eq_getElem_cons (by omega)
    have cut2 : xs.take (i + 1) = xs.take i ++ [xs[i]] := by rw [List.take_add_one, List.getElem?_eq_getElem (by omega)]; rfl
    rw [gd]
    generalize xs[i] = z at *
    show wpAny _ A.in1 (holding [Value.str z t] (setAdd D (.str z t)) >>= _) _ _ s'
    refine wpAny_bind (wpAny_holding ?_)
    unfold setAdd
    refine wpAny_holding (wpAny_bind ((PySem.strKind prog w).pyHash (k := z) (strKind_is _ _ _ _) ?_))
    refine wpAny_setAddHashed_of (knd := PySem.strKind prog w) (s := { s' with toks := s'.toks + 1 }) (strKind_is _ _ _ _) rfl (show s'.heap.SetOf (PySem.strKind prog w) D _ m from stay hm hS) (by omega) fun h' sb new => ?_
    rw [cut] at ht
    have ht : m + ((if z ∈ xs.take i then 0 else 1) + newIn (xs.take i ++ [z]) (xs.drop (i + 1))) = tot := ht
    refine wpAny_pure ⟨plainId_quiet F.plain_set_update_loop _, ih (i + 1) (if decide (z ∈ xs.take i) = true then m else m + 1) _ (by omega) lt (by split <;> omega) ?_ (W.frame _ s' _ _ st' (Nat.le_succ _) fun b hb o e => ?_) ?_ fun s2 hm2 hS2 => ?_⟩
    · rw [cut2]
      by_cases c : z ∈ xs.take i
      · rw [if_pos (by simpa using c)]
        rw [if_pos c] at ht
        omega
      · rw [if_neg (by simpa using c)]
        rw [if_neg c] at ht
        omega
    · rw [sb.2 b (fun h : b = D => nD (h ▸ hb))]
      exact e
    · refine SetOf_congr new (fun k => ?_) rfl
      rw [cut2, Bool.eq_iff_iff]
      simp
    · refine hR s2 (Moved.trans W.gtrans ((hm.mono more).then_heap (Nat.le_succ _) fun b o hb e => ?_) hm2) hS2
      rw [sb.2 b (fun h : b = D => hb (h ▸ List.mem_cons_self))]
      exact e
end
/-! set(a), a of the type T, by its walk -/
section
variable {prog : Program} {w : World} {A : Around} {E : Value → Shared → Prop} {s : Shared}
set_option maxHeartbeats 3200000 in
theorem set_of_texts {T itc : String} {l : Addr} {items : Array Value} {xs : List Str} {Q : Value → Shared → Prop} {St : Addr → Nat → Shared → Prop}
    (s1 : isSubtype (.type T) (.type "set") = pure false) (s2 : isSubtype (.type T) (.type "frozenset") = pure false) (nd : (Value.type T == Value.type "dict") = false)
    (hl : ∃ o n, s.heap.get? l = some o ∧ o.cls = .type T ∧ o.data = .seq items n) (hi : StrsAre items.toList xs) (hz : xs.length + 1 < scanBound)
    (pit : ∀ (A' : Around) (s' : Shared) (Q : Value → Shared → Prop) (E : Value → Shared → Prop), (∃ o n, s'.heap.get? l = some o ∧ o.cls = .type T ∧ o.data = .seq items n) →
      Q (.ref s'.heap.objs.size) { s' with heap := s'.heap.push { cls := .type itc, data := .fields #[.ref l, .int 0 0] } } → wpAny (model prog w) A' (pyIter (.ref l)) Q E s')
    (wk : ∀ (A' : Around) (I : Addr), A'.handled = none → l ≠ I → WalksS prog w A' I [I, l] [I] (fun a b => b = a) items.size (fun i v => items[i]? = some v) (St I))
    (st0 : ∀ (I : Addr) (s' : Shared), (∃ o n, s'.heap.get? l = some o ∧ o.cls = .type T ∧ o.data = .seq items n) → s'.heap.get? I = some { cls := .type itc, data := .fields #[.ref l, .int 0 0] } → St I 0 s')
    (hh : A.handled = none)
    (h : ∀ (h' : Heap) (tk : Nat), h'.SetOf (PySem.strKind prog w) s.heap.objs.size (fun k => decide (k ∈ xs)) (newIn [] xs) →
      (∀ b o, b < s.heap.objs.size → s.heap.get? b = some o → h'.get? b = some o) → Q (.ref s.heap.objs.size) { s with heap := h', toks := tk }) :
    wpAny (model prog w) A (call (.type "set") [.ref l]) Q E s := by
  obtain ⟨c, tl, hmro⟩ := PySem.F.called_set.mro
  have m1 := PySem.F.called_set.made
  have m2 := PySem.F.called_set.sub
  have m3 := PySem.F.called_set.notType
  have m4 := PySem.F.called_set.canCreate
  have m5 := PySem.F.typeCall_set_1 (.ref l)
  refine wpAny_call (codeAny_of_tree ?_)
  show wpAny _ _ (callAny (.type "set") _) _ _ _
  refine wpAny_pure ⟨Code.quiet_builtin _ (by decide +kernel), codeAny_builtin PySem.F.entry_type_call ?_⟩
  rw [Around.under_plain (weight_type_call_type "set" [.ref l] []) rfl]
  repeat (any_goals (first | assumption | wp_step))
  refine codeAny_mono (code_set_new_1 (.ref l) (E := E) (Q₁ := fun obj t => ∃ led : Bool, obj = .ref s.heap.objs.size ∧ t = { s with heap := s.heap.push { cls := .type "set", dict := none, data := .set #[] 0 (.fresh 0 0 led) } }) fun led => ⟨led, rfl, rfl⟩) fun r t hr => ?_
  cases r with
  | error e => exact hr
  | ok fl =>
    cases fl with
    | next => exact hr.elim
    | brk => exact hr.elim
    | cont => exact hr.elim
    | ret obj =>
      obtain ⟨led, rfl, rfl⟩ := hr
      generalize hD : s.heap.objs.size = D at *
      generalize hso : ({ cls := .type "set", dict := none, data := .set #[] 0 (.fresh 0 0 led) } : Obj) = so
      generalize hh1 : s.heap.push so = h1
      have sz1 : h1.objs.size = D + 1 := by rw [← hh1, Heap.size_push, hD]
      have gD : h1.get? D = some so := by rw [← hh1, ← hD]; exact Heap.get?_push_size _ (by rw [← hso]; rfl)
      have kp1 : ∀ b o, s.heap.get? b = some o → h1.get? b = some o := fun b o e => by rw [← hh1]; exact Heap.get?_push_of_some _ e
      have hT : Shared.TypeIs { s with heap := h1 } (.ref D) "set" := ⟨so, gD, by rw [← hso]⟩
      have hli := PySem.F.called_set.init.lookup
      have hbi := PySem.F.called_set.init.bind (.ref D)
      repeat (any_goals (first | assumption | wp_step))
      refine codeAny_mono (codeAny_call_builtin (R := wants (fun r t => r = .none ∧ ∃ h' tk, t = { s with heap := h', toks := tk } ∧ h'.SetOf (PySem.strKind prog w) D (fun k => decide (k ∈ xs)) (newIn [] xs) ∧
          (∀ b o, b < D → s.heap.get? b = some o → h'.get? b = some o)) E) PySem.F.called_set.init.plain PySem.F.entry_set_init (check_set_init_1 hT ?_)) fun r2 t2 hr2 => ?_
      · obtain ⟨ol, nl, hol, hc, hd⟩ := hl
        obtain ⟨ocls, odict, odata, oslots⟩ := ol
        simp only at hc hd
        subst hc hd
        have hol1 := kp1 l _ hol
        have lD : l < D := by rw [← hD]; exact Heap.lt_size hol
        subst hso
        unfold Builtin.«set.__init__» noKeywords Builtin.Frozenset.updateFrom
        generalize hPI : pyIter = PI
        wp_walk
        subst hPI
        refine pit _ _ _ _ ⟨_, nl, hol1, rfl, rfl⟩ ?_
        refine wpAny_bind (wpAny_runValue ?_)
        have h3 : A.in1.in1.in1.handled = none := by simp [hh]
        have nI : l ≠ h1.objs.size := by rw [sz1]; exact Nat.ne_of_lt (Nat.lt_succ_of_lt lD)
        have nD : D ∉ [h1.objs.size, l] := by
          rw [sz1]
          intro z
          rcases List.mem_cons.mp z with z | z
          · exact absurd z (Nat.ne_of_lt (Nat.lt_succ_self _))
          · exact absurd (List.mem_singleton.mp z) (Nat.ne_of_gt lD)
        have hsz : xs.length = items.size := by rw [← StrsAre.len_eq hi, Array.length_toList]
        have hval : ∀ (i : Nat) (v : Value), items[i]? = some v → ∃ t, v = .str (xs.getD i Str.empty) t := fun i v hv => SS.strs_at hi i v (by rw [Array.getElem?_toList]; exact hv)
        have gI : (h1.push { cls := .type itc, data := .fields #[.ref l, .int 0 0] }).get? h1.objs.size = some { cls := .type itc, data := .fields #[.ref l, .int 0 0] } := Heap.get?_push_size _ rfl
        refine texts_loop (wk _ h1.objs.size h3 nI) D nD xs hsz (by omega) hval (newIn [] xs) (items.size - 0) 0 0 _ (by omega) (Nat.zero_le _) (Nat.le_refl _) (by rw [Nat.zero_add]; rfl)
          (st0 _ _ ⟨_, nl, Heap.get?_push_of_some _ hol1, rfl, rfl⟩ gI) ?_ fun s' hm hS' => ?_
        · exact SetOf_congr ((setObjOf_fresh (knd := PySem.strKind prog w) led).setOf (Heap.get?_push_of_some _ gD) (by unfold scanBound; omega)) (fun _ => by simp) rfl
        · obtain ⟨h', g', d', tk', os'⟩ := s'
          have eg : g' = s.gens := hm.gens
          have ed : d' = s.drawn := hm.drawn
          have eo : os' = s.os := hm.os
          subst eg ed eo
          show wpAny _ _ _ _ _ _
          refine wpAny_pure ?_
          show wpAny _ _ (ret Value.none) _ _ _
          refine wpAny_pure ⟨rfl, h', tk', rfl, hS', fun b o hb e => ?_⟩
          refine hm.heap b o (fun z => ?_) (Heap.get?_push_of_some _ (kp1 b o e))
          rcases List.mem_cons.mp z with z | z
          · exact absurd z (Nat.ne_of_lt hb)
          · rw [List.mem_singleton.mp z, sz1] at hb
            exact absurd hb (Nat.lt_asymm (Nat.lt_succ_self _))
      · cases r2 with
        | error e => exact hr2
        | ok fl2 =>
          cases fl2 with
          | ret r =>
            obtain ⟨rfl, h', tk, rfl, hS, hk⟩ := hr2
            repeat (any_goals (first | assumption | wp_step))
            exact h _ _ hS hk
          | _ => exact hr2.elim
end
section
variable {X : Cx}
/-- len(set(xs)), xs a list or tuple of texts -/
def tLenSetT (K : PySem.W.Frag) (ta : TE) : TE := fun σ H Q => ta σ H fun x H1 => ∃ l, ∃ xs : List Str, x = .ref l ∧ (SqL K H1 l (xs.map V.str) ∨ SqT K H1 l (xs.map V.str)) ∧ xs.length ≤ 1000 ∧ Q (.int (newIn [] xs : Nat)) H1
theorem pe_lenSetT {a : Expr} {ta : TE} {p p2 q pos : Pos} (hc : X.calm = true) (hg : Gl X "len") (hm : X.mg "len" = none) (hg2 : Gl X "set") (hm2 : X.mg "set" = none) (ha : PE X a ta)
    (na : starEach [a] X.env = (false, eval a X.env) :: starEach [] X.env := by rfl) : PE X (.Call (.Name "len" p) [.Call (.Name "set" p2) [a] [] q] [] pos) (tLenSetT X.K ta) := by
  refine ⟨fun pins s σ H Q I h => ?_⟩
  refine Call_ (ld_blt I hg hm boot_len ?_)
  refine callWith_builtin1 (args_cons ?_ rfl) rfl rfl
  refine Call_ (ld_blt I hg2 hm2 boot_set ?_)
  refine callWith_type1 (args_cons (thn (ha.run pins s σ H _ I h) fun v s1 ⟨x, H1, I1, r1, q1⟩ => args_nil ?_) na) na rfl
  obtain ⟨l, xs, rfl, hq, h1, q1⟩ := q1
  cases r1
  have hh := I1.ok.hd hc
  have fin : ∀ (h' : Heap) (tk : Nat), h'.SetOf (PySem.strKind X.prog X.w) s1.heap.objs.size (fun k => decide (k ∈ xs)) (newIn [] xs) → (∀ b o, b < s1.heap.objs.size → s1.heap.get? b = some o → h'.get? b = some o) →
      wpAny (model X.prog X.w) X.A (spliced (backTo pos (starEach [] X.env))) (fun vs s₂ => wpAny (model X.prog X.w) X.A (call (.builtin "len") (Value.ref s1.heap.objs.size :: vs)) (EP X pins σ Q) X.xe s₂) X.xe { s1 with heap := h', toks := tk } := fun h' tk hS hk => by
    refine args_nil ?_
    have hle := newIn_le xs []
    obtain ⟨o, es, ep, t, ho, hex, hd, _, _, _, hf, hn⟩ := hS
    have I2 : Inv X pins σ H1 { s1 with heap := h', toks := tk } := I1.kept fun b o e => hk b o (Heap.lt_size e) e
    exact call_len_set ho hex hd hf (by rw [hn]; omega) ⟨.int (newIn [] xs : Nat), H1, I2.tok _, ⟨_, by rw [hn]⟩, q1⟩
  have sb : xs.length + 1 < scanBound := by unfold scanBound; omega
  rcases hq with hq | hq
  · obtain ⟨its, r, pl, hz⟩ := I1.list hq
    refine set_of_texts (T := "list") (itc := "list_iterator") (items := its.toArray) (xs := xs) PySem.F.sub_list_set PySem.F.sub_list_frozenset (by decide) ?_ (by simpa using strsAre_of r) sb ?_ (fun A' I hA hne => (Walks.list hA I l hne its.toArray).toS) ?_ hh fin
    · obtain ⟨o, e, c, n, d⟩ := pl.isList
      exact ⟨o, n, e, c, d⟩
    · exact fun A' s' Q E ⟨o, n, e, c, d⟩ hq => wpAny_pyIter_list ⟨o, e, c, n, d⟩ hq
    · exact fun I s' ⟨o, n, e, c, d⟩ hI => ⟨⟨_, hI, rfl, rfl⟩, ⟨o, e, c, n, d⟩⟩
  · obtain ⟨its, r, pl, hz⟩ := I1.tuple hq
    refine set_of_texts (T := "tuple") (itc := "tuple_iterator") (items := its.toArray) (xs := xs) PySem.F.sub_tuple_set PySem.F.sub_tuple_frozenset (by decide) ?_ (by simpa using strsAre_of r) sb ?_ (fun A' I hA hne => (Walks.tuple hA I l hne its.toArray).toS) ?_ hh fin
    · obtain ⟨o, e, c, n, d⟩ := pl
      exact ⟨o, n, e, c, d⟩
    · exact fun A' s' Q E ⟨o, n, e, c, d⟩ hq => wpAny_pyIter_tuple ⟨o, e, c, n, d⟩ hq
    · exact fun I s' ⟨o, n, e, c, d⟩ hI => ⟨⟨_, hI, rfl, rfl⟩, ⟨o, e, c, n, d⟩⟩
end
end Hg

/-! Hg7: more rules by data: methods, len(set(..)), dict comprehensions. -/
namespace Hf
open PySem PySem.Spec PyProof.Rows L2
set_option autoImplicit false
theorem strs_pair {G : Gm} {H : Hp} {S : Sy} : ∀ {ds : List D} {xs : List V} {zs : List Str}, Paired (Rep G H S) ds xs → strsOf ds = some zs → xs = zs.map V.str
  | [], _, zs, .nil, e => by cases e; rfl
  | d :: ds, _, zs, .cons r t, e => by
    cases d with
    | str z =>
      have e' : (strsOf ds).map (z :: ·) = some zs := e
      obtain ⟨ys, e1, rfl⟩ := Option.map_eq_some_iff.mp e'
      cases r
      rw [strs_pair t e1] <;> rfl
    | _ => cases e
theorem bls_pair {G : Gm} {H : Hp} {S : Sy} : ∀ {ds : List D} {xs : List V} {zs : List Bool}, Paired (Rep G H S) ds xs → blsOf ds = some zs → xs = zs.map V.bl
  | [], _, zs, .nil, e => by cases e; rfl
  | d :: ds, _, zs, .cons r t, e => by
    cases d with
    | bl z =>
      have e' : (blsOf ds).map (z :: ·) = some zs := e
      obtain ⟨ys, e1, rfl⟩ := Option.map_eq_some_iff.mp e'
      cases r
      rw [bls_pair t e1] <;> rfl
    | _ => cases e
section
variable {G : Gm} {W : WD} {H0 : Hp} {X : Cx} {a b : Expr} {fa fb : En → Res D} {pos : Pos}
/-- not super().m -/
def noSup : Expr → Bool
  | .Call .. => false
  | _ => true
theorem noSup_base {o : Expr} (h : noSup o = true) (m : Str) (env : Env) : attributeBase o m env (eval o env) = eval o env := by
  cases o <;> first | rfl | cases h
theorem pe_m1c {apos : Pos} (hK : X.K = G.K) (hb0 : noSup a = true) (hline : (apos.endLine == pos.line) = true) (hs : starEach [b] X.env = [(false, eval b X.env)]) (ha : PE X a (tB G W H0 fa)) (hb : PE X b (tB G W H0 fb)) :
    PE X (.Call (.Attribute a "count" apos) [b] [] pos) (tD G W H0 fun ρ => (fa ρ).bind fun x => if m1T .count x = true then (fb ρ).bind fun y => m1D .count x y else .fail) := by
  have few : ((backTo pos (starEach [b] X.env)).all (fun x => !x.1) && (backToKw pos (keywordEach [] X.env)).all (fun x => x.1.isSome) && decide ([b].length + ([] : List Keyword).length + (if ([] : List Keyword).isEmpty then 0 else 1) < 30)) = true := by
    rw [hs]
    rfl
  refine (pe_bm PySem.F.plainAttrs_list PySem.F.slot_list_count PySem.F.type_list_count Hg.mt_lcountB ha (pa_cons hb pa_nil hs) (noSup_base hb0 _ _) few hline hs rfl).im fun σ H Q ⟨S, ρ, R, p⟩ => ?_
  refine ⟨S, ρ, R, mkB rdD p fun d p v H1 S1 e1 l1 => ?_⟩
  have p := p.gr e1
  cases d with
  | lst ds =>
    have l1' := l1
    obtain ⟨q, xs, rfl, hq, hp⟩ := l1.lst hK
    refine ⟨.inl ⟨rfl, xs, hq⟩, S1, ρ, R.gr e1, mkB rdD p fun d2 p u H2 S2 e2 l2 => ?_⟩
    have p := p.gr e2
    cases d2 with
    | bl k =>
      obtain ⟨q', xs', e', hq', hp'⟩ := (l1'.ex e2).lst hK
      have p : Post G (fun c => W c σ) H2 S2 (match blsOf ds with | some bs => okF (.int (bs.count k : Nat)) | none => .fail) Q := p
      cases z : blsOf ds with
      | none => rw [z] at p; exact p.elim
      | some bs =>
        rw [z] at p
        cases e'
        rw [bls_pair hp' z] at hq'
        exact ⟨_, bs, k, rfl, by rw [l2.bl] <;> rfl, hq', p.f (.int _)⟩
    | _ => exact p.elim
  | _ => exact False.elim p
/-- len(set(..)) -/
theorem pe_lset {p p2 q : Pos} (hK : X.K = G.K) (hc : X.calm = true) (hg : Gl X "len") (hm : X.mg "len" = none) (hg2 : Gl X "set") (hm2 : X.mg "set" = none) (ha : PE X a (tB G W H0 fa)) (na : starEach [a] X.env = (false, eval a X.env) :: starEach [] X.env) :
    PE X (.Call (.Name "len" p) [.Call (.Name "set" p2) [a] [] q] [] pos) (tD G W H0 fun ρ => (fa ρ).bind lensetD) :=
  (Hg.pe_lenSetT hc hg hm hg2 hm2 ha na).im fun σ H Q ⟨S, ρ, R, p⟩ => by
    refine ⟨S, ρ, R, mkB rdD p fun d p v H1 S1 e1 l1 => ?_⟩
    have p := p.gr e1
    have fin : ∀ ds, itemsD d = .ok ds → (∃ l xs, v = .ref l ∧ (SqL X.K H1 l xs ∨ SqT X.K H1 l xs) ∧ Paired (Rep G H1 S1) ds xs) → ∃ l, ∃ xs : List Str, v = .ref l ∧ (SqL X.K H1 l (xs.map V.str) ∨ SqT X.K H1 l (xs.map V.str)) ∧ xs.length ≤ 1000 ∧ Q (.int (newIn [] xs : Nat)) H1 := fun ds hd ⟨l, xs, e, hq, hp⟩ => by
      have p : Post G (fun c => W c σ) H1 S1 ((itemsD d).bind fun ds => match strsOf ds with | some zs => if zs.length ≤ 1000 then okF (.int (newIn [] zs : Nat)) else .fail | none => .fail) Q := p
      rw [hd] at p
      have p : Post G (fun c => W c σ) H1 S1 (match strsOf ds with | some zs => if zs.length ≤ 1000 then okF (.int (newIn [] zs : Nat)) else .fail | none => .fail) Q := p
      cases z : strsOf ds with
      | none => rw [z] at p; exact p.elim
      | some zs =>
        rw [z] at p
        obtain ⟨c, p⟩ := Post.ite p
        rw [strs_pair hp z] at hq
        exact ⟨l, zs, e, hq, c, p.f (.int _)⟩
    cases d with
    | lst ds =>
      obtain ⟨l, xs, e, hq, hp⟩ := l1.lst hK
      exact fin ds rfl ⟨l, xs, e, .inl hq, hp⟩
    | tup ds =>
      obtain ⟨l, xs, e, hq, hp⟩ := l1.tup
      exact fin ds rfl ⟨l, xs, e, .inr (by rw [hK]; exact hq.sq), hp⟩
    | _ => exact False.elim p
end
/-! ### dict comprehensions -/
section
variable {G : Gm} {W : WD} {H0 : Hp} {X : Cx}
theorem compL_nox {f : D → Res (Option D)} {ds : List D} {c : Str} (hf : ∀ d c, f d ≠ .exc c) : compL f ds ≠ .exc c := by
  induction ds with
  | nil => intro z; cases z
  | cons d r ih =>
    intro z
    have z : ((f d).bind fun o => (compL f r).bind fun r => .ok (match o with | some y => y :: r | none => r)) = .exc c := z
    cases y : f d with
    | fail => rw [y] at z; cases z
    | exc c => exact hf _ _ y
    | ok o =>
      rw [y] at z
      have z : ((compL f r).bind fun r => .ok (match o with | some y => y :: r | none => r)) = .exc c := z
      cases y2 : compL f r with
      | fail => rw [y2] at z; cases z
      | exc c2 => rw [y2] at z; cases z; exact ih y2
      | ok r => rw [y2] at z; cases z
theorem noX_nox {α : Type} {r : Res α} {c : Str} : noX r ≠ .exc c := fun z => by cases r <;> cases z
theorem kvD_app : ∀ (ks : List Str) (vs : List V) (k : Str) (v : V), ks.length = vs.length → kvD (ks ++ [k]) (vs ++ [v]) = kvD ks vs ++ [(.inr k, v)]
  | ks, vs, k, v, h => by
    unfold kvD
    rw [List.zip_append h, List.map_append]
    rfl
theorem kvD_val : ∀ (ks : List Str) (vs : List V) (k : Str), k ∉ ks → valV (kvD ks vs) (.inr k) = none
  | [], vs, k, _ => by cases vs <;> rfl
  | k0 :: ks, [], k, _ => rfl
  | k0 :: ks, v :: vs, k, h => by
    have ih := kvD_val ks vs k fun z => h (List.mem_cons_of_mem _ z)
    have ne : ¬ k0 = k := fun z => h (z ▸ List.mem_cons_self)
    unfold valV at ih ⊢
    show ((((Sum.inr k0 : Key), v) :: kvD ks vs).find? _).map _ = none
    rw [List.find?_cons]
    simp only [Sum.inr.injEq, ne, decide_false]
    exact ih
theorem dc_of {t : Tg} {fi : En → Res (List D)} {fc : En → Res Bool} {fk fe : En → Res (Bool × D)} {vs : List Nat} (hsl : ∀ i ∈ t.sl, i ∈ vs) {σ : L2.St} {H : Hp} {Q : VK}
    (h : tD G W H0 (fun ρ => (fi ρ).bind fun ds => if ds.length ≤ sizeLine then (compL (fun d => noX ((bindT t d (wipeE ρ vs)).bind fun ρ' => (fc ρ').bind fun b => if b = true then (fk ρ').bind fun x => (fe ρ').bind fun y => .ok (some (.tup [x.2, y.2])) else .ok none)) ds).bind fun ys => dctOf ys else .fail) σ H Q) :
    tDc (tI G W H0 fi) (gOf G.K t) (tT G (fun _ _ _ => False) H0 fc) (tD G (fun _ _ _ => False) H0 fk) (tD G (fun _ _ _ => False) H0 fe) vs σ H Q := by
  obtain ⟨S, ρ, R, p⟩ := h
  refine ⟨S, ρ, R, mkI rdD p fun ds p J H1 S1 e1 wk D0 hD => ?_⟩
  obtain ⟨hsz, p⟩ := Post.ite p
  generalize hf : (fun d => noX ((bindT t d (wipeE ρ vs)).bind fun ρ' => (fc ρ').bind fun b => if b = true then (fk ρ').bind fun x => (fe ρ').bind fun y => Res.ok (some (D.tup [x.2, y.2])) else .ok none)) = f at p
  have fd : ∀ d, f d = noX ((bindT t d (wipeE ρ vs)).bind fun ρ' => (fc ρ').bind fun b => if b = true then (fk ρ').bind fun x => (fe ρ').bind fun y => Res.ok (some (D.tup [x.2, y.2])) else .ok none) := fun d => by rw [← hf]
  have nS1 : ¬ S1 D0 := (R.gr e1).dom.no hD
  have H0D : H D0 = none := e1.same.free hD
  cases hr : compL f ds with
  | fail => rw [hr] at p; exact p.elim
  | exc c => exact absurd hr (compL_nox fun d c => by rw [fd]; exact noX_nox)
  | ok ys =>
    rw [hr] at p
    have p : Post G (fun c => W c σ) H S (match pairsOf ys with | some (zs, ds) => if zs.Nodup then okF (.dct zs ds) else .fail | none => .fail) Q := p
    cases hp : pairsOf ys with
    | none => rw [hp] at p; exact p.elim
    | some x =>
      obtain ⟨zs, es⟩ := x
      rw [hp] at p
      obtain ⟨nd, p⟩ := Post.ite p
      refine ⟨fun i m Hc => m = ds.length - i ∧ i ≤ ds.length ∧ ∃ Sc ks ks' es1 es' us r, Gr H1 S1 Hc Sc ∧ ¬ Sc D0 ∧ Hc D0 = some (.dK (kvD ks us)) ∧ ks.length = us.length ∧ us.length ≤ i ∧ Paired (Rep G Hc Sc) es1 us ∧ compL f (ds.drop i) = .ok r ∧ pairsOf r = some (ks', es') ∧ zs = ks ++ ks' ∧ es = es1 ++ es',
        ⟨_, rfl, Nat.zero_le _, S1, [], zs, [], es, [], ys, Gr.laid hD, nS1, upd_same, rfl, Nat.le_refl _, .nil, hr, hp, rfl, rfl⟩, fun i m Hc => ?_⟩
      rintro ⟨rfl, hle, Sc, ks, ks', es1, es', us, r, g, nS, hacc, hlen, hul, pr, hrest, hpr, ez, ee⟩
      have gg := e1.trans g
      by_cases hi : i < ds.length
      · have ed : ds.drop i = ds[i] :: ds.drop (i + 1) := List.drop_eq_getElem_cons hi
        have gt : ds[i]? = some ds[i] := List.getElem?_eq_getElem hi
        refine .inr ⟨wk.go i Hc Sc g.keep hi, fun Hc' => i + 1 ≤ ds.length ∧ ∃ Sc ks ks' es1 es' us r, Gr H1 S1 Hc' Sc ∧ ¬ Sc D0 ∧ Hc' D0 = some (.dK (kvD ks us)) ∧ ks.length = us.length ∧ us.length ≤ i + 1 ∧ Paired (Rep G Hc' Sc) es1 us ∧ compL f (ds.drop (i + 1)) = .ok r ∧ pairsOf r = some (ks', es') ∧ zs = ks ++ ks' ∧ es = es1 ++ es',
          fun Hc' hn => ⟨ds.length - (i + 1), by omega, rfl, hn⟩, fun x Hx y => ?_⟩
        obtain ⟨rfl, rx⟩ := wk.yld i Hc Sc x Hx g.keep y _ gt
        rw [ed] at hrest
        generalize ds[i] = d at *
        have hrest : ((f d).bind fun o => (compL f (ds.drop (i + 1))).bind fun r => .ok (match o with | some y => y :: r | none => r)) = .ok r := hrest
        rw [fd] at hrest
        cases zb : bindT t d (wipeE ρ vs) with
        | fail => rw [zb] at hrest; cases hrest
        | exc c => rw [zb] at hrest; cases hrest
        | ok ρ' =>
          rw [zb] at hrest
          refine gOf_of zb rx ((R.gr gg).wipe vs) fun σ2 R2 hw => ⟨?_, Sc, ρ', R2, ?_⟩
          · rw [hw vs hsl]
            exact wipe_wipe σ vs vs fun _ h => h
          · cases zc : fc ρ' with
            | fail => rw [show ((Res.ok ρ').bind fun ρ' => (fc ρ').bind fun b => if b = true then (fk ρ').bind fun x => (fe ρ').bind fun y => Res.ok (some (D.tup [x.2, y.2])) else .ok none) = ((fc ρ').bind fun b => if b = true then (fk ρ').bind fun x => (fe ρ').bind fun y => Res.ok (some (D.tup [x.2, y.2])) else .ok none) from rfl, zc] at hrest; cases hrest
            | exc c => rw [show ((Res.ok ρ').bind fun ρ' => (fc ρ').bind fun b => if b = true then (fk ρ').bind fun x => (fe ρ').bind fun y => Res.ok (some (D.tup [x.2, y.2])) else .ok none) = ((fc ρ').bind fun b => if b = true then (fk ρ').bind fun x => (fe ρ').bind fun y => Res.ok (some (D.tup [x.2, y.2])) else .ok none) from rfl, zc] at hrest; cases hrest
            | ok k =>
              rw [show ((Res.ok ρ').bind fun ρ' => (fc ρ').bind fun b => if b = true then (fk ρ').bind fun x => (fe ρ').bind fun y => Res.ok (some (D.tup [x.2, y.2])) else .ok none) = ((fc ρ').bind fun b => if b = true then (fk ρ').bind fun x => (fe ρ').bind fun y => Res.ok (some (D.tup [x.2, y.2])) else .ok none) from rfl, zc] at hrest
              intro H3 S3 e3
              have nS3 : ¬ S3 D0 := fun z => (e3.new D0 z).elim nS fun q => by rw [hacc] at q; cases q.1
              cases k with
              | false =>
                refine ⟨hi, S3, ks, ks', es1, es', us, r, g.trans e3, nS3, e3.same _ _ hacc, hlen, by omega, e3.reps pr, ?_, hpr, ez, ee⟩
                have hrest : ((compL f (ds.drop (i + 1))).bind fun r => Res.ok r) = .ok r := hrest
                cases zr : compL f (ds.drop (i + 1)) with
                | fail => rw [zr] at hrest; cases hrest
                | exc c => rw [zr] at hrest; cases hrest
                | ok r2 => rw [zr] at hrest; cases hrest; rfl
              | true =>
                refine ⟨S3, ρ', R2.gr e3, ?_⟩
                cases zk : fk ρ' with
                | fail => rw [show ((Res.ok true).bind fun b => if b = true then (fk ρ').bind fun x => (fe ρ').bind fun y => Res.ok (some (D.tup [x.2, y.2])) else .ok none) = ((fk ρ').bind fun x => (fe ρ').bind fun y => Res.ok (some (D.tup [x.2, y.2]))) from rfl, zk] at hrest; cases hrest
                | exc c => rw [show ((Res.ok true).bind fun b => if b = true then (fk ρ').bind fun x => (fe ρ').bind fun y => Res.ok (some (D.tup [x.2, y.2])) else .ok none) = ((fk ρ').bind fun x => (fe ρ').bind fun y => Res.ok (some (D.tup [x.2, y.2]))) from rfl, zk] at hrest; cases hrest
                | ok kx =>
                  rw [show ((Res.ok true).bind fun b => if b = true then (fk ρ').bind fun x => (fe ρ').bind fun y => Res.ok (some (D.tup [x.2, y.2])) else .ok none) = ((fk ρ').bind fun x => (fe ρ').bind fun y => Res.ok (some (D.tup [x.2, y.2]))) from rfl, zk] at hrest
                  obtain ⟨ob, kd⟩ := kx
                  cases ze : fe ρ' with
                  | fail => rw [show ((Res.ok (ob, kd)).bind fun x => (fe ρ').bind fun y => Res.ok (some (D.tup [x.2, y.2]))) = ((fe ρ').bind fun y => Res.ok (some (D.tup [kd, y.2]))) from rfl, ze] at hrest; cases hrest
                  | exc c => rw [show ((Res.ok (ob, kd)).bind fun x => (fe ρ').bind fun y => Res.ok (some (D.tup [x.2, y.2]))) = ((fe ρ').bind fun y => Res.ok (some (D.tup [kd, y.2]))) from rfl, ze] at hrest; cases hrest
                  | ok ex =>
                    rw [show ((Res.ok (ob, kd)).bind fun x => (fe ρ').bind fun y => Res.ok (some (D.tup [x.2, y.2]))) = ((fe ρ').bind fun y => Res.ok (some (D.tup [kd, y.2]))) from rfl, ze] at hrest
                    have hrest : ((compL f (ds.drop (i + 1))).bind fun r => Res.ok (D.tup [kd, ex.2] :: r)) = .ok r := hrest
                    cases zr : compL f (ds.drop (i + 1)) with
                    | fail => rw [zr] at hrest; cases hrest
                    | exc c => rw [zr] at hrest; cases hrest
                    | ok r2 =>
                      rw [zr] at hrest
                      cases hrest
                      cases kd with
                      | str kz =>
                        have hpr : (pairsOf r2).map (fun p => (kz :: p.1, ex.2 :: p.2)) = some (ks', es') := hpr
                        obtain ⟨⟨k2, e2⟩, hp2, e9⟩ := Option.map_eq_some_iff.mp hpr
                        cases e9
                        intro kv H4 S4 e4 r4
                        have ekv : kv = .str kz := by
                          cases ob with
                          | false => cases r4; rfl
                          | true => obtain ⟨_, _, _, _, z, _⟩ := r4; cases z
                        subst ekv
                        refine ⟨S4, ρ', (R2.gr e3).gr e4, ?_⟩
                        rw [ze]
                        intro v H5 S5' e5 r5
                        obtain ⟨S5, e5, k5, r5⟩ := r5.fz e5
                        have e345 := (e3.trans e4).trans e5
                        have hD5 : H5 D0 = some (.dK (kvD ks us)) := e345.same _ _ hacc
                        have nS5 : ¬ S5 D0 := fun z => (e345.new D0 z).elim nS fun q => by rw [hacc] at q; cases q.1
                        have kp : ∀ o, Keep H5 S5 (upd H5 D0 o) S5 := fun o => Keep.updN nS5
                        have new : kz ∉ ks := fun z => by
                          rw [ez] at nd
                          exact (List.nodup_append.mp nd).2.2 kz z kz List.mem_cons_self rfl
                        have eput : putK (kvD ks us) (.inr kz) v = kvD (ks ++ [kz]) (us ++ [v]) := by
                          rw [kvD_app ks us kz v hlen]
                          exact putK_new v (kvD_val ks us kz new)
                        refine ⟨kvD ks us, .inr kz, rfl, hD5, ?_, hi, S5, ks ++ [kz], k2, es1 ++ [ex.2], e2, us ++ [v], r2, ⟨fun b o hb => ?_, (g.trans e345).sub, fun b hb => ?_⟩, nS5, by rw [eput]; exact upd_same, by rw [List.length_append, List.length_append, hlen]; rfl, by rw [List.length_append, List.length_singleton]; omega, ?_, rfl, hp2, ?_, ?_⟩
                        · unfold kvD
                          rw [List.length_map, List.length_zip]
                          omega
                        · have nb : b ≠ D0 := fun z => by rw [z, hD] at hb; cases hb
                          rw [upd_ne nb]
                          exact (g.trans e345).same _ _ hb
                        · have nb : b ≠ D0 := fun z => nS5 (z ▸ hb)
                          rw [upd_ne nb]
                          exact (g.trans e345).new b hb
                        · exact (Rep.keepL (kp _) _ _ (e345.reps pr)).app (.cons (r5.keep (kp _)) .nil)
                        · rw [ez, List.append_assoc]; rfl
                        · rw [ee, List.append_assoc]; rfl
                      | _ => cases hpr
      · have e : i = ds.length := by omega
        subst e
        rw [List.drop_length] at hrest
        cases hrest
        cases hpr
        rw [List.append_nil] at ez ee
        subst ez ee
        refine .inl ⟨wk.stop Hc Sc g.keep, ?_⟩
        have k : Keep Hc Sc Hc (fun b => Sc b ∨ b = D0) := fun b sb => ⟨.inl sb, fun o q => q ▸ SaO.self o⟩
        refine p (.ref D0) Hc (fun b => Sc b ∨ b = D0) ⟨gg.same, fun b sb => .inl (gg.sub b sb), fun b q => ?_⟩ (.dct (.inl ⟨.inr rfl, .inl hacc⟩) (Rep.keepL k _ _ pr))
        rcases q with q | rfl
        · exact gg.new b q
        · exact .inr ⟨H0D, _, hacc⟩
end
end Hf

/-! Hf6: the text's expressions as the small language's; they give what it says. -/
namespace Hf
open PySem PySem.Spec PyProof.Rows L2
set_option autoImplicit false

/-- what the module offers beside its defs: constants, classes of errors -/
structure Mo where
  gl : Str → Option D
  gs : List Str
  es : List Str
  ki : Str → Str → Option Bool
  sub : Str → Str → Option Bool
  hs : List Str
structure Cc where
  N : List Str
  sc : Scope
  top : Bool
  fs : List (Str × Nat)
  mo : Mo
  /-- run where an exception is handled -/
  hot : Bool
  /-- in a generator's frame: the defs one call less deep -/
  low : Bool
  /-- a generator may be made -/
  gen : Bool
def okNm (x : Str) : Bool := !(decide (x = ("__debug__" : Str)) || decide (x = ("__classdict__" : Str)) || decide (x = ("__name__" : Str)))
def idxN (N : List Str) (x : Str) : Option Nat := match N.findIdx? fun y => decide (y = x) with
  | some i => if N[i]? = some x then some i else none
  | none => none
theorem idxN_ok {N : List Str} {x : Str} {i : Nat} (h : idxN N x = some i) : N[i]? = some x := by
  unfold idxN at h
  split at h
  · split at h
    · cases h; assumption
    · cases h
  · cases h
/-- the kind of a name -/
def kindC (c : Cc) (x : Str) : Option NameKind := c.sc.names.lookup x
def slotOf (c : Cc) (x : Str) : Option Nat := match okNm x with
  | true => (match kindC c x with
    | some .local => idxN c.N x
    | some .cell => idxN c.N x
    | some .free => idxN c.N x
    | _ => none)
  | false => none
def isGl (c : Cc) (x : Str) : Bool := okNm x && decide (kindC c x = some .globalImplicit)
/-- a slot that may be stored -/
def stOf (c : Cc) (x : Str) : Option Nat := match kindC c x with
  | some .local => idxN c.N x
  | some .cell => (match c.top with
    | true => idxN c.N x
    | false => none)
  | _ => none
def biOf (x : Str) : Option Bi :=
  if x = ("len" : Str) then some .len else if x = ("tuple" : Str) then some .tuple else if x = ("list" : Str) then some .list else if x = ("sum" : Str) then some .sum
  else if x = ("abs" : Str) then some .abs else if x = ("int" : Str) then some .int else none
def mOf (x : Str) : Option M1 := if x = ("count" : Str) then some .count else none
def tyOf (x : Str) : Option Ty :=
  if x = ("int" : Str) then some .int else if x = ("bool" : Str) then some .bool else if x = ("str" : Str) then some .str else if x = ("tuple" : Str) then some .tuple
  else if x = ("list" : Str) then some .list else none
def bnames : List Str := ["len", "tuple", "list", "sum", "abs", "int", "bool", "str", "isinstance", "range", "all", "any", "set"]
def isStar : Expr → Bool
  | .Starred _ _ => true
  | _ => false
def cEs (f : Expr → Option Ex) : List Expr → Option Exs
  | [] => some .nil
  | e :: es => match isStar e, f e, cEs f es with
    | false, some p, some ps => some (.cons p ps)
    | _, _, _ => none
/-- names of classes -/
def cCls (c : Cc) : List Expr → Option (List Str)
  | [] => some []
  | .Name y _ :: r => (match isGl c y, cCls c r with
    | true, some zs => some (y :: zs)
    | _, _ => none)
  | _ => none
def cKeys : List (Option Expr) → Option (List Str)
  | [] => some []
  | some (.Constant (.str z) _ _) :: r => (cKeys r).map (z :: ·)
  | _ => none
/-- .. with starred ones -/
def cEsT (f : Expr → Option Ex) : List Expr → Option Exs
  | [] => some .nil
  | .Starred a _ :: es => (match f a, cEsT f es with
    | some p, some ps => some (.star p ps)
    | _, _ => none)
  | e :: es => match isStar e, f e, cEsT f es with
    | false, some p, some ps => some (.cons p ps)
    | _, _, _ => none
def cBo (and : Bool) (f : Expr → Option Ex) : List Expr → Option Ex
  | [] => none
  | [e] => f e
  | e :: es => match f e, cBo and f es with
    | some p, some q => some (if and = true then .and p q else .or p q)
    | _, _ => none
def cBoT (and : Bool) (f : Expr → Option Te) : List Expr → Option Te
  | [] => none
  | [e] => f e
  | e :: es => match f e, cBoT and f es with
    | some p, some q => some (if and = true then .and p q else .or p q)
    | _, _ => none
def cNames (c : Cc) : List Expr → Option (List Nat)
  | [] => some []
  | .Name x _ :: es => match stOf c x, cNames c es with
    | some i, some is => some (i :: is)
    | _, _ => none
  | _ => none
def cTg (c : Cc) : Expr → Option Tg
  | .Name x _ => (stOf c x).map .one
  | .Tuple es _ _ => (match c.hot with
    | false => (cNames c es).map .tup
    | true => none)
  | _ => none
def isSlice : Expr → Bool
  | .Slice .. => true
  | _ => false
def isSet : Expr → Bool
  | .Set .. => true
  | _ => false
/-- no special arm of a test -/
def plainT : Expr → Bool
  | .BoolOp .. => false
  | .UnaryOp .Not _ _ => false
  | .IfExp .. => false
  | .Compare .. => false
  | .Set .. => false
  | _ => true
def ownOf (N : List Str) (scope : Scope) : List (Str × Nat) := scope.names.filterMap fun y => match y.2 with
  | .local => if y.1 = (".0" : Str) then none else (idxN N y.1).map fun i => (y.1, i)
  | .cell => if y.1 = (".0" : Str) then none else (idxN N y.1).map fun i => (y.1, i)
  | _ => none
/-- what may stand in a generator's frame -/
def gsC (scope : Scope) : Bool := !scope.isCoroutine && (scope.names.all fun y => match y.2 with | .cell => false | _ => true) && decide (scope.names.lookup (".0" : Str) = some NameKind.local)
def gfC : Expr → Bool
  | .List .. => false
  | .Set .. => false
  | _ => true
def gnOf (x : Str) : Option Bool := if x = ("all" : Str) then some true else if x = ("any" : Str) then some false else none
def cMp (b : Expr) : Bool := !isSet b
mutual
def cE : Nat → Cc → Expr → Option Ex
  | 0, _, _ => none
  | n + 1, c, e => match e with
    | .Constant (.int i) _ _ => some (.lit (.int i))
    | .Constant (.bool b) _ _ => some (.lit (.bl b))
    | .Constant (.str x) _ _ => some (.lit (.str x))
    | .Constant .none _ _ => some (.lit .non)
    | .Name x _ => (match slotOf c x with
      | some i => some (.var i)
      | none => if isGl c x = true ∧ x ∈ c.mo.gs then some (.gl x) else none)
    | .BinOp a o b _ => (match cE n c a, cE n c b with
      | some p, some q => some (.bin o p q)
      | _, _ => none)
    | .UnaryOp .USub a _ => (cE n c a).map .neg
    | .UnaryOp .Not a _ => (cE n c a).map .not
    | .Compare a [o] [b] _ => (match cMp b, cE n c a, cE n c b with
      | true, some p, some q => some (.cmp o p q)
      | _, _, _ => none)
    | .Compare a [o, o'] [b, d] _ => (match cMp b, cMp d, cE n c a, cE n c b, cE n c d with
      | true, true, some p, some q, some r => some (.chn o o' p q r)
      | _, _, _, _, _ => none)
    | .BoolOp .And (e1 :: e2 :: es) _ => cBo true (cE n c) (e1 :: e2 :: es)
    | .BoolOp .Or (e1 :: e2 :: es) _ => cBo false (cE n c) (e1 :: e2 :: es)
    | .IfExp t a b _ => (match cT n c t, cE n c a, cE n c b with
      | some u, some p, some q => some (.ite u p q)
      | _, _, _ => none)
    | .Tuple es _ _ => (cEsT (cE n c) es).map .tup
    | .List es _ => (cEsT (cE n c) es).map .lst
    | .Subscript a (.Slice lo hi none _) _ => (match cE n c a, (match lo with | none => some Exo.none | some l => (cE n c l).map Exo.some), (match hi with | none => some Exo.none | some h => (cE n c h).map Exo.some) with
      | some p, some l, some h => some (.slc p l h)
      | _, _, _ => none)
    | .Subscript a i _ => (match isSlice i, cE n c a, cE n c i with
      | false, some p, some q => some (.idx p q)
      | _, _, _ => none)
    | .Call (.Name f _) es [] _ => (match isGl c f with
      | false => (match es with
        | [.Starred a _] => (match c.hot, slotOf c f, cE n c a with
          | false, some i, some p => if c.low = true then none else some (.star i p)
          | _, _, _ => none)
        | _ => none)
      | true => (match c.fs.lookup f with
        | some k => if es.length = k ∧ c.hot = false then (cEs (cE n c) es).map (if c.low = true then .callL f else .call f) else none
        | none => if f = ("isinstance" : Str) then (match es with
            | [a, .Name y _] => (match isGl c y && isStar a == false, cE n c a, tyOf y with
              | true, some p, some t => some (.isi p t)
              | true, some (.var i), none => some (.isx i [y] false)
              | _, _, _ => none)
            | [a, .Tuple ys _ _] => (match isStar a, cE n c a, cCls c ys with
              | false, some (.var i), some zs => if zs.length ≤ 15 then some (.isx i zs true) else none
              | _, _, _ => none)
            | _ => none)
          else (match gnOf f, es with
            | some b, [.GeneratorExp elt [⟨tg, iter, [], 0⟩] scope _] =>
              let own := ownOf c.N scope
              let c' : Cc := { c with sc := scope, top := false, low := true, gen := false }
              (match c.gen && blkC c.N c.sc scope own && gsC scope && gfC iter, cTg c' tg, cI n c iter, cE n c' elt with
              | true, some t, some it, some p => if t.sl.all (fun i => decide (i ∈ own.map (·.2))) = true then some (.gen b t (own.map (·.2)) it p) else none
              | _, _, _, _ => none)
            | _, [.Call (.Name g _) [a] [] _] => (match f == ("len" : Str) && g == ("set" : Str) && isGl c g && (c.fs.lookup g).isNone && !isStar a && !c.hot, cE n c a with
              | true, some p => some (.lenset p)
              | _, _ => (match biOf f, es with
                | some b, [a] => (match isStar a || (c.hot && decide (b = .sum)), cE n c a with
                  | false, some p => some (.bi b p)
                  | _, _ => none)
                | _, _ => none))
            | _, _ => (match biOf f, es with
            | some b, [a] => (match isStar a || (c.hot && decide (b = .sum)), cE n c a with
              | false, some p => some (.bi b p)
              | _, _ => none)
            | _, _ => none))))
    | .Call (.Attribute a m apos) [b] [] pos => (match mOf m, noSup a && (apos.endLine == pos.line) && !isStar b, cE n c a, cE n c b with
      | some k, true, some p, some q => some (.m1 k p q)
      | _, _, _, _ => none)
    | .DictComp kx vx [⟨tg, iter, ifs, 0⟩] scope _ =>
      let own := ownOf c.N scope
      let c' : Cc := { c with sc := relS scope c.sc, top := false, gen := false }
      (match blkC c.N c.sc scope own && !c.hot, cTg c' tg, cI n c iter, (match ifs with | [] => some Tes.nil | [t] => (cT n c' t).map Tes.one | _ => none), cE n c' kx, cE n c' vx with
      | true, some t, some it, some k, some p, some q => if t.sl.all (fun i => decide (i ∈ own.map (·.2))) = true then some (.dcomp t (own.map (·.2)) it k p q) else none
      | _, _, _, _, _, _ => none)
    | .Dict keys values _ => (match cKeys keys, cEs (cE n c) values with
      | some zs, some ps => if zs.length = values.length ∧ zs ≠ [] ∧ zs.length ≤ 15 ∧ zs.Nodup then some (.dict zs ps) else none
      | _, _ => none)
    | .ListComp elt [⟨tg, iter, ifs, 0⟩] scope _ =>
      let own := ownOf c.N scope
      let c' : Cc := { c with sc := relS scope c.sc, top := false, gen := false }
      (match blkC c.N c.sc scope own && !c.hot, cTg c' tg, cI n c iter, (match ifs with | [] => some Tes.nil | [t] => (cT n c' t).map Tes.one | _ => none), cE n c' elt with
      | true, some t, some it, some k, some p => if t.sl.all (fun i => decide (i ∈ own.map (·.2))) = true then some (.comp t (own.map (·.2)) it k p) else none
      | _, _, _, _, _ => none)
    | _ => none
def cT : Nat → Cc → Expr → Option Te
  | 0, _, _ => none
  | n + 1, c, e => match e with
    | .BoolOp .And es _ => cBoT true (cT n c) es
    | .BoolOp .Or es _ => cBoT false (cT n c) es
    | .UnaryOp .Not a _ => (cT n c a).map .not
    | .Compare a [o] [b] pos => (match cMp b, cE n c a, cE n c b with
      | true, some p, some q => some (.val (.cmp o p q))
      | _, _, _ => none)
    | .Compare a [o, o'] [b, d] _ => (match cMp b, cMp d, cE n c a, cE n c b, cE n c d with
      | true, true, some p, some q, some r => some (.val (.chn o o' p q r))
      | _, _, _, _, _ => none)
    | e => (match plainT e with
      | true => (cE n c e).map .val
      | false => none)
def cI : Nat → Cc → Expr → Option Is
  | 0, _, _ => none
  | n + 1, c, e => match e with
    | .Call (.Name f p) es [] pos => (match isGl c f && decide (f = ("range" : Str)) && (c.fs.lookup f).isNone with
      | true => (match es with
        | [a] => (match isStar a, cE n c a with
          | false, some p => some (.rng1 p)
          | _, _ => none)
        | [a, b] => (match isStar a, isStar b, cE n c a, cE n c b with
          | false, false, some p, some q => some (.rng2 p q)
          | _, _, _, _ => none)
        | _ => none)
      | false => (cE n c (.Call (.Name f p) es [] pos)).map .seq)
    | e => (match isSet e with
      | false => (cE n c e).map .seq
      | true => none)
end

/-- a def of the text keeps what r says, up to n calls deep -/
def FnD (P : Program) (w : World) (G : Gm) (base : Heap) (n : Nat) (f : Str) (k : Nat) (r : List D → Res (Bool × D)) : Prop :=
  ∃ fa fd ps, ps.length = k ∧ G.mg f = some (.ref fa) ∧ FnOk P w G.K G.mg base (L2.CX P w) n fa fd ps (spD G k r) ∧ PySem.W.keepIn G.K (.ref fa) = true ∧ Binds G.K fd ps []
def veB : List Value := [.type "ValueError", .type "Exception", .type "BaseException", .type "object"]
/-- a class of errors of the text's own, over ValueError, without an __init__ -/
structure ExcK (K : PySem.W.Frag) (C : Addr) : Prop where
  ex : PySem.W.excIn K C veB "ValueError.__new__" = true
  kp : PySem.W.keepIn K (.ref C) = true
  sb : PySem.W.subIn K (.ref C) (.type "BaseException") = some true
  ty : PySem.W.typeIn K (.ref C) = some (.type "type")
/-- the name y stands for the class u -/
def NamV (G : Gm) (y : Str) (v : V) (u : Value) : Prop := ClsV v u ∧ ((∃ D, G.mg y = some (.ref D) ∧ v = .ref D) ∨ (G.mg y = none ∧ bootBuiltins y = some u))
structure MoOk (w : World) (G : Gm) (mo : Mo) : Prop where
  gls : ∀ x ∈ mo.gs, ∀ d, mo.gl x = some d → ∃ u v, G.mg x = some u ∧ RelV v u ∧ ∀ H S, Rep G H S d v
  free : ∀ x ∈ bnames, G.mg x = none
  exs : ∀ x ∈ mo.es, ∃ C, G.mg x = some (.ref C) ∧ ExcK G.K C ∧ ExcC G.K C
  kis : ∀ c y b, mo.ki c y = some b → ∃ v u, NamV G y v u ∧ ∀ C, G.mg c = some (.ref C) → PySem.W.kitOne G.K (.ref C) u = some b
  sbs : ∀ c y b, mo.sub c y = some b → ∃ C D, G.mg c = some (.ref C) ∧ G.mg y = some (.ref D) ∧ PySem.W.exmOne G.K (.ref C) (.ref D) = some b
/-- .. by positional values, its last parameter perhaps the rest of them -/
def spV (G : Gm) (k : Nat) (va : Bool) (r : List D → Res (Bool × D)) : Sp := fun vs H Q E => arOk (some (k, va)) vs.length = true ∧ ∃ S ds, Dm G H S ∧ Paired (Rep G H S) ds vs ∧ Post G (fun c H' => ∀ a, G.mg c = some (.ref a) → E (.ref a) none H') H S (r ds) Q
def FnV (P : Program) (w : World) (G : Gm) (base : Heap) (n : Nat) (f : Str) (k : Nat) (va : Bool) (r : List D → Res (Bool × D)) : Prop :=
  ∃ fa, G.mg f = some (.ref fa) ∧ FnR P w G.K G.mg base (L2.CX P w) n fa (spV G k va r) ∧ PySem.W.keepIn G.K (.ref fa) = true
structure Sta (P : Program) (w : World) (G : Gm) (base : Heap) (T : Tb) (n : Nat) (c : Cc) (W : WD) (X : Cx) : Prop where
  eP : X.prog = P
  ew : X.w = w
  K : X.K = G.K
  mg : X.mg = G.mg
  gw : G.w = w
  eb : X.base = base
  N : X.N = c.N
  sc : X.env.scope = c.sc
  nd : X.N.Nodup
  calm : c.hot = false → X.calm = true
  fn : c.top = true → ∀ x, X.fn x = true
  room : c.hot = false → Room (if c.low = true then n - 1 else n) X.A
  un : X.A.units + 150 < cLine
  tk : Takes X (wOf G W)
  fns : c.low = false → ∀ f k, c.fs.lookup f = some k → FnD P w G base n f k (T.fn f)
  fnv : c.low = false → ∀ f k va, T.ar f = some (k, va) → FnV P w G base n f k va (T.fn f)
  fnl : T.gok = true → 1 ≤ n ∧ ∀ f k, c.fs.lookup f = some k → FnD P w G base (n - 1) f k (T.fl f)
  lw : c.low = true → T.gok = true
  gen : c.gen = true → c.hot = false ∧ c.low = false ∧ ∃ ca Pt, G.tb Pt ∧ GxR.TabB base G.mg ca Pt ∧ X.env.code = .ref ca
  hx0 : c.hot = false → G.hx = none
  hxs : ∀ a c, G.hx = some (a, c) → ∃ oe C, (a, oe) ∈ X.pn ∧ G.mg c = some (.ref C) ∧ ExcC G.K C ∧ Zc (.ref C) none oe ∧ ∃ vs, oe.data = .fields vs
  tgl : T.gl = c.mo.gl
  tki : T.ki = c.mo.ki
  tsb : T.sub = c.mo.sub
  mo : MoOk w G c.mo
section
variable {P : Program} {w : World} {G : Gm} {base : Heap} {T : Tb} {n : Nat} {c : Cc} {W : WD} {X : Cx}
theorem Sta.kis (s : Sta P w G base T n c W X) : ∀ k y b, T.ki k y = some b → ∃ v u, NamV G y v u ∧ ∀ C, G.mg k = some (.ref C) → PySem.W.kitOne G.K (.ref C) u = some b := fun k y b h => s.mo.kis k y b (by rw [← s.tki]; exact h)
theorem Sta.wG (s : Sta P w G base T n c W X) : X.w = G.w := s.ew.trans s.gw.symm
theorem Sta.units (s : Sta P w G base T n c W X) : X.A.units + 150 < cLine := s.un
theorem Sta.blk (s : Sta P w G base T n c W X) (hh : c.hot = false) (sh : Shared) (H : Hp) (scope : Scope) (cl : List (Str × Addr)) (C : Addr) (fp : List Addr) :
    Sta P w G base T n { c with sc := relS scope c.sc, top := false, gen := false } (fun _ _ _ => False) (X.blk sh H scope (compEnvC scope cl C X.env) fp) where
  eP := s.eP
  ew := s.ew
  K := s.K
  mg := s.mg
  gw := s.gw
  eb := s.eb
  N := s.N
  sc := by
    show relabel scope X.env = relS scope c.sc
    rw [← s.sc] <;> rfl
  nd := s.nd
  calm := s.calm
  fn := fun h => by cases h
  room := s.room
  un := s.un
  tk := takes0.imp fun c d σ H ⟨_, _, _, _, _, h⟩ => h
  fns := s.fns
  fnv := s.fnv
  fnl := s.fnl
  lw := s.lw
  gen := fun h => nomatch h
  hx0 := s.hx0
  hxs := fun a c h => by rw [s.hx0 hh] at h; cases h
  tgl := s.tgl
  tki := s.tki
  tsb := s.tsb
  mo := s.mo
theorem gsC_ok {scope : Scope} (h : gsC scope = true) : Hg.GScope scope := by
  unfold gsC at h
  rw [Bool.and_eq_true, Bool.and_eq_true] at h
  obtain ⟨⟨h1, h2⟩, h3⟩ := h
  refine ⟨by simpa using h1, fun y hy z => ?_, of_decide_eq_true h3⟩
  have := List.all_eq_true.mp h2 y hy
  rw [z] at this
  cases this
theorem gfC_ok {e : Expr} (h : gfC e = true) (env : Env) (v : Value) : genFold e env v = pure v := by
  cases e <;> first | rfl | cases h
theorem Sta.gx (s : Sta P w G base T n c W X) (hg : c.gen = true) (hk : T.gok = true) (scope : Scope) {A' : Around} (ar : Hg.ArG X A') (sh : Shared) (H : Hp) (C : Addr) (code : Value) (fp : List Addr) :
    Sta P w G base T n { c with sc := scope, top := false, low := true, gen := false } (fun _ _ _ => False) (Hg.Gx X A' sh H (Hg.gEnv X scope C code) fp) where
  eP := s.eP
  ew := s.ew
  K := s.K
  mg := s.mg
  gw := s.gw
  eb := s.eb
  N := s.N
  sc := rfl
  nd := s.nd
  calm := s.calm
  fn := fun h => by cases h
  room := fun h => by
    obtain ⟨g1, g2, _⟩ := s.gen hg
    have r := s.room h
    rw [g2] at r
    have r : Room n X.A := r
    have n1 := (s.fnl hk).1
    show Room (n - 1) A'
    exact ⟨ar.hd, by have := r.dp; rw [ar.dp]; omega, by have := r.un; rw [ar.un]; omega⟩
  un := by
    obtain ⟨g1, g2, _⟩ := s.gen hg
    have r := s.room g1
    rw [g2] at r
    have r : Room n X.A := r
    have n1 := (s.fnl hk).1
    show A'.units + 150 < cLine
    have := r.un
    rw [ar.un]
    omega
  tk := takes0.imp fun c d σ H ⟨_, _, _, _, _, h⟩ => h
  fns := fun h => nomatch h
  fnv := fun h => nomatch h
  fnl := s.fnl
  lw := fun _ => hk
  gen := fun h => nomatch h
  hx0 := s.hx0
  hxs := fun a k h => by rw [s.hx0 (s.gen hg).1] at h; cases h
  tgl := s.tgl
  tki := s.tki
  tsb := s.tsb
  mo := s.mo
theorem okNm_ok {x : Str} (h : okNm x = true) : (x == ("__debug__" : Str)) = false ∧ (x == ("__classdict__" : Str)) = false ∧ x ≠ "__name__" := by
  unfold okNm at h
  rw [Bool.not_eq_true', Bool.or_eq_false_iff, Bool.or_eq_false_iff] at h
  exact ⟨beq_eq_false_iff_ne.mpr (of_decide_eq_false h.1.1), beq_eq_false_iff_ne.mpr (of_decide_eq_false h.1.2), of_decide_eq_false h.2⟩
theorem Sta.var (s : Sta P w G base T n c W X) {x : Str} {i : Nat} {pos : Pos} (h : slotOf c x = some i) : PE X (.Name x pos) (tVar i) := by
  unfold slotOf at h
  cases ok : okNm x with
  | false => rw [ok] at h; cases h
  | true =>
    rw [ok] at h
    obtain ⟨d1, d2, _⟩ := okNm_ok ok
    have kk : ∀ k, kindC c x = some k → X.env.scope.names.lookup x = some k := fun k q => by rw [s.sc]; exact q
    have go : ∀ (q : idxN c.N x = some i), X.N[i]? = some x := fun q => by rw [s.N]; exact idxN_ok q
    cases kd : kindC c x with
    | none => rw [kd] at h; cases h
    | some k =>
      rw [kd] at h
      cases k with
      | «local» => exact pe_var (go h) (.inl (kk _ kd)) d1 d2
      | cell => exact pe_var (go h) (.inr (.inl (kk _ kd))) d1 d2
      | free => exact pe_var (go h) (.inr (.inr (kk _ kd))) d1 d2
      | globalExplicit => cases h
      | globalImplicit => cases h
theorem Sta.gl (s : Sta P w G base T n c W X) {x : Str} (h : isGl c x = true) : Gl X x ∧ (x == ("__debug__" : Str)) = false ∧ x ≠ "__name__" := by
  unfold isGl at h
  rw [Bool.and_eq_true] at h
  obtain ⟨d1, _, d3⟩ := okNm_ok h.1
  refine ⟨?_, d1, d3⟩
  show X.env.scope.names.lookup x = some .globalImplicit
  rw [s.sc]
  exact of_decide_eq_true h.2
theorem Sta.no (s : Sta P w G base T n c W X) {x : Str} (h : x ∈ bnames) : X.mg x = none := by rw [s.mg]; exact s.mo.free x h
theorem star_of {e : Expr} (h : isStar e = false) (es : List Expr) (env : Env) : starEach (e :: es) env = (false, eval e env) :: starEach es env := by
  cases e <;> first | rfl | cases h
theorem Sta.nm (s : Sta P w G base T n c W X) {x : Str} {i : Nat} {pos : Pos} (h : stOf c x = some i) : PG X (.Name x pos) (gName i) := by
  unfold stOf at h
  have kk : ∀ k, kindC c x = some k → X.env.scope.names.lookup x = some k := fun k q => by rw [s.sc]; exact q
  have go : ∀ (q : idxN c.N x = some i), X.N[i]? = some x := fun q => by rw [s.N]; exact idxN_ok q
  cases kd : kindC c x with
  | none => rw [kd] at h; cases h
  | some k =>
    rw [kd] at h
    cases k with
    | «local» => exact pg_name s.nd (go h) (.inl (kk _ kd)) (.inr (kk _ kd))
    | cell =>
      cases ht : c.top with
      | true =>
        rw [ht] at h
        exact pg_name s.nd (go h) (.inr (kk _ kd)) (.inl (s.fn ht x))
      | false => rw [ht] at h; cases h
    | free => cases h
    | globalExplicit => cases h
    | globalImplicit => cases h
theorem Sta.nms (s : Sta P w G base T n c W X) : ∀ (es : List Expr) (is : List Nat), cNames c es = some is → PGs X es (gNs is)
  | [], is, h => by cases h; exact pgs_nil
  | .Name x p :: es, is, h => by
    have h' : (match stOf c x, cNames c es with | some i, some is => some (i :: is) | _, _ => none) = some is := h
    cases q1 : stOf c x with
    | none => rw [q1] at h'; cases h'
    | some i =>
      cases q2 : cNames c es with
      | none => rw [q1, q2] at h'; cases h'
      | some js =>
        rw [q1, q2] at h'
        cases h'
        exact pgs_cons (s.nm q1) (Sta.nms s es js q2) rfl
theorem cNames_len : ∀ (es : List Expr) (is : List Nat), cNames c es = some is → ∀ env : Env, (assignEach es env).length = is.length ∧ (assignEach es env).findIdx? (·.1) = none
  | [], is, h, env => by cases h; exact ⟨rfl, rfl⟩
  | .Name x p :: es, is, h, env => by
    have h' : (match stOf c x, cNames c es with | some i, some is => some (i :: is) | _, _ => none) = some is := h
    cases q1 : stOf c x with
    | none => rw [q1] at h'; cases h'
    | some i =>
      cases q2 : cNames c es with
      | none => rw [q1, q2] at h'; cases h'
      | some js =>
        rw [q1, q2] at h'
        cases h'
        obtain ⟨h1, h2⟩ := cNames_len es js q2 env
        have e : assignEach (.Name x p :: es) env = (false, assign (.Name x p) env) :: assignEach es env := rfl
        rw [e]
        refine ⟨by rw [List.length_cons, List.length_cons, h1], ?_⟩
        rw [List.findIdx?_cons]
        simp only [Bool.false_eq_true, if_false, h2, Option.map_none]
theorem Sta.tg (s : Sta P w G base T n c W X) {e : Expr} {t : Tg} (h : cTg c e = some t) : PG X e (gOf G.K t) := by
  cases e with
  | Name x pos =>
    have h' : (stOf c x).map Tg.one = some t := h
    cases q : stOf c x with
    | none => rw [q] at h'; cases h'
    | some i => rw [q] at h'; cases h'; exact s.nm q
  | Tuple es k pos =>
    have h' : (match c.hot with | false => (cNames c es).map Tg.tup | true => none) = some t := h
    cases hh : c.hot with
    | true => rw [hh] at h'; cases h'
    | false =>
    rw [hh] at h'
    cases q : cNames c es with
    | none => rw [q] at h'; cases h'
    | some is =>
      rw [q] at h'
      cases h'
      obtain ⟨h1, h2⟩ := cNames_len es is q X.env
      have := pg_tup (pos := pos) (k := k) (s.calm hh) (Sta.nms s es is q) h1 h2
      rw [s.K] at this
      exact this
  | _ => cases h
end
end Hf

/-! Hf7: the text's expressions give what the small language says. -/
namespace Hf
open PySem PySem.Spec PyProof.Rows L2
set_option autoImplicit false
section
variable (P : Program) (w : World) (G : Gm) (base : Heap) (T : Tb) (m : Nat) (H0 : Hp)
def OkE (n : Nat) : Prop := ∀ (c : Cc) (e : Expr) (p : Ex), cE n c e = some p → ∀ (W : WD) (X : Cx), Sta P w G base T m c W X → PE X e (tD G W H0 (ev T p)) ∧ PE X e (tB G W H0 fun ρ => bor p ρ (ev T p ρ))
def OkT (n : Nat) : Prop := ∀ (c : Cc) (e : Expr) (p : Te), cT n c e = some p → ∀ (W : WD) (X : Cx), Sta P w G base T m c W X → PT X e (tT G W H0 (evT T p))
def OkI (n : Nat) : Prop := ∀ (c : Cc) (e : Expr) (p : Is), cI n c e = some p → ∀ (W : WD) (X : Cx) (tg : Expr), Sta P w G base T m c W X → PI X tg e (tI G W H0 (evi T p))
end
section
variable {P : Program} {w : World} {G : Gm} {base : Heap} {T : Tb} {m : Nat} {H0 : Hp}
theorem both {p : Ex} {W : WD} {X : Cx} {e : Expr} (hp : ∀ i, p ≠ .var i) (h : PE X e (tD G W H0 (ev T p))) : PE X e (tD G W H0 (ev T p)) ∧ PE X e (tB G W H0 fun ρ => bor p ρ (ev T p ρ)) := by
  refine ⟨h, ?_⟩
  have e1 : ∀ ρ, bor p ρ (ev T p ρ) = sndR (ev T p ρ) := fun ρ => by
    cases p with
    | var i => exact absurd rfl (hp i)
    | _ => rfl
  have := pe_B h
  simpa only [e1] using this
theorem cEs_ok {n : Nat} (ih : OkE P w G base T m H0 n) {c : Cc} {W : WD} {X : Cx} (s : Sta P w G base T m c W X) : ∀ (es : List Expr) (ps : Exs), cEs (cE n c) es = some ps →
    PA X es (tL G W H0 (evs T ps)) ∧ (∀ env : Env, ∀ pos : Pos, (backTo pos (starEach es env)).any (·.1) = false) ∧ ∀ e r, es = e :: r → ∀ env, starEach (e :: r) env = (false, eval e env) :: starEach r env
  | [], ps, h => by
    cases h
    exact ⟨pa_ni, fun _ _ => rfl, fun _ _ e => nomatch e⟩
  | e :: es, ps, h => by
    have h' : (match isStar e, cE n c e, cEs (cE n c) es with | false, some p, some ps => some (Exs.cons p ps) | _, _, _ => none) = some ps := h
    cases q1 : isStar e with
    | true => rw [q1] at h'; cases h'
    | false =>
      cases q2 : cE n c e with
      | none => rw [q1, q2] at h'; cases h'
      | some p =>
        cases q3 : cEs (cE n c) es with
        | none => rw [q1, q2, q3] at h'; cases h'
        | some r =>
          rw [q1, q2, q3] at h'
          cases h'
          obtain ⟨i1, i2, _⟩ := cEs_ok ih s es r q3
          refine ⟨pa_co (ih c e p q2 W X s).1 i1 (star_of q1 es X.env), fun env pos => ?_, fun e' r' he env => ?_⟩
          · rw [star_of q1 es env]
            show ((false, _) :: backTo pos (starEach es env)).any (·.1) = false
            rw [List.any_cons, i2 env pos] <;> rfl
          · cases he
            exact star_of q1 es env
theorem cEsT_ok {n : Nat} (ih : OkE P w G base T m H0 n) {c : Cc} {W : WD} {X : Cx} (s : Sta P w G base T m c W X) : ∀ (es : List Expr) (ps : Exs), cEsT (cE n c) es = some ps → PA X es (tL G W H0 (evs T ps))
  | [], ps, h => by
    cases h
    exact pa_ni
  | e :: es, ps, h => by
    cases q1 : isStar e with
    | true =>
      cases e with
      | Starred a sp =>
        have h' : (match cE n c a, cEsT (cE n c) es with | some p, some ps => some (Exs.star p ps) | _, _ => none) = some ps := h
        cases q2 : cE n c a with
        | none => rw [q2] at h'; cases h'
        | some p =>
          cases q3 : cEsT (cE n c) es with
          | none => rw [q2, q3] at h'; cases h'
          | some r =>
            rw [q2, q3] at h'
            cases h'
            exact pa_st s.K (ih c a p q2 W X s).2 (cEsT_ok ih s es r q3)
      | _ => cases q1
    | false =>
      have h' : (match isStar e, cE n c e, cEsT (cE n c) es with | false, some p, some ps => some (Exs.cons p ps) | _, _, _ => none) = some ps := by
        cases e <;> first | exact h | cases q1
      cases q2 : cE n c e with
      | none => rw [q1, q2] at h'; cases h'
      | some p =>
        cases q3 : cEsT (cE n c) es with
        | none => rw [q1, q2, q3] at h'; cases h'
        | some r =>
          rw [q1, q2, q3] at h'
          cases h'
          exact pa_co (ih c e p q2 W X s).1 (cEsT_ok ih s es r q3) (star_of q1 es X.env)
theorem cKeys_ok : ∀ (keys : List (Option Expr)) (zs : List Str), cKeys keys = some zs → keys.length = zs.length ∧ keys.all (·.isSome) = true
  | [], zs, h => by cases h; exact ⟨rfl, rfl⟩
  | none :: r, zs, h => by cases h
  | some e :: r, zs, h => by
    unfold cKeys at h
    split at h
    · rename_i q; cases q
    · rename_i z _ _ r' q
      cases q
      obtain ⟨zs', q, rfl⟩ := Option.map_eq_some_iff.mp h
      obtain ⟨h1, h2⟩ := cKeys_ok r zs' q
      exact ⟨by rw [List.length_cons, List.length_cons, h1], by rw [List.all_cons, h2]; rfl⟩
    · cases h
theorem pps_ok {n : Nat} (ih : OkE P w G base T m H0 n) {c : Cc} {W : WD} {X : Cx} (s : Sta P w G base T m c W X) {pos : Pos} : ∀ (keys : List (Option Expr)) (zs : List Str) (es : List Expr) (ps : Exs), cKeys keys = some zs → cEs (cE n c) es = some ps → zs.length = es.length →
    ∃ trs, PPs X pos keys es trs ∧ ∀ σ H (Q : List (V × V) → Hp → Prop) S ρ, REnv G H0 H S σ ρ → PostL G (fun c => W c σ) H S (evs T ps ρ) (fun vs H' => Q ((zs.zip vs).map fun p => (V.str p.1, p.2)) H') → tPairs trs σ H Q
  | [], zs, es, ps, h1, h2, h3 => by
    cases h1
    cases es with
    | cons _ _ => cases h3
    | nil =>
      cases h2
      exact ⟨[], pps_nil, fun σ H Q S ρ R p => p [] H S (Gr.refl _ _) .nil⟩
  | none :: _, zs, es, ps, h1, _, _ => by cases h1
  | some e :: keys, zs, es, ps, h1, h2, h3 => by
    unfold cKeys at h1
    split at h1
    · rename_i q; cases q
    · rename_i z _ _ r' q
      cases q
      obtain ⟨zs', q, rfl⟩ := Option.map_eq_some_iff.mp h1
      cases es with
      | nil => cases h3
      | cons e es =>
        have h' : (match isStar e, cE n c e, cEs (cE n c) es with | false, some p, some ps => some (Exs.cons p ps) | _, _, _ => none) = some ps := h2
        cases q1 : isStar e with
        | true => rw [q1] at h'; cases h'
        | false =>
          cases q2 : cE n c e with
          | none => rw [q1, q2] at h'; cases h'
          | some p =>
            cases q3 : cEs (cE n c) es with
            | none => rw [q1, q2, q3] at h'; cases h'
            | some r =>
              rw [q1, q2, q3] at h'
              cases h'
              obtain ⟨trs, i1, i2⟩ := pps_ok ih s keys zs' es r q q3 (by simpa using h3)
              refine ⟨_, pps_cons pe_str (ih c e p q2 W X s).1 i1, fun σ H Q S ρ R z => ?_⟩
              show tD G W H0 (ev T p) σ H _
              refine ⟨S, ρ, R, mkD rdL z fun bo d z v H1 S1 e1 r1 => ?_⟩
              obtain ⟨S2, e2, k2, r2⟩ := r1.fz e1
              exact i2 σ H1 _ S2 ρ (R.gr e2) (mkL rdL (z.gr e2) fun ds z vs H3 S3 e3 r3 => z (v :: vs) H3 S3 e3 (.cons (e3.rep r2) r3))
    · cases h1
theorem mergeK_new : ∀ (more kvs : List (Key × V)), (∀ p ∈ more, valV kvs p.1 = none) → (more.map (·.1)).Nodup → mergeK kvs more = kvs ++ more
  | [], kvs, _, _ => (List.append_nil _).symm
  | p :: r, kvs, h, hn => by
    rw [List.map_cons, List.nodup_cons] at hn
    have e : putK kvs p.1 p.2 = kvs ++ [p] := putK_new p.2 (h p List.mem_cons_self)
    show mergeK (putK kvs p.1 p.2) r = kvs ++ p :: r
    rw [e, mergeK_new r (kvs ++ [p]) (fun q hq => ?_) hn.2, List.append_assoc]
    · rfl
    · have h1 := h q (List.mem_cons_of_mem _ hq)
      have h2 : ¬ p.1 = q.1 := fun z => hn.1 (z ▸ List.mem_map_of_mem hq)
      unfold valV at h1 ⊢
      rw [List.find?_append]
      cases z : kvs.find? (fun kv => decide (kv.1 = q.1)) with
      | none => simp [List.find?_cons, h2]
      | some y => rw [z] at h1; cases h1
theorem kvD_keys : ∀ (vs : List V) (zs : List Str) (k : Str), (Sum.inr k : Key) ∈ (kvD zs vs).map (·.1) → k ∈ zs
  | [], [], _, h => by cases h
  | [], _ :: _, _, h => by cases h
  | _ :: _, [], _, h => by cases h
  | v :: vs, z :: zs, k, h => by
    have h' : (Sum.inr k : Key) ∈ Sum.inr z :: (kvD zs vs).map (·.1) := h
    rcases List.mem_cons.mp h' with e | h'
    · exact List.mem_cons.mpr (.inl (Sum.inr.inj e))
    · exact List.mem_cons_of_mem _ (kvD_keys vs zs k h')
theorem kvD_nodup : ∀ (vs : List V) (zs : List Str), zs.Nodup → ((kvD zs vs).map (·.1)).Nodup
  | [], [], _ => List.nodup_nil
  | [], _ :: _, _ => List.nodup_nil
  | _ :: _, [], _ => List.nodup_nil
  | v :: vs, z :: zs, h => by
    rw [List.nodup_cons] at h
    show (Sum.inr z :: (kvD zs vs).map (·.1)).Nodup
    exact List.nodup_cons.mpr ⟨fun q => h.1 (kvD_keys vs zs z q), kvD_nodup vs zs h.2⟩
theorem dict_ok {n : Nat} (ih : OkE P w G base T m H0 n) {c : Cc} {W : WD} {X : Cx} (s : Sta P w G base T m c W X) {pos : Pos} {keys : List (Option Expr)} {zs : List Str} {es : List Expr} {ps : Exs} (h1 : cKeys keys = some zs) (h2 : cEs (cE n c) es = some ps) (h3 : zs.length = es.length) (h4 : zs ≠ []) (h5 : zs.length ≤ 15) (h6 : zs.Nodup)
    (hlen : ∀ ρ ds, evs T ps ρ = .ok ds → ds.length = es.length) : PE X (.Dict keys es pos) (tD G W H0 (ev T (.dict zs ps))) := by
  obtain ⟨trs, i1, i2⟩ := pps_ok ih s (pos := pos) keys zs es ps h1 h2 h3
  obtain ⟨k1, k2⟩ := cKeys_ok keys zs h1
  refine (pe_disp i1 k2 (k1.trans h3) (fun z => h4 (by rw [z] at k1; exact List.length_eq_zero_iff.mp k1.symm)) (by omega)).im fun σ H Q ⟨S, ρ, R, z⟩ p hp => ?_
  have z : Post G (fun c => W c σ) H S ((evs T ps ρ).bind fun xs => okF (.dct zs xs)) Q := z
  have g0 : Gr H S (upd H p (.dK [])) S := Gr.laid hp
  have np : ¬ S p := R.dom.no hp
  refine i2 σ _ _ S ρ (R.gr g0) ?_
  cases e : evs T ps ρ with
  | fail => rw [e] at z; exact z.elim
  | exc c => rw [e] at z; exact fun H' S' g => z H' S' (g0.trans g)
  | ok ds =>
    rw [e] at z
    intro vs H2 S2 g r
    have hl : ds.length = zs.length := (hlen ρ ds e).trans h3.symm
    have hl2 := Paired.length r
    have ep : H2 p = some (.dK []) := g.same p _ upd_same
    have np2 : ¬ S2 p := fun q => by
      rcases g.new p q with q | ⟨q, _⟩
      · exact np q
      · rw [upd_same] at q; cases q
    have nd : ((kvD zs vs).map (·.1)).Nodup := kvD_nodup vs zs h6
    have em : mergeK [] (kvD zs vs) = kvD zs vs := mergeK_new _ _ (fun _ _ => rfl) nd
    refine ⟨ep, kvD zs vs, ?_, ?_, ?_⟩
    · unfold kvD
      rw [List.map_map]
      rfl
    · unfold kvD
      rw [List.length_map, List.length_zip]
      omega
    · rw [em]
      have k : Keep H2 S2 (upd H2 p (.dK (kvD zs vs))) (fun b => S2 b ∨ b = p) := fun b sb => ⟨.inl sb, fun o q => by rw [upd_ne (show b ≠ p from fun z => np2 (by rw [← z]; exact sb)), q]; exact SaO.self o⟩
      have gg : Gr H S (upd H2 p (.dK (kvD zs vs))) (fun b => S2 b ∨ b = p) := by
        refine ⟨fun b o q => ?_, fun b sb => .inl (g.sub b sb), fun b q => ?_⟩
        · have nb : b ≠ p := ne_of_none q hp
          rw [upd_ne nb]
          exact g.same b o (by rw [upd_ne nb]; exact q)
        · rcases q with q | rfl
          · have nb : b ≠ p := fun z => np2 (by rw [← z]; exact q)
            rcases g.new b q with q | ⟨q1, o, q2⟩
            · exact .inl q
            · rw [upd_ne nb] at q1
              exact .inr ⟨q1, o, by rw [upd_ne nb]; exact q2⟩
          · exact .inr ⟨hp, _, upd_same⟩
      exact z _ _ _ gg (.dct (.inl ⟨.inr rfl, .inl upd_same⟩) (Rep.keepL k _ _ r))
theorem cBo_ok {n : Nat} (ih : OkE P w G base T m H0 n) {c : Cc} {W : WD} {X : Cx} (s : Sta P w G base T m c W X) {pos : Pos} (and : Bool) : ∀ (es : List Expr) (p : Ex), cBo and (cE n c) es = some p →
    PE X (.BoolOp (if and = true then .And else .Or) es pos) (tD G W H0 (ev T p)) ∧ (∀ i, p = .var i → es.length = 1)
  | [], p, h => by cases h
  | [e], p, h => ⟨pe_one (ih c e p h W X s).1, fun _ _ => rfl⟩
  | e :: e' :: es, p, h => by
    have h' : (match cE n c e, cBo and (cE n c) (e' :: es) with | some p, some q => some (if and = true then Ex.and p q else .or p q) | _, _ => none) = some p := h
    cases q2 : cE n c e with
    | none => rw [q2] at h'; cases h'
    | some a =>
      cases q3 : cBo and (cE n c) (e' :: es) with
      | none => rw [q2, q3] at h'; cases h'
      | some b =>
        rw [q2, q3] at h'
        cases h'
        obtain ⟨i1, _⟩ := cBo_ok ih s and (e' :: es) b q3 (pos := pos)
        cases and with
        | true => exact ⟨pe_an s.K (ih c e a q2 W X s).1 i1, fun _ z => by cases z⟩
        | false => exact ⟨pe_o s.K (ih c e a q2 W X s).1 i1, fun _ z => by cases z⟩
theorem cBoT_ok {n : Nat} (ih : OkT P w G base T m H0 n) {c : Cc} {W : WD} {X : Cx} (s : Sta P w G base T m c W X) {pos : Pos} (and : Bool) : ∀ (es : List Expr) (p : Te), cBoT and (cT n c) es = some p →
    PW X (.BoolOp (if and = true then .And else .Or) es pos) (tT G W H0 (evT T p))
  | [], p, h => by cases h
  | [e], p, h => by
    cases and with
    | true => exact pw_and1 (ih c e p h W X s)
    | false => exact pw_or1 (ih c e p h W X s)
  | e :: e' :: es, p, h => by
    have h' : (match cT n c e, cBoT and (cT n c) (e' :: es) with | some p, some q => some (if and = true then Te.and p q else .or p q) | _, _ => none) = some p := h
    cases q2 : cT n c e with
    | none => rw [q2] at h'; cases h'
    | some a =>
      cases q3 : cBoT and (cT n c) (e' :: es) with
      | none => rw [q2, q3] at h'; cases h'
      | some b =>
        rw [q2, q3] at h'
        cases h'
        have i1 := cBoT_ok ih s and (e' :: es) b q3 (pos := pos)
        cases and with
        | true => exact pw_an (ih c e a q2 W X s) i1
        | false => exact pw_o (ih c e a q2 W X s) i1
theorem mark_of (o : CmpOp) {b : Expr} (h : cMp b = true) : behindInMarks o b = false := by cases b <;> first | rfl | cases h
theorem marks_of (o o' : CmpOp) {d : Expr} (b : Expr) (h : cMp d = true) : lastMarks [o, o'] [b, d] = false := by
  show lastMarks [o'] [d] = false
  exact mark_of o' h
theorem bi_boot {x : Str} {f : Bi} (h : biOf x = some f) : bootBuiltins x = some f.fv ∧ x ∈ bnames ∧ x ≠ "__name__" := by
  unfold biOf at h
  split at h
  · cases h; rename_i e; subst e; exact ⟨by decide +kernel, by decide +kernel, by decide +kernel⟩
  · split at h
    · cases h; rename_i e; subst e; exact ⟨by decide +kernel, by decide +kernel, by decide +kernel⟩
    · split at h
      · cases h; rename_i e; subst e; exact ⟨by decide +kernel, by decide +kernel, by decide +kernel⟩
      · split at h
        · cases h; rename_i e; subst e; exact ⟨by decide +kernel, by decide +kernel, by decide +kernel⟩
        · split at h
          · cases h; rename_i e; subst e; exact ⟨by decide +kernel, by decide +kernel, by decide +kernel⟩
          · split at h
            · cases h; rename_i e; subst e; exact ⟨by decide +kernel, by decide +kernel, by decide +kernel⟩
            · cases h
theorem ty_boot {x : Str} {t : Ty} (h : tyOf x = some t) : bootBuiltins x = some (.type t.nm) ∧ x ∈ bnames ∧ x ≠ "__name__" := by
  unfold tyOf at h
  split at h
  · cases h; rename_i e; subst e; exact ⟨by decide +kernel, by decide +kernel, by decide +kernel⟩
  · split at h
    · cases h; rename_i e; subst e; exact ⟨by decide +kernel, by decide +kernel, by decide +kernel⟩
    · split at h
      · cases h; rename_i e; subst e; exact ⟨by decide +kernel, by decide +kernel, by decide +kernel⟩
      · split at h
        · cases h; rename_i e; subst e; exact ⟨by decide +kernel, by decide +kernel, by decide +kernel⟩
        · split at h
          · cases h; rename_i e; subst e; exact ⟨by decide +kernel, by decide +kernel, by decide +kernel⟩
          · cases h
theorem plain_is {e : Expr} (h : plainT e = true) (env : Env) : ∀ whole, isTrue e env whole = (do let v ← whole; standAt e.pos; holding [v] (truthy v)) := by
  intro whole
  cases e with
  | UnaryOp op a pos => cases op <;> first | rfl | cases h
  | _ => first | rfl | cases h
theorem plainIx_of {i : Expr} (h : isSlice i = false) : PlainIx i := by
  intro o v
  cases i with
  | Slice _ _ _ _ => cases h
  | _ => rfl
theorem sw_no {iter : Expr} (h : isSet iter = false) (env : Env) (x : Value) : foldedSetIterable iter env x = pure x := by
  cases iter with
  | Set _ _ _ => cases h
  | _ => rfl
end
end Hf

/-! Hf8: the induction over the text's expressions. -/
namespace Hf
open PySem PySem.Spec PyProof.Rows L2
set_option autoImplicit false
section
variable {P : Program} {w : World} {G : Gm} {base : Heap} {T : Tb} {m : Nat} {H0 : Hp}
theorem evs_len {n : Nat} {c : Cc} : ∀ es ps, cEs (cE n c) es = some ps → ∀ ρ ds, evs T ps ρ = .ok ds → ds.length = es.length := by
  intro es
  induction es with
  | nil => intro ps h ρ ds e; cases h; cases e; rfl
  | cons a r ihr =>
    intro ps h ρ ds e
    have h' : (match isStar a, cE n c a, cEs (cE n c) r with | false, some p, some ps => some (Exs.cons p ps) | _, _, _ => none) = some ps := h
    cases q1 : isStar a with
    | true => rw [q1] at h'; cases h'
    | false =>
      cases q2 : cE n c a with
      | none => rw [q1, q2] at h'; cases h'
      | some p =>
        cases q3 : cEs (cE n c) r with
        | none => rw [q1, q2, q3] at h'; cases h'
        | some rr =>
          rw [q1, q2, q3] at h'
          cases h'
          have e' : ((ev T p ρ).bind fun x => (evs T rr ρ).bind fun xs => Res.ok (x.2 :: xs)) = .ok ds := e
          cases z1 : ev T p ρ with
          | fail => rw [z1] at e'; cases e'
          | exc _ => rw [z1] at e'; cases e'
          | ok x =>
            cases z2 : evs T rr ρ with
            | fail => rw [z1, z2] at e'; cases e'
            | exc _ => rw [z1, z2] at e'; cases e'
            | ok xs =>
              rw [z1, z2] at e'
              cases e'
              rw [List.length_cons, List.length_cons, ihr rr q3 ρ xs z2]
theorem call_okG {n : Nat} (ih : OkE P w G base T m H0 n) {c : Cc} {W : WD} {X : Cx} (s : Sta P w G base T m c W X) {f : Str} {k : Nat} {es : List Expr} {ps : Exs} {q pos : Pos} {l : Nat} {r : List D → Res (Bool × D)} (hg : isGl c f = true) (F0 : FnD P w G base l f k r) (hr : Room l X.A) (hl : es.length = k) (h : cEs (cE n c) es = some ps) :
    PE X (.Call (.Name f q) es [] pos) (tD G W H0 fun ρ => (evs T ps ρ).bind r) := by
  obtain ⟨fa, fd, nm, hk, hm, F, kp, hb⟩ := F0
  obtain ⟨g1, g2, _⟩ := s.gl hg
  obtain ⟨i1, i2, i3⟩ := cEs_ok ih s es ps h
  have F' : FnOk X.prog X.w X.K X.mg X.base (L2.CX X.prog X.w) l fa fd nm (spD G k r) := by rw [s.eP, s.ew, s.K, s.mg, s.eb]; exact F
  have hm' : X.mg f = some (.ref fa) := by rw [s.mg]; exact hm
  have kp' : PySem.W.keepIn X.K (.ref fa) = true := by rw [s.K]; exact kp
  have hb' : Binds X.K fd nm [] := by rw [s.K]; exact hb
  have len : ∀ es ps, cEs (cE n c) es = some ps → ∀ ρ ds, evs T ps ρ = .ok ds → ds.length = es.length := evs_len
  have fin : ∀ σ H Q, tD G W H0 (fun ρ => (evs T ps ρ).bind r) σ H Q → tCallS (spD G k r) (WE (wOf G W)) (tL G W H0 (evs T ps)) σ H Q := by
    intro σ H Q ⟨S, ρ, R, p⟩
    have p : Post G (fun c => W c σ) H S ((evs T ps ρ).bind r) Q := p
    cases z : evs T ps ρ with
    | fail => rw [z] at p; exact p.elim
    | exc c => exact ⟨S, ρ, R, by rw [z] at p ⊢; exact p⟩
    | ok ds =>
      refine ⟨S, ρ, R, ?_⟩
      rw [z] at p ⊢
      intro vs H1 S1 e1 r1
      refine ⟨?_, S1, ds, (R.gr e1).dom, r1, (Post.gr e1 (show Post G _ H S (r ds) Q from p)).weak fun c H' w a ha => ⟨c, a, rfl, ha, rfl, w⟩⟩
      rw [← Paired.length r1, len es ps h ρ ds z, hl]
  cases es with
  | nil =>
    cases h
    exact (pe_callS0 F' hr g1 hm' kp' hb' (fun σ => passAt s.tk σ) g2).im fun σ H Q q => by
      obtain ⟨S, ρ, R, p⟩ := fin σ H Q q
      exact p [] H S (Gr.refl _ _) .nil
  | cons a r => exact (pe_callS F' hr g1 hm' kp' hb' (fun σ => passAt s.tk σ) i1 g2 (i3 a r rfl X.env) (by have := i2 X.env pos; rw [i3 a r rfl X.env] at this; exact (by simpa [backTo, List.any_cons] using this))).im fin
theorem call_ok {n : Nat} (ih : OkE P w G base T m H0 n) {c : Cc} {W : WD} {X : Cx} (s : Sta P w G base T m c W X) {f : Str} {k : Nat} {es : List Expr} {ps : Exs} {q pos : Pos} (hg : isGl c f = true) (hf : c.fs.lookup f = some k) (hl : es.length = k) (hh : c.hot = false) (h : cEs (cE n c) es = some ps) :
    PE X (.Call (.Name f q) es [] pos) (tD G W H0 (ev T ((if c.low = true then Ex.callL f else Ex.call f) ps))) := by
  have hr := s.room hh
  cases hlo : c.low with
  | false =>
    rw [hlo] at hr
    exact call_okG ih s hg (s.fns hlo f k hf) hr hl h
  | true =>
    rw [hlo] at hr
    exact call_okG ih s hg ((s.fnl (s.lw hlo)).2 f k hf) hr hl h
theorem bi_ok {n : Nat} (ih : OkE P w G base T m H0 n) {c : Cc} {W : WD} {X : Cx} (s : Sta P w G base T m c W X) {f : Str} {b : Bi} {a : Expr} {p : Ex} {q pos : Pos} (hg : isGl c f = true) (hf : biOf f = some b) (hs : isStar a = false) (hcs : b = .sum → X.calm = true) (h : cE n c a = some p) :
    PE X (.Call (.Name f q) [a] [] pos) (tD G W H0 (ev T (.bi b p))) := by
  obtain ⟨b1, b2, b3⟩ := bi_boot hf
  obtain ⟨g1, g2, _⟩ := s.gl hg
  exact pe_b1 s.K hcs g1 (s.no b2) b1 b3 g2 (ih c a p h W X s).2 (star_of hs [] X.env)
theorem is_ok {n : Nat} (ih : OkE P w G base T m H0 n) {c : Cc} {W : WD} {X : Cx} (s : Sta P w G base T m c W X) {y : Str} {t : Ty} {a : Expr} {p : Ex} {q py pos : Pos} (hg : isGl c "isinstance" = true) (hy : isGl c y = true) (ht : tyOf y = some t) (hs : isStar a = false) (h : cE n c a = some p) :
    PE X (.Call (.Name "isinstance" q) [a, .Name y py] [] pos) (tD G W H0 (ev T (.isi p t))) := by
  obtain ⟨b1, b2, b3⟩ := ty_boot ht
  obtain ⟨g1, g2, _⟩ := s.gl hg
  obtain ⟨y1, y2, _⟩ := s.gl hy
  exact pe_is (pt := pos) s.K g1 (s.no (by decide +kernel)) (pe_bltn y1 (s.no b2) b1 rfl b3 y2) (ih c a p h W X s).2 (star_of hs _ X.env) rfl rfl
/-- isinstance of the error that is handled -/
theorem call_isx {X : Cx} : CallR X (.builtin "isinstance") (fun xs H Q => ∃ (a D : Addr) (oe : Obj) (c : V) (cv : Value) (b : Bool), xs = [.ref a, c] ∧ (a, oe) ∈ X.pn ∧ ExcC X.K D ∧ Zc (.ref D) none oe ∧ (∃ vs, oe.data = .fields vs) ∧
    ((ClsV c cv ∧ PySem.W.kitOne X.K (.ref D) cv = some b) ∨ ∃ tp cs us, c = .ref tp ∧ H tp = some (.tup cs) ∧ Paired ClsV cs us ∧ PySem.W.kitAny X.K (.ref D) us = some b) ∧ Q (.bl b) H) := by
  intro pins s σ H xs us Q I r h
  obtain ⟨a, D, oe, c, cv, b, rfl, hm, C, hz, ⟨vs, hv⟩, hc, q⟩ := h
  obtain ⟨u1, u2, rfl, r1, r2⟩ := vals2 r
  cases (show u1 = Value.ref a from r1)
  obtain ⟨hget, _⟩ := I.pin (a, oe) (List.mem_append.mpr (.inl hm))
  have J : PySem.W.InstAt s.heap a oe D none := by
    obtain ⟨oc, od, oda, osl⟩ := oe
    obtain ⟨z1, z2⟩ := hz
    dsimp only at z1 z2 hv
    subst z1 z2 hv
    exact ⟨hget, rfl, rfl, trivial⟩
  have Z := PySem.W.handS_kitx_exc (x := a) (ox := oe) C.hg C.hk C.hs C.hd C.ha C.hn C.ht C.hm
  rcases hc with ⟨k, e⟩ | ⟨tp, cs, ws, rfl, hT, k, e⟩
  · have e2 := k.eq r2
    subst e2
    exact PySem.W.kia_one Z I.kIn J e (fun z => nomatch z) fun tk => ⟨.bl b, H, I.tok tk, rfl, q⟩
  · cases (show u2 = Value.ref tp from r2)
    obtain ⟨_, its, rv, o, h1, h2, n, h3⟩ := (show ObjOk X.prog X.w H s.heap tp (.tup cs) from I.hok tp _ hT)
    have e3 := ClsV.all k rv
    subst e3
    obtain ⟨oc, od, dt, sl⟩ := o
    simp only at h2 h3
    subst h2 h3
    exact PySem.W.kia_tup Z I.kIn J h1 e (fun z => nomatch z) fun tk => ⟨.bl b, H, I.tok tk, rfl, q⟩
theorem nam_pe {c : Cc} {W : WD} {X : Cx} (s : Sta P w G base T m c W X) {y : Str} {pos : Pos} {v : V} {u : Value} (hg : isGl c y = true) (h : NamV G y v u) : PE X (.Name y pos) (tC v) := by
  obtain ⟨g1, g2, g3⟩ := s.gl hg
  obtain ⟨k, h | ⟨h1, h2⟩⟩ := h
  · obtain ⟨D, h1, rfl⟩ := h
    exact pe_glob g1 (by rw [s.mg]; exact h1) rfl g2
  · refine pe_bltn g1 (by rw [s.mg]; exact h1) h2 ?_ g3 g2
    cases k <;> rfl
theorem kiAny_cons {c y : Str} {r : List Str} {b : Bool} (h : kiAny T c (y :: r) = some b) : ∃ b1 b2, T.ki c y = some b1 ∧ kiAny T c r = some b2 ∧ b = (b1 || b2) := by
  have h' : (match T.ki c y, kiAny T c r with | some b, some b' => some (b || b') | _, _ => none) = some b := h
  cases e1 : T.ki c y with
  | none => rw [e1] at h'; cases h'
  | some b1 =>
    cases e2 : kiAny T c r with
    | none => rw [e1, e2] at h'; cases h'
    | some b2 => rw [e1, e2] at h'; cases h'; exact ⟨b1, b2, rfl, rfl, rfl⟩
theorem kit_any {K : PySem.W.Frag} {t u : Value} {us : List Value} {b1 b2 : Bool} (h : PySem.W.kitOne K t u = some b1) (hr : PySem.W.kitAny K t us = some b2) : PySem.W.kitAny K t (u :: us) = some (b1 || b2) := by
  refine kitAny_cons h (fun e => ?_) fun e => ?_
  · subst e; exact hr
  · subst e; rfl
/-- the names of a tuple of classes -/
theorem clss_ok {c : Cc} {W : WD} {X : Cx} (s : Sta P w G base T m c W X) : ∀ (ys : List Expr) (zs : List Str), cCls c ys = some zs → ∀ k b, kiAny T k zs = some b →
    ∃ vs us, vs.length = zs.length ∧ PA X ys (fun _ H Q => Q vs H) ∧ Paired ClsV vs us ∧ ∀ C, G.mg k = some (.ref C) → PySem.W.kitAny G.K (.ref C) us = some b
  | [], zs, h, k, b, hb => by
    cases h
    cases hb
    exact ⟨[], [], rfl, pa_nil, .nil, fun _ _ => rfl⟩
  | e :: r, zs, h, k, b, hb => by
    unfold cCls at h
    split at h
    · rename_i q; cases q
    · rename_i y p r' q
      cases q
      split at h
      · rename_i zs' q1 q2
        cases h
        obtain ⟨b1, b2, e1, e2, rfl⟩ := kiAny_cons hb
        obtain ⟨vs, us, i0, i1, i2, i3⟩ := clss_ok s r zs' q2 k b2 e2
        obtain ⟨v, u, n1, n2⟩ := s.kis k y b1 e1
        exact ⟨v :: vs, u :: us, by rw [List.length_cons, List.length_cons, i0], pa_cons (nam_pe s q1 n1) i1 rfl, .cons n1.1 i2, fun C hC => kit_any (n2 C hC) (i3 C hC)⟩
      · cases h
    · cases h
theorem isx_ok {n : Nat} (ih : OkE P w G base T m H0 n) {c : Cc} {W : WD} {X : Cx} (s : Sta P w G base T m c W X) {i : Nat} {a b : Expr} {zs : List Str} {tp : Bool} {q pos : Pos} (hg : isGl c "isinstance" = true) (hs : isStar a = false) (hs2 : isStar b = false) (h : cE n c a = some (.var i))
    (hb : ∀ k r, kiAny T k zs = some r → ∃ tb : TE, PE X b tb ∧ ∀ C σ H (Q : VK), G.mg k = some (.ref C) → (∀ v H1, (H1 = H ∨ ∃ p o, H p = none ∧ H1 = upd H p o) → ((∃ cv, ClsV v cv ∧ PySem.W.kitOne G.K (.ref C) cv = some r) ∨ ∃ tp cs us, v = .ref tp ∧ H1 tp = some (.tup cs) ∧ Paired ClsV cs us ∧ PySem.W.kitAny G.K (.ref C) us = some r) → Q v H1) → tb σ H Q) :
    PE X (.Call (.Name "isinstance" q) [a, b] [] pos) (tD G W H0 (ev T (.isx i zs tp))) := by
  obtain ⟨g1, _, _⟩ := s.gl hg
  have ha := (ih c a _ h W X s).1
  refine ⟨fun pins t σ H Q I ⟨S, ρ, R, z⟩ => ?_⟩
  have z : Post G (fun c => W c σ) H S ((getF ρ i).bind fun x => okB (isxD T x.2 zs)) Q := z
  cases e : getF ρ i with
  | fail => rw [e] at z; exact z.elim
  | exc c => unfold getF at e; split at e <;> cases e
  | ok x =>
    rw [e] at z
    have z : Post G (fun c => W c σ) H S (okB (isxD T x.2 zs)) Q := z
    obtain ⟨b0, d⟩ := x
    cases d with
    | exc k =>
      have z : Post G (fun c => W c σ) H S (okB (match kiAny T k zs with | some b => .ok b | none => .fail)) Q := z
      cases e2 : kiAny T k zs with
      | none => rw [e2] at z; exact z.elim
      | some r =>
        rw [e2] at z
        have zz : ∀ v H' S', Gr H S H' S' → RepO G H H' S' false (.bl r) v → Q v H' := z
        obtain ⟨tb, hbp, hbt⟩ := hb k r e2
        refine (pe_callB (t := tCons (tD G W H0 (ev T (.var i))) (tCons tb tNil)) call_isx g1 (s.no (by decide +kernel)) boot_isinstance (pa_cons ha (pa_cons hbp pa_nil (star_of hs2 [] X.env)) (star_of hs _ X.env)) (by decide) (by decide) (star_of hs _ X.env) (by rw [star_of hs2 [] X.env]; rfl)).run pins t σ H Q I ?_
        refine ⟨S, ρ, R, ?_⟩
        show Post G (fun c => W c σ) H S (getF ρ i) _
        rw [e]
        have b0f : b0 = false := by
          unfold getF at e
          split at e
          · cases e; rfl
          · cases e
        subst b0f
        intro v H1 S1 e1 r1
        have r1 : Rep G H1 S1 (.exc k) v := r1
        cases r1 with
        | exc hx =>
          rename_i a0
          obtain ⟨oe, C, m1, m2, m3, m4, m5⟩ := s.hxs a0 k hx
          have m3' : ExcC X.K C := by rw [s.K]; exact m3
          refine hbt C σ H1 _ m2 fun v2 H2 hh hq => ?_
          have q : Q (.bl r) H2 := by
            rcases hh with rfl | ⟨p, o, hp, rfl⟩
            · exact zz (.bl r) _ S1 e1 (.bl r)
            · exact zz (.bl r) _ S1 (e1.trans (Gr.laid hp)) (.bl r)
          rcases hq with ⟨cv, c1, c2⟩ | ⟨tp, cs, us, c0, c1, c2, c3⟩
          · exact ⟨a0, C, oe, v2, cv, r, rfl, m1, m3', m4, m5, .inl ⟨c1, by rw [s.K]; exact c2⟩, q⟩
          · exact ⟨a0, C, oe, v2, .none, r, rfl, m1, m3', m4, m5, .inr ⟨tp, cs, us, c0, c1, c2, by rw [s.K]; exact c3⟩, q⟩
    | _ => exact z.elim
theorem gl_ok {c : Cc} {W : WD} {X : Cx} (s : Sta P w G base T m c W X) {x : Str} {pos : Pos} (hg : isGl c x = true) (hx : x ∈ c.mo.gs) : PE X (.Name x pos) (tD G W H0 (ev T (.gl x))) := by
  obtain ⟨g1, g2, _⟩ := s.gl hg
  cases z : T.gl x with
  | none =>
    refine ⟨fun pins sh σ H Q I ⟨S, ρ, R, p⟩ => ?_⟩
    have p : Post G (fun c => W c σ) H S (match T.gl x with | some d => okF d | none => .fail) Q := p
    rw [z] at p
    exact p.elim
  | some d =>
    obtain ⟨u, v, h1, h2, h3⟩ := s.mo.gls x hx d (by rw [← s.tgl]; exact z)
    have e : (ev T (.gl x)) = fun ρ => okF d := by
      funext ρ
      show (match T.gl x with | some d => okF d | none => .fail) = okF d
      rw [z]
    rw [e]
    exact pe_lit (pe_glob g1 (by rw [s.mg]; exact h1) h2 g2) h3
theorem co_ok {n : Nat} (ihE : OkE P w G base T m H0 n) (ihT : OkT P w G base T m H0 n) (ihI : OkI P w G base T m H0 n) {c : Cc} {W : WD} {X : Cx} (s : Sta P w G base T m c W X) {elt tg iter : Expr} {ifs : List Expr} {scope : Scope} {pos : Pos} {t : Tg} {it : Is} {k : Tes} {p : Ex}
    (hb2 : (blkC c.N c.sc scope (ownOf c.N scope) && !c.hot) = true) (ht : cTg { c with sc := relS scope c.sc, top := false, gen := false } tg = some t) (hi : cI n c iter = some it)
    (hk : (match ifs with | [] => some Tes.nil | [t] => (cT n { c with sc := relS scope c.sc, top := false, gen := false } t).map Tes.one | _ => none) = some k) (hp : cE n { c with sc := relS scope c.sc, top := false, gen := false } elt = some p)
    (hsl : t.sl.all (fun i => decide (i ∈ (ownOf c.N scope).map (·.2))) = true) (hset : isSet iter = false) :
    (∀ σ H Q, tD G W H0 (ev T (.comp t ((ownOf c.N scope).map (·.2)) it k p)) σ H Q → tLc (tI G W H0 (evi T it)) (gOf G.K t) (tT G (fun _ _ _ => False) H0 (evc T k)) (tD G (fun _ _ _ => False) H0 (ev T p)) ((ownOf c.N scope).map (·.2)) σ H Q) ∧
    PI X tg iter (tI G W H0 (evi T it)) ∧ BlkOk X.N X.env.scope scope (ownOf c.N scope) ∧
    (∀ (sh : Shared) (H : Hp) (C : Addr) (cl : List (Str × Addr)) (fp : List Addr), PG (X.blk sh H scope (compEnvC scope cl C X.env) fp) tg (gOf G.K t)) ∧
    (∀ (sh : Shared) (H : Hp) (C : Addr) (cl : List (Str × Addr)) (fp : List Addr), PTs (X.blk sh H scope (compEnvC scope cl C X.env) fp) ifs (tT G (fun _ _ _ => False) H0 (evc T k))) ∧
    (∀ (sh : Shared) (H : Hp) (C : Addr) (cl : List (Str × Addr)) (fp : List Addr), PE (X.blk sh H scope (compEnvC scope cl C X.env) fp) elt (tD G (fun _ _ _ => False) H0 (ev T p))) := by
  have h1 : PI X tg iter (tI G W H0 (evi T it)) := ihI c iter it hi W X tg s
  have hb := (Bool.and_eq_true_iff.mp hb2).1
  have hh : c.hot = false := by have := (Bool.and_eq_true_iff.mp hb2).2; simpa using this
  have h2 : BlkOk X.N X.env.scope scope (ownOf c.N scope) := by rw [s.N, s.sc]; exact blkOk_by hb
  have h3 : ∀ (sh : Shared) (H : Hp) (C : Addr) (cl : List (Str × Addr)) (fp : List Addr), PG (X.blk sh H scope (compEnvC scope cl C X.env) fp) tg (gOf G.K t) := fun sh H C cl fp => (s.blk hh sh H scope cl C fp).tg ht
  have h5 : ∀ (sh : Shared) (H : Hp) (C : Addr) (cl : List (Str × Addr)) (fp : List Addr), PE (X.blk sh H scope (compEnvC scope cl C X.env) fp) elt (tD G (fun _ _ _ => False) H0 (ev T p)) := fun sh H C cl fp => (ihE _ _ _ hp _ _ (s.blk hh sh H scope cl C fp)).1
  have h4 : ∀ (sh : Shared) (H : Hp) (C : Addr) (cl : List (Str × Addr)) (fp : List Addr), PTs (X.blk sh H scope (compEnvC scope cl C X.env) fp) ifs (tT G (fun _ _ _ => False) H0 (evc T k)) := fun sh H C cl fp => by
    match ifs, hk with
    | [], hk =>
      cases hk
      exact ⟨fun pins s σ H Q I ⟨S, ρ, R, p⟩ => pts_nil.run pins s σ H Q I (p H S (Gr.refl _ _))⟩
    | [u], hk =>
      have hk' : (cT n { c with sc := relS scope c.sc, top := false, gen := false } u).map Tes.one = some k := hk
      cases q : cT n { c with sc := relS scope c.sc, top := false, gen := false } u with
      | none => rw [q] at hk'; cases hk'
      | some v =>
        rw [q] at hk'
        cases hk'
        exact pts_one (ihT _ _ _ q _ _ (s.blk hh sh H scope cl C fp))
  refine ⟨?_, h1, h2, h3, h4, h5⟩
  exact pe_co (pos := pos) s.K (s.calm hh) s.nd h1 h2 (fun i hi => of_decide_eq_true (List.all_eq_true.mp hsl i hi)) h3 h4 h5
theorem cI_set {n : Nat} {c : Cc} {e : Expr} {p : Is} (h : cI n c e = some p) : isSet e = false := by
  cases n with
  | zero => cases h
  | succ n =>
    cases e with
    | Set a b d =>
      have h' : (match isSet (.Set a b d) with | false => (cE n c (.Set a b d)).map Is.seq | true => none) = some p := h
      cases h'
    | _ => rfl
theorem tru_b {W : Str → Hp → Prop} {H : Hp} {S : Sy} {r : Res Bool} {Q : Bool → Hp → Prop} (p : PostV W H S ((sndR (okB r)).bind D.tru) Q) : PostV W H S r Q := by
  cases r with
  | ok b => exact p
  | exc c => exact p
  | fail => exact p
theorem tst_ok {W : Str → Hp → Prop} {H : Hp} {S : Sy} {ra rb : Res D} {o : CmpOp} {Q : Bool → Hp → Prop} (p : PostV W H S ((sndR (ra.bind fun x => rb.bind fun y => okB (cmpD o x y))).bind D.tru) Q) : PostV W H S (ra.bind fun x => rb.bind fun y => cmpD o x y) Q := by
  cases ra with
  | fail => exact p
  | exc c => exact p
  | ok x =>
    cases rb with
    | fail => exact p
    | exc c => exact p
    | ok y => exact tru_b (r := cmpD o x y) p
theorem tst_ok2 {W : Str → Hp → Prop} {H : Hp} {S : Sy} {ra rb rc : Res D} {o o' : CmpOp} {Q : Bool → Hp → Prop} (p : PostV W H S ((sndR (ra.bind fun x => rb.bind fun y => (cmpD o x y).bind fun k => if k = true then rc.bind fun z => okB (cmpD o' y z) else okF (.bl false))).bind D.tru) Q) :
    PostV W H S (ra.bind fun x => rb.bind fun y => (cmpD o x y).bind fun k => if k = true then rc.bind fun z => cmpD o' y z else .ok false) Q := by
  cases ra with
  | fail => exact p
  | exc c => exact p
  | ok x =>
    cases rb with
    | fail => exact p
    | exc c => exact p
    | ok y =>
      have p : PostV W H S ((sndR ((cmpD o x y).bind fun k => if k = true then rc.bind fun z => okB (cmpD o' y z) else okF (.bl false))).bind D.tru) Q := p
      show PostV W H S ((cmpD o x y).bind fun k => if k = true then rc.bind fun z => cmpD o' y z else .ok false) Q
      cases z : cmpD o x y with
      | fail => rw [z] at p; exact p
      | exc c => rw [z] at p; exact p
      | ok k =>
        rw [z] at p
        cases k with
        | false => exact p
        | true =>
          cases rc with
          | fail => exact p
          | exc c => exact p
          | ok z => exact tru_b (r := cmpD o' y z) p
theorem run_RA {X : Cx} {pins : List (Addr × Obj)} {σ : L2.St} {H : Hp} {s : Shared} {CX : CXT} {k : Nat} {f : Addr} {sp : Sp} {E : XK} {Q : VK} {us : List Value} {vs : List V} (F : FnR X.prog X.w X.K X.mg X.base CX k f sp) (hr : Room k X.A) (hx : PassesAt CX X σ E) (I : Inv X pins σ H s) (r : Vals vs us)
    (h : sp vs H Q E) : codeAny (model X.prog X.w) X.A (.call (.ref f) ⟨us, []⟩) (fun r s' => match r with | .ok (.ret v) => EP X pins σ Q v s' | .ok _ => False | .error e => X.xe e s') s :=
  codeAny_mono (F X.A X.stack s H us vs Q E hr I.env0 r h) fun
    | .error e, s', hq => hx pins H s e s' I hq
    | .ok (.ret u), s', hq => I.after hq
    | .ok .next, _, hq => hq.elim
    | .ok .brk, _, hq => hq.elim
    | .ok .cont, _, hq => hq.elim
theorem star_ok {n : Nat} (ih : OkE P w G base T m H0 n) {c : Cc} {W : WD} {X : Cx} (s : Sta P w G base T m c W X) {f : Str} {i : Nat} {a : Expr} {p : Ex} {q sq pos : Pos} (hh : c.hot = false) (hlo : c.low = false) (hf : slotOf c f = some i) (h : cE n c a = some p) :
    PE X (.Call (.Name f q) [.Starred a sq] [] pos) (tD G W H0 (ev T (.star i p))) := by
  refine ⟨fun pins t σ H Q I ⟨S, ρ, R, z⟩ => ?_⟩
  have z : Post G (fun c => W c σ) H S ((getF ρ i).bind fun f => starD T f.2 (bor p ρ (ev T p ρ))) Q := z
  cases e : getF ρ i with
  | fail => rw [e] at z; exact z.elim
  | exc c => unfold getF at e; split at e <;> cases e
  | ok x =>
    rw [e] at z
    have e2 : ∃ d, ρ[i]? = some (some (false, d)) ∧ x = (false, d) := by
      unfold getF at e
      split at e
      · cases e; exact ⟨_, by assumption, rfl⟩
      · cases e
    obtain ⟨d, e3, rfl⟩ := e2
    obtain ⟨v, hv, hr⟩ := R.slot i false d e3
    have z : Post G (fun c => W c σ) H S (starD T d (bor p ρ (ev T p ρ))) Q := z
    cases d with
    | fn g =>
      obtain ⟨c1, z⟩ := Post.ite z
      obtain ⟨⟨k, va⟩, hk⟩ := Option.isSome_iff_exists.mp c1
      obtain ⟨fa, m1, F, kp⟩ := s.fnv hlo g k va hk
      have hr : Rep G H S (.fn g) v := hr
      cases hr with
      | fn m2 =>
        rw [m1] at m2
        cases m2
        refine wpAny_Call_Name_kw (thn ((s.var (pos := q) hf).run pins t σ H (fun v H1 => v = .ref fa ∧ H1 = H) I ⟨.ref fa, hv, rfl, rfl⟩) fun u s1 ⟨v, H1, I1, r1, q1⟩ => ?_)
        obtain ⟨e5, e6⟩ := q1
        subst e5
        rw [e6] at I1
        cases r1
        have rd : tB G W H0 (fun ρ => bor p ρ (ev T p ρ)) σ H (fun y H1 => ∃ b xs, y = V.ref b ∧ (SqT X.K H1 b xs ∨ SqL X.K H1 b xs) ∧ spV G k va (T.fn g) xs H1 Q (WE (wOf G W) σ)) := by
          refine ⟨S, ρ, R, mkB rdD z fun d z v H1 S1 e1 l1 => ?_⟩
          have fin : ∀ ds xs b, v = V.ref b → (SqT X.K H1 b xs ∨ SqL X.K H1 b xs) → Paired (Rep G H1 S1) ds xs → Post G (fun c => W c σ) H S (if arOk (T.ar g) ds.length = true then T.fn g ds else .fail) Q →
              ∃ b xs, v = V.ref b ∧ (SqT X.K H1 b xs ∨ SqL X.K H1 b xs) ∧ spV G k va (T.fn g) xs H1 Q (WE (wOf G W) σ) := fun ds xs b ev hs hp z => by
            obtain ⟨c2, z⟩ := Post.ite z
            rw [hk, Paired.length hp] at c2
            exact ⟨b, xs, ev, hs, c2, S1, ds, (R.gr e1).dom, hp, (Post.gr e1 z).weak fun c H' w a ha => ⟨c, a, rfl, ha, rfl, w⟩⟩
          cases d with
          | lst ds =>
            obtain ⟨b, xs, ev, hs, hp⟩ := l1.lst s.K
            exact fin ds xs b ev (.inr hs) hp z
          | tup ds =>
            obtain ⟨b, xs, ev, hs, hp⟩ := l1.tup
            exact fin ds xs b ev (.inl (by rw [s.K]; exact hs.sq)) hp z
          | _ => exact z.elim
        refine PySem.W.callWith_S (h₀ := X.base) I.ok.mod.kin (by rw [s.K]; exact kp) (thn (((ih c a p h W X s).2).run pins s1 σ _ _ I1 rd) fun v s2 ⟨y, H1, I2, ry, b, xs, ey, hs, q2⟩ => ?_) rfl
        subst ey
        obtain rfl : v = Value.ref b := ry
        refine StX.star_any I2 hs fun us s3 I3 rv => ⟨I3.kIn, wpAny_call (run_RA ?_ (by have hr := s.room hh; rw [hlo] at hr; exact hr) (passAt s.tk σ) I3 rv q2)⟩
        rw [s.eP, s.ew, s.K, s.mg, s.eb]
        exact F
    | _ => exact z.elim
theorem m1_ok {n : Nat} (ih : OkE P w G base T m H0 n) {c : Cc} {W : WD} {X : Cx} (s : Sta P w G base T m c W X) {a b : Expr} {k : M1} {mm : Str} {p q : Ex} {apos pos : Pos} (hm : mOf mm = some k) (hc : (noSup a && (apos.endLine == pos.line) && !isStar b) = true) (ha : cE n c a = some p) (hb : cE n c b = some q) :
    PE X (.Call (.Attribute a mm apos) [b] [] pos) (tD G W H0 (ev T (.m1 k p q))) := by
  rw [Bool.and_eq_true, Bool.and_eq_true] at hc
  have hs : isStar b = false := by simpa using hc.2
  unfold mOf at hm
  split at hm
  · cases hm
    rename_i e
    subst e
    exact pe_m1c s.K hc.1.1 hc.1.2 (star_of hs [] X.env) (ih c a p ha W X s).2 (ih c b q hb W X s).2
  · cases hm
theorem lset_ok {n : Nat} (ih : OkE P w G base T m H0 n) {c : Cc} {W : WD} {X : Cx} (s : Sta P w G base T m c W X) {f g : Str} {a : Expr} {p : Ex} {q q2 p2 pos : Pos} (hg : isGl c f = true) (hc : (f == ("len" : Str) && g == ("set" : Str) && isGl c g && (c.fs.lookup g).isNone && !isStar a && !c.hot) = true) (ha : cE n c a = some p) :
    PE X (.Call (.Name f q) [.Call (.Name g q2) [a] [] p2] [] pos) (tD G W H0 (ev T (.lenset p))) := by
  rw [Bool.and_eq_true, Bool.and_eq_true, Bool.and_eq_true, Bool.and_eq_true, Bool.and_eq_true] at hc
  obtain ⟨⟨⟨⟨⟨h1, h2⟩, h3⟩, h4⟩, h5⟩, h6⟩ := hc
  have e1 := eq_of_beq h1
  have e2 := eq_of_beq h2
  subst e1 e2
  exact pe_lset s.K (s.calm (by simpa using h6)) (s.gl hg).1 (s.no (by decide +kernel)) (s.gl h3).1 (s.no (by decide +kernel)) (ih c a p ha W X s).2 (star_of (by simpa using h5) [] X.env)
theorem gen_ok {n : Nat} (ihE : OkE P w G base T m H0 n) (ihI : OkI P w G base T m H0 n) {c : Cc} {W : WD} {X : Cx} (s : Sta P w G base T m c W X) {f : Str} {b : Bool} {elt tg iter : Expr} {scope : Scope} {t : Tg} {it : Is} {p : Ex} {q gpos pos : Pos} (hg : isGl c f = true) (hb : gnOf f = some b)
    (hc : (c.gen && blkC c.N c.sc scope (ownOf c.N scope) && gsC scope && gfC iter) = true) (ht : cTg { c with sc := scope, top := false, low := true, gen := false } tg = some t) (hi : cI n c iter = some it) (hp : cE n { c with sc := scope, top := false, low := true, gen := false } elt = some p)
    (hsl : t.sl.all (fun i => decide (i ∈ (ownOf c.N scope).map (·.2))) = true) :
    PE X (.Call (.Name f q) [.GeneratorExp elt [⟨tg, iter, [], 0⟩] scope gpos] [] pos) (tD G W H0 (ev T (.gen b t ((ownOf c.N scope).map (·.2)) it p))) := by
  rw [Bool.and_eq_true, Bool.and_eq_true, Bool.and_eq_true] at hc
  obtain ⟨⟨⟨h1, h2⟩, h3⟩, h4⟩ := hc
  obtain ⟨g1, g2, ca, Pt, g3, g4, g5⟩ := s.gen h1
  have bo : BlkOk X.N X.env.scope scope (ownOf c.N scope) := by rw [s.N, s.sc]; exact blkOk_by h2
  have hm : ∀ x ∈ bnames, X.mg x = none := fun x hx => s.no hx
  have hr : X.A.depth < recursionLimit := by
    have r := s.room g1
    have := r.dp
    omega
  have TB : GxR.TabB X.base X.mg ca Pt := by rw [s.eb, s.mg]; exact g4
  refine ⟨fun pins st σ H Q I h => ?_⟩
  obtain ⟨S, ρ, R, h⟩ := h
  have h : Post G (fun c => W c σ) H S (if T.gok = true then (evi T it ρ).bind fun ds => okB (genL b (fun d => noX ((bindT t d (wipeE ρ ((ownOf c.N scope).map (·.2)))).bind fun ρ' => blR (ev T p ρ'))) ds) else .fail) Q := h
  obtain ⟨gk, h⟩ := Post.ite h
  have pg : ∀ (A' : Around) (sh : Shared) (H : Hp) (C : Addr) (code : Value) (fp : List Addr), Hg.ArG X A' → PG (Hg.Gx X A' sh H (Hg.gEnv X scope C code) fp) tg (gOf G.K t) := fun A' sh H C code fp ar => (s.gx h1 gk scope ar sh H C code fp).tg ht
  have pe : ∀ (A' : Around) (sh : Shared) (H : Hp) (C : Addr) (code : Value) (fp : List Addr), Hg.ArG X A' → PE (Hg.Gx X A' sh H (Hg.gEnv X scope C code) fp) elt (tD G (fun _ _ _ => False) H0 (ev T p)) := fun A' sh H C code fp ar => (ihE _ _ _ hp _ _ (s.gx h1 gk scope ar sh H C code fp)).1
  have q := gen_of (G := G) (W := W) (H0 := H0) (b := b) (P := Pt) (t := t) (fi := evi T it) (fe := ev T p) (vs := (ownOf c.N scope).map (·.2)) g3 (fun i hi => of_decide_eq_true (List.all_eq_true.mp hsl i hi)) (σ := σ) (H := H) (Q := Q) ⟨S, ρ, R, h⟩
  unfold gnOf at hb
  by_cases e1 : f = ("all" : Str)
  · rw [if_pos e1] at hb
    cases hb
    subst e1
    exact (Hg.pe_all (s.gl hg).1 (hm _ (by decide +kernel)) (s.calm g1) hr s.nd TB g5 bo (gsC_ok h3) (ihI c iter it hi W X tg s) pg pe (gfC_ok h4 X.env)).run pins st σ H Q I q
  · rw [if_neg e1] at hb
    by_cases e2 : f = ("any" : Str)
    · rw [if_pos e2] at hb
      cases hb
      subst e2
      exact (Hg.pe_any (s.gl hg).1 (hm _ (by decide +kernel)) (s.calm g1) hr s.nd TB g5 bo (gsC_ok h3) (ihI c iter it hi W X tg s) pg pe (gfC_ok h4 X.env)).run pins st σ H Q I q
    · rw [if_neg e2] at hb
      cases hb
theorem dcomp_ok {n : Nat} (ihE : OkE P w G base T m H0 n) (ihT : OkT P w G base T m H0 n) (ihI : OkI P w G base T m H0 n) {c : Cc} {W : WD} {X : Cx} (s : Sta P w G base T m c W X) {kx vx tg iter : Expr} {ifs : List Expr} {scope : Scope} {pos : Pos} {t : Tg} {it : Is} {k : Tes} {p q : Ex}
    (hb2 : (blkC c.N c.sc scope (ownOf c.N scope) && !c.hot) = true) (ht : cTg { c with sc := relS scope c.sc, top := false, gen := false } tg = some t) (hi : cI n c iter = some it)
    (hk : (match ifs with | [] => some Tes.nil | [t] => (cT n { c with sc := relS scope c.sc, top := false, gen := false } t).map Tes.one | _ => none) = some k) (hp : cE n { c with sc := relS scope c.sc, top := false, gen := false } kx = some p)
    (hq : cE n { c with sc := relS scope c.sc, top := false, gen := false } vx = some q) (hsl : t.sl.all (fun i => decide (i ∈ (ownOf c.N scope).map (·.2))) = true) :
    PE X (.DictComp kx vx [⟨tg, iter, ifs, 0⟩] scope pos) (tD G W H0 (ev T (.dcomp t ((ownOf c.N scope).map (·.2)) it k p q))) := by
  have hh : c.hot = false := by have := (Bool.and_eq_true_iff.mp hb2).2; simpa using this
  obtain ⟨_, k2, k3, k4, k5, k6⟩ := co_ok (H0 := H0) ihE ihT ihI s (pos := ⟨0, 0, 0, 0⟩) hb2 ht hi hk hp hsl (cI_set hi)
  have k7 : ∀ (sh : Shared) (H : Hp) (C : Addr) (cl : List (Str × Addr)) (fp : List Addr), PE (X.blk sh H scope (compEnvC scope cl C X.env) fp) vx (tD G (fun _ _ _ => False) H0 (ev T q)) := fun sh H C cl fp => (ihE _ _ _ hq _ _ (s.blk hh sh H scope cl C fp)).1
  exact (pe_dc (s.calm hh) s.nd k2 k3 k4 k5 k6 k7 (sw_no (cI_set hi) X.env)).im fun σ H Q h => dc_of (fun i hi => of_decide_eq_true (List.all_eq_true.mp hsl i hi)) h
theorem ok_all : ∀ n, OkE P w G base T m H0 n ∧ OkT P w G base T m H0 n ∧ OkI P w G base T m H0 n
  | 0 => ⟨fun _ _ _ h => (nomatch h), fun _ _ _ h => (nomatch h), fun _ _ _ h => (nomatch h)⟩
  | n + 1 => by
    obtain ⟨ihE, ihT, ihI⟩ := ok_all n
    refine ⟨fun c e p h W X s => ?_, fun c e p h W X s => ?_, fun c e p h W X tg s => ?_⟩
    · unfold cE at h
      split at h
      · cases h; exact both (fun _ z => by cases z) (pe_lit pe_int fun _ _ => .int _)
      · cases h; exact both (fun _ z => by cases z) (pe_lit pe_bl fun _ _ => .bl _)
      · cases h; exact both (fun _ z => by cases z) (pe_lit pe_str fun _ _ => .str _)
      · cases h; exact both (fun _ z => by cases z) (pe_lit pe_non fun _ _ => .non)
      · split at h
        · rename_i i q
          cases h
          exact ⟨pe_getF (s.var q), pe_getO (s.var q)⟩
        · split at h
          · rename_i q
            cases h
            exact both (fun _ z => by cases z) (gl_ok s q.1 q.2)
          · cases h
      · split at h
        · rename_i q1 q2
          cases h
          exact both (fun _ z => by cases z) (pe_bin s.K (ihE _ _ _ q1 W X s).2 (ihE _ _ _ q2 W X s).2)
        · cases h
      · rename_i a _
        cases q : cE n c a with
        | none => rw [q] at h; cases h
        | some a' =>
          rw [q] at h
          cases h
          exact both (fun _ z => by cases z) (pe_ng (ihE _ _ _ q W X s).2)
      · rename_i a _
        cases q : cE n c a with
        | none => rw [q] at h; cases h
        | some a' =>
          rw [q] at h
          cases h
          exact both (fun _ z => by cases z) (pe_no s.K (ihE _ _ _ q W X s).2)
      · split at h
        · rename_i q0 q1 q2
          cases h
          exact both (fun _ z => by cases z) (pe_cm s.K s.wG s.units (mark_of _ q0) (ihE _ _ _ q1 W X s).2 (ihE _ _ _ q2 W X s).2)
        · cases h
      · split at h
        · rename_i q0 q00 q1 q2 q3
          cases h
          exact both (fun _ z => by cases z) (pe_ch s.K s.wG s.units (marks_of _ _ _ q00) (ihE _ _ _ q1 W X s).2 (ihE _ _ _ q2 W X s).2 (ihE _ _ _ q3 W X s).2)
        · cases h
      · obtain ⟨h1, h2⟩ := cBo_ok ihE s true _ p h
        exact both (fun i z => by have := h2 i z; simp at this) h1
      · obtain ⟨h1, h2⟩ := cBo_ok ihE s false _ p h
        exact both (fun i z => by have := h2 i z; simp at this) h1
      · split at h
        · rename_i q1 q2 q3
          cases h
          exact both (fun _ z => by cases z) (pe_if (ihT _ _ _ q1 W X s) (ihE _ _ _ q2 W X s).1 (ihE _ _ _ q3 W X s).1)
        · cases h
      · rename_i es _ _
        cases q : cEsT (cE n c) es with
        | none => rw [q] at h; cases h
        | some a' =>
          rw [q] at h
          cases h
          exact both (fun _ z => by cases z) (pe_tu (cEsT_ok ihE s _ _ q))
      · rename_i es _
        cases q : cEsT (cE n c) es with
        | none => rw [q] at h; cases h
        | some a' =>
          rw [q] at h
          cases h
          exact both (fun _ z => by cases z) (pe_li (cEsT_ok ihE s _ _ q))
      · rename_i a lo hi _ _
        have pp : ∀ (o : Option Expr) (l : Exo), (match o with | none => some Exo.none | some l => (cE n c l).map Exo.some) = some l → PO X o (tO G W H0 (evo T l)) := fun o l q => by
          cases o with
          | none => cases q; exact po_no
          | some e =>
            have q' : (cE n c e).map Exo.some = some l := q
            cases z : cE n c e with
            | none => rw [z] at q'; cases q'
            | some e' => rw [z] at q'; cases q'; exact po_so (ihE _ _ _ z W X s).2
        split at h
        · rename_i q1 q2 q3
          cases h
          exact both (fun _ z => by cases z) (pe_sl s.K (ihE _ _ _ q1 W X s).2 (pp _ _ q2) (pp _ _ q3))
        · cases h
      · split at h
        · rename_i q0 q1 q2
          cases h
          exact both (fun _ z => by cases z) (pe_id s.K s.wG s.units (plainIx_of q0) (ihE _ _ _ q1 W X s).2 (ihE _ _ _ q2 W X s).2)
        · cases h
      · split at h
        · split at h
          · split at h
            · rename_i q0 q1 q2
              split at h
              · cases h
              · rename_i hlo
                cases h
                exact both (fun _ z => by cases z) (star_ok ihE s q0 (by simpa using hlo) q1 q2)
            · cases h
          · cases h
        · rename_i hg
          split at h
          · rename_i k hf
            split at h
            · rename_i hl
              rename_i es _ _ _
              cases q : cEs (cE n c) es with
              | none => rw [q] at h; cases h
              | some ps =>
                rw [q] at h
                obtain rfl := Option.some.inj h
                refine both (fun _ z => ?_) (call_ok ihE s hg hf hl.1 hl.2 q)
                cases hlo : c.low <;> rw [hlo] at z <;> cases z
            · cases h
          · split at h
            · rename_i hn
              subst hn
              split at h
              · split at h
                · rename_i q0 q1 q2
                  cases h
                  rw [Bool.and_eq_true] at q0
                  exact both (fun _ z => by cases z) (is_ok ihE s hg q0.1 q2 (eq_of_beq q0.2) q1)
                · rename_i i q0 q1 q2
                  cases h
                  rw [Bool.and_eq_true] at q0
                  refine both (fun _ z => by cases z) (isx_ok ihE s hg (eq_of_beq q0.2) rfl q1 fun k r hr => ?_)
                  obtain ⟨b1, b2, e1, e2, rfl⟩ := kiAny_cons hr
                  cases e2
                  obtain ⟨v, u, n1, n2⟩ := s.kis k _ b1 e1
                  exact ⟨_, nam_pe s q0.1 n1, fun C σ H Q hC hq => hq v H (.inl rfl) (.inl ⟨u, n1.1, by rw [Bool.or_false]; exact n2 C hC⟩)⟩
                · cases h
              · split at h
                · rename_i i zs q0 q1 q2
                  split at h
                  rotate_left
                  · cases h
                  rename_i q3
                  cases h
                  refine both (fun _ z => by cases z) (isx_ok ihE s hg q0 rfl q1 fun k r hr => ?_)
                  obtain ⟨vs, us, i0, i1, i2, i3⟩ := clss_ok s _ zs q2 k r hr
                  exact ⟨_, pe_tup i1, fun C σ H Q hC hq => ⟨by rw [i0, sizeLine_eq]; omega, fun p hp => hq _ _ (.inr ⟨p, _, hp, rfl⟩) (.inr ⟨p, vs, us, rfl, upd_same, i2, i3 C hC⟩)⟩⟩
                · cases h
              · cases h
            · have bi : ∀ f' q9 es' pos', isGl c f' = true → (match biOf f', es' with | some b, [a] => (match isStar a || (c.hot && decide (b = .sum)), cE n c a with | false, some p => some (.bi b p) | _, _ => none) | _, _ => none) = some p → PE X (.Call (.Name f' q9) es' [] pos') (tD G W H0 (ev T p)) ∧ PE X (.Call (.Name f' q9) es' [] pos') (tB G W H0 fun ρ => bor p ρ (ev T p ρ)) := fun f' q9 es' pos' hg h => by
                split at h
                · rename_i b a qb
                  split at h
                  · rename_i q0 q1
                    cases h
                    exact both (fun _ z => by cases z) (bi_ok ihE s hg qb (Bool.or_eq_false_iff.mp q0).1 (fun e => s.calm (by have := (Bool.or_eq_false_iff.mp q0).2; rw [e] at this; simpa using this)) q1)
                  · cases h
                · cases h
              split at h
              · rename_i b elt tg iter scope _ qb
                dsimp only at h
                split at h
                · rename_i q0 q1 q2 q3
                  split at h
                  · rename_i q6
                    cases h
                    exact both (fun _ z => by cases z) (gen_ok ihE ihI s hg qb q0 q1 q2 q3 q6)
                  · cases h
                · cases h
              · split at h
                · rename_i q0 q1
                  cases h
                  exact both (fun _ z => by cases z) (lset_ok ihE s hg q0 q1)
                · exact bi _ _ _ _ hg h
              · exact bi _ _ _ _ hg h
      · split at h
        · rename_i q0 q1 q2 q3
          cases h
          exact both (fun _ z => by cases z) (m1_ok ihE s q0 q1 q2 q3)
        · cases h
      · dsimp only at h
        split at h
        · rename_i q1 q2 q3 q4 q5 q7
          split at h
          · rename_i q6
            cases h
            exact both (fun _ z => by cases z) (dcomp_ok ihE ihT ihI s q1 q2 q3 q4 q5 q7 q6)
          · cases h
        · cases h
      · split at h
        · rename_i q1 q2
          split at h
          · rename_i q3
            cases h
            exact both (fun _ z => by cases z) (dict_ok ihE s q1 q2 q3.1 q3.2.1 q3.2.2.1 q3.2.2.2 fun ρ ds => evs_len _ _ q2 ρ ds)
          · cases h
        · cases h
      · dsimp only at h
        split at h
        · rename_i q1 q2 q3 q4 q5
          split at h
          · rename_i q6
            cases h
            obtain ⟨k1, k2, k3, k4, k5, k6⟩ := co_ok ihE ihT ihI s (pos := ⟨0, 0, 0, 0⟩) q1 q2 q3 q4 q5 q6 (cI_set q3)
            exact both (fun _ z => by cases z) ((pe_lc (s.calm (by have := (Bool.and_eq_true_iff.mp q1).2; simpa using this)) s.nd k2 k3 k4 k5 k6 (sw_no (cI_set q3) X.env)).im k1)
          · cases h
        · cases h
      · cases h
    · unfold cT at h
      split at h
      · exact (cBoT_ok ihT s true _ p h).pt
      · exact (cBoT_ok ihT s false _ p h).pt
      · rename_i a _
        cases q : cT n c a with
        | none => rw [q] at h; cases h
        | some a' => rw [q] at h; cases h; exact pt_no (ihT _ _ _ q W X s)
      · split at h
        · rename_i q0 q1 q2
          cases h
          exact (pt_cm s.K s.wG s.units (mark_of _ q0) (ihE _ _ _ q1 W X s).2 (ihE _ _ _ q2 W X s).2).im fun σ H Q ⟨S, ρ, R, p⟩ => ⟨S, ρ, R, tst_ok p⟩
        · cases h
      · split at h
        · rename_i q0 q00 q1 q2 q3
          cases h
          exact (pt_ch s.K s.wG s.units (marks_of _ _ _ q00) (ihE _ _ _ q1 W X s).2 (ihE _ _ _ q2 W X s).2 (ihE _ _ _ q3 W X s).2).im fun σ H Q ⟨S, ρ, R, p⟩ => ⟨S, ρ, R, tst_ok2 p⟩
        · cases h
      · split at h
        · rename_i q0
          cases q : cE n c e with
          | none => rw [q] at h; cases h
          | some a' => rw [q] at h; cases h; exact pt_tr s.K (ihE _ _ _ q W X s).2 (plain_is q0 X.env)
        · cases h
    · unfold cI at h
      split at h
      · split at h
        · rename_i q0
          rw [Bool.and_eq_true, Bool.and_eq_true] at q0
          obtain ⟨⟨qg, qn⟩, _⟩ := q0
          have qn := of_decide_eq_true qn
          subst qn
          obtain ⟨g1, _, _⟩ := s.gl qg
          have gm := s.no (x := "range") (by decide +kernel)
          split at h
          · split at h
            · rename_i q1 q2
              cases h
              exact pi_r1 g1 gm (ihE _ _ _ q2 W X s).2 (star_of q1 [] X.env)
            · cases h
          · split at h
            · rename_i q1 q2 q3 q4
              cases h
              exact pi_r2 g1 gm (ihE _ _ _ q3 W X s).2 (ihE _ _ _ q4 W X s).2 (by rw [star_of q1, star_of q2]; rfl) (star_of q2 [] X.env)
            · cases h
          · cases h
        · obtain ⟨a', q, e'⟩ := Option.map_eq_some_iff.mp h
          subst e'
          exact pi_sq s.K (ihE _ _ _ q W X s).1
      · split at h
        · rename_i q0
          cases q : cE n c e with
          | none => rw [q] at h; cases h
          | some a' => rw [q] at h; cases h; exact pi_sq s.K (ihE _ _ _ q W X s).1
        · cases h
end
end Hf

/-! Hf9: statements of the small language, what they do. -/
namespace Hf
open PySem PySem.Spec PyProof.Rows L2
set_option autoImplicit false

/-! ### the slots that a term hands on as values -/
def ub (a : Ex) (l : List Nat) : List Nat := match a with
  | .var _ => []
  | _ => l
mutual
def us : Ex → List Nat
  | .lit _ => []
  | .var i => [i]
  | .gl _ => []
  | .bin _ a b => ub a (us a) ++ ub b (us b)
  | .neg a => ub a (us a)
  | .cmp _ a b => ub a (us a) ++ ub b (us b)
  | .chn _ _ a b c => ub a (us a) ++ ub b (us b) ++ ub c (us c)
  | .and a b => us a ++ us b
  | .or a b => us a ++ us b
  | .not a => ub a (us a)
  | .ite c a b => usT c ++ us a ++ us b
  | .tup es => uss es
  | .lst es => uss es
  | .idx a i => ub a (us a) ++ ub i (us i)
  | .slc a lo hi => ub a (us a) ++ uso lo ++ uso hi
  | .call _ es => uss es
  | .bi _ a => ub a (us a)
  | .isi a _ => ub a (us a)
  | .star i a => i :: ub a (us a)
  | .dict _ es => uss es
  | .isx i _ _ => [i]
  | .comp _ _ it c e => usi it ++ usc c ++ us e
  | .gen _ _ _ it e => usi it ++ us e
  | .callL _ es => uss es
  | .dcomp _ _ it c k e => usi it ++ usc c ++ us k ++ us e
  | .lenset a => ub a (us a)
  | .m1 _ a b => ub a (us a) ++ ub b (us b)
def uss : Exs → List Nat
  | .nil => []
  | .cons e es => us e ++ uss es
  | .star e es => ub e (us e) ++ uss es
def uso : Exo → List Nat
  | .none => []
  | .some e => ub e (us e)
def usT : Te → List Nat
  | .val e => ub e (us e)
  | .and a b => usT a ++ usT b
  | .or a b => usT a ++ usT b
  | .not a => usT a
def usc : Tes → List Nat
  | .nil => []
  | .one c => usT c
def usi : Is → List Nat
  | .seq e => us e
  | .rng1 hi => ub hi (us hi)
  | .rng2 lo hi => ub lo (us lo) ++ ub hi (us hi)
end
/-- own lists become frozen ones -/
def fz : List Nat → En → En
  | [], ρ => ρ
  | i :: is, ρ => match (fz is ρ)[i]? with
    | some (some x) => (fz is ρ).set i (some (false, x.2))
    | _ => fz is ρ

/-- a part of a sequence's pattern -/
inductive Pp where
  | any | nm (i : Nat) | lit (x : Str)
/-- a case's pattern -/
inductive Pa where
  | any | lit (x : Str) | seq (ps : List Pp)
mutual
inductive St where
  | pass | brk | cnt
  | expr (e : Ex)
  | set (i : Nat) (e : Ex)
  | sets (t : Tg) (e : Ex)
  | aug (i : Nat) (o : Operator) (e : Ex)
  | app (i : Nat) (e : Ex)
  | ext (i : Nat) (e : Ex)
  | pop (t : Tg) (i : Nat)
  | put (i : Nat) (k e : Ex)
  | ret (e : Ex) | retN
  | ifs (c : Te) (a b : Sts)
  | whl (c : Te) (b : Sts)
  | for_ (t : Tg) (it : Is) (b : Sts)
  | raise (x : Str)
  /-- try: b; except cl as i: return (False, f(i)) -/
  | tryW (b : Sts) (cl : Str) (i : Nat) (f : Str)
  | mtc (i : Nat) (cs : Css)
inductive Sts where
  | nil | cons (s : St) (ss : Sts)
/-- cases -/
inductive Css where
  | nil | cons (p : Pa) (b : Sts) (r : Css)
end
/-- where a statement ends -/
inductive Fl where
  | nx (ρ : En) | rt (own : Bool) (d : D) | bk (ρ : En) | ct (ρ : En) | ex (c : Str) (ρ : En) | fail
def Fl.seq (r : Fl) (f : En → Fl) : Fl := match r with
  | .nx ρ => f ρ
  | r => r
/-- a result, in the environment in which it was reckoned -/
def onR {α : Type} (r : Res α) (ρ : En) (f : α → Fl) : Fl := match r with
  | .ok a => f a
  | .exc c => .ex c ρ
  | .fail => .fail
def iopD (o : Operator) (a b : D) : Res (Bool × D) := match o, a, b with
  | .Add, .int i, .int j => okF (.int (i + j))
  | .Sub, .int i, .int j => okF (.int (i - j))
  | .Mult, .int i, .int j => if MulOk i j then okF (.int (i * j)) else .fail
  | .FloorDiv, .int i, .int j => if 0 < j ∧ j < 1073741824 then okF (.int (i / j)) else .fail
  | .Add, .str x, .str y => if x.length + y.length ≤ sizeLine then okF (.str (x ++ y)) else .fail
  | _, _, _ => .fail
def forN (t : Tg) (b : En → Fl) : List D → En → Fl
  | [], ρ => .nx ρ
  | d :: ds, ρ => match bindT t d ρ with
    | .ok ρ1 => (match b ρ1 with
      | .nx ρ2 => forN t b ds ρ2
      | .ct ρ2 => forN t b ds ρ2
      | .bk ρ2 => .nx ρ2
      | r => r)
    | _ => .fail
def whN (c : En → Res Bool) (z : En → En) (b : En → Fl) : Nat → En → Fl
  | 0, _ => .fail
  | n + 1, ρ => onR (c (z ρ)) (z ρ) fun k => if k = true then (match b (z ρ) with
    | .nx ρ2 => whN c z b n ρ2
    | .ct ρ2 => whN c z b n ρ2
    | .bk ρ2 => .nx ρ2
    | r => r) else .nx (z ρ)
def ppD : List Pp → List D → Res (Option (List (Nat × D)))
  | [], [] => .ok (some [])
  | .any :: ps, _ :: ds => ppD ps ds
  | .nm i :: ps, d :: ds => (match ppD ps ds with
    | .ok (some r) => .ok (some ((i, d) :: r))
    | x => x)
  | .lit x :: ps, d :: ds => (match D.eqD d (.str x) with
    | .ok true => ppD ps ds
    | .ok false => .ok none
    | _ => .fail)
  | _, _ => .fail
def paD (p : Pa) (d : D) : Res (Option (List (Nat × D))) := match p with
  | .any => .ok (some [])
  | .lit x => (match D.eqD d (.str x) with
    | .ok true => .ok (some [])
    | .ok false => .ok none
    | _ => .fail)
  | .seq ps => (match d with
    | .tup ds => if ds.length = ps.length then ppD ps ds else .ok none
    | .int _ => .ok none
    | .str _ => .ok none
    | _ => .fail)
def binds : List (Nat × D) → En → En
  | [], ρ => ρ
  | p :: r, ρ => binds r (setE ρ p.1 p.2)
mutual
/-- wf: the most turns of a while -/
def ex (T : Tb) (wf : Nat) : St → En → Fl
  | .pass, ρ => .nx ρ
  | .brk, ρ => .bk ρ
  | .cnt, ρ => .ct ρ
  | .expr e, ρ => onR (ev T e (fz (us e) ρ)) (fz (us e) ρ) fun _ => .nx (fz (us e) ρ)
  | .set i e, ρ => onR (ev T e (fz (us e) ρ)) (fz (us e) ρ) fun x => .nx ((fz (us e) ρ).set i (some x))
  | .sets t e, ρ => onR (ev T e (fz (us e) ρ)) (fz (us e) ρ) fun x => (match bindT t x.2 (fz (us e) ρ) with
    | .ok ρ' => .nx ρ'
    | _ => .fail)
  | .aug i o e, ρ => onR (getO ρ i) ρ fun a => onR (ev T e (fz (us e) ρ)) (fz (us e) ρ) fun b => onR (iopD o a.2 b.2) ρ fun x => .nx ((fz (us e) ρ).set i (some x))
  | .app i e, ρ => onR (getO (fz (us e) ρ) i) ρ fun a => (match a with
    | (true, .lst ds) => onR (ev T e (fz (us e) ρ)) (fz (us e) ρ) fun b => if ds.length < sizeLine then .nx ((fz (us e) ρ).set i (some (true, .lst (ds ++ [b.2])))) else .fail
    | _ => .fail)
  | .ext i e, ρ => onR (getO (fz (us e) ρ) i) ρ fun a => (match a with
    | (true, .lst ds) => onR (ev T e (fz (us e) ρ)) (fz (us e) ρ) fun b => (match b.2 with
      | .tup es => if ds.length + es.length ≤ sizeLine then .nx ((fz (us e) ρ).set i (some (true, .lst (ds ++ es)))) else .fail
      | .lst es => if ds.length + es.length ≤ sizeLine then .nx ((fz (us e) ρ).set i (some (true, .lst (ds ++ es)))) else .fail
      | _ => .fail)
    | _ => .fail)
  | .pop t i, ρ => onR (getO ρ i) ρ fun a => (match a with
    | (true, .lst ds) => (match ds[ds.length - 1]? with
      | some d => (match bindT t d (ρ.set i (some (true, .lst ds.dropLast))) with
        | .ok ρ' => .nx ρ'
        | _ => .fail)
      | none => .fail)
    | _ => .fail)
  | .put i k e, ρ => onR (getO (fz (us e ++ us k) ρ) i) ρ fun a => (match a with
    | (true, .lst ds) => onR (ev T e (fz (us e ++ us k) ρ)) (fz (us e ++ us k) ρ) fun b => onR (ev T k (fz (us e ++ us k) ρ)) (fz (us e ++ us k) ρ) fun j => (match j.2 with
      | .int j => (match ixN ds.length j with
        | some n => .nx ((fz (us e ++ us k) ρ).set i (some (true, .lst (ds.set n b.2))))
        | none => .fail)
      | _ => .fail)
    | _ => .fail)
  | .ret e, ρ => (match e with
    | .var i => onR (getO ρ i) ρ fun x => .rt x.1 x.2
    | e => onR (ev T e (fz (us e) ρ)) (fz (us e) ρ) fun x => .rt x.1 x.2)
  | .retN, _ => .rt false .non
  | .ifs c a b, ρ => onR (evT T c (fz (usT c) ρ)) (fz (usT c) ρ) fun k => if k = true then exs T wf a (fz (usT c) ρ) else exs T wf b (fz (usT c) ρ)
  | .whl c b, ρ => whN (evT T c) (fz (usT c)) (exs T wf b) wf ρ
  | .for_ t it b, ρ => onR (evi T it (fz (usi it) ρ)) (fz (usi it) ρ) fun ds => forN t (exs T wf b) ds (fz (usi it) ρ)
  | .raise x, ρ => .ex x ρ
  | .tryW b cl i f, ρ => (match exs T wf b ρ with
    | .ex c ρ' => (match T.sub c cl with
      | some true => if i < ρ'.length then (match T.hot f c with
        | some d => .rt false (.tup [.bl false, d])
        | none => .fail) else .fail
      | some false => .ex c ρ'
      | none => .fail)
    | r => r)
  | .mtc i cs, ρ => onR (getF ρ i) ρ fun x => excs T wf cs x.2 ρ
def exs (T : Tb) (wf : Nat) : Sts → En → Fl
  | .nil, ρ => .nx ρ
  | .cons s ss, ρ => (ex T wf s ρ).seq (exs T wf ss)
def excs (T : Tb) (wf : Nat) : Css → D → En → Fl
  | .nil, _, ρ => .nx ρ
  | .cons p b r, d, ρ => (match paD p d with
    | .ok (some bs) => exs T wf b (binds bs ρ)
    | .ok none => excs T wf r d ρ
    | _ => .fail)
end

/-! ### values: op=, extend by a tuple -/
section
variable {X : Cx} {G : Gm}
theorem iop_mulW : OpR X (inplaceOp .Mult) (rI MulOk fun i j => .int (i * j)) := opI fun _ _ _ _ _ _ _ hc q => imul_int q hc.ok
theorem op_iD (o : Operator) : OpR X (inplaceOp o) (rD G (iopD o)) := by
  refine op_pick fun pins s σ H W S x y v u Q dx dy I rx ry dm lx ly p => ?_
  cases dx with
  | int i =>
    cases dy with
    | int j =>
      have ex := lx.int
      have ey := ly.int
      subst ex ey
      cases o with
      | Add => exact iop_add pins s σ H _ _ v u Q I rx ry ⟨i, j, rfl, rfl, p.f (.int _)⟩
      | Sub => exact iop_sub pins s σ H _ _ v u Q I rx ry ⟨i, j, rfl, rfl, p.f (.int _)⟩
      | Mult =>
        obtain ⟨c, p⟩ := Post.ite p
        exact iop_mulW pins s σ H _ _ v u Q I rx ry ⟨i, j, rfl, rfl, c, p.f (.int _)⟩
      | FloorDiv =>
        obtain ⟨c, p⟩ := Post.ite p
        exact iop_fdiv pins s σ H _ _ v u Q I rx ry ⟨i, j, rfl, rfl, c, p.f (.int _)⟩
      | _ => exact False.elim p
    | _ => cases o <;> exact False.elim p
  | str a =>
    cases dy with
    | str b =>
      have ex := lx.str
      have ey := ly.str
      subst ex ey
      cases o with
      | Add =>
        obtain ⟨c, p⟩ := Post.ite p
        exact iop_add_str pins s σ H _ _ v u Q I rx ry ⟨a, b, rfl, rfl, c, p.f (.str _)⟩
      | _ => exact False.elim p
    | _ => cases o <;> exact False.elim p
  | _ => cases o <;> cases dy <;> exact False.elim p
open PySem.AutoSeq1 (wpAny_loadPart') in
theorem list_extend_tupW (l : Addr) (items : Array Value) (n : Nat) (b : Addr) (items2 : Array Value) (n2 : Nat) (dd : Option Addr) (sl : Array (Option Value)) (hs0 : ¬(!items.isEmpty && Builtin.List.listTooLong (items.size + items2.size)) = true) (hs1 : items.size ≤ sizeLine) (hs2 : items.size + items2.size ≤ sizeLine + 1) :
    Meets (Builtin.«list.extend» ⟨[.ref l, .ref b], []⟩) (fun _ R s => s.heap.get? l = some { cls := .type "list", dict := none, data := .seq items n, slots := #[] } ∧ s.heap.get? b = some { cls := .type "tuple", dict := dd, data := .seq items2 n2, slots := sl } ∧ R (.ok (.ret Value.none)) { s with heap := s.heap.update l (Obj.mapSeq fun x => x ++ items2), toks := s.toks }) :=
  .of_wp fun prog w A R s h => by
    obtain ⟨hp, g, d, tk, os⟩ := s; obtain ⟨hl, hb, h⟩ := h; have f1 := AutoSeq1.idx_int; have f2 := AutoSeq1.sub_tuple_tuple; have f3 := AutoSeq1.sub_list_list; have f4 := AutoSeq1.sub_tuple_list; have f5 := AutoSeq1.sub_list_tuple;
    have hz' : (items ++ items2).size ≤ sizeLine + 1 := by rw [Array.size_append]; exact hs2
    wp_walk using (wpAny_updateSeq hl rfl (hz := hs1) (_hz' := hz')), wpAny_loadPart' hl, wpAny_loadPart' hb; exact ⟨_, rfl, h⟩
def rExtT (K : PySem.W.Frag) : V → List V → Hp → VK → Prop := fun x vs H Q => ∃ l b xs zs, x = .ref l ∧ vs = [.ref b] ∧ H l = some (.lst xs) ∧ SqT K H b zs ∧ xs.length + zs.length ≤ sizeLine ∧ Q .non (upd H l (.lst (xs ++ zs)))
theorem mt_extT : MtM X "list.extend" (rExtT X.K) := by
  intro pins s σ H x xs v us Q I rx rv h
  obtain ⟨l, b, xs, zs, rfl, rfl, hH, hB, hz, q⟩ := h
  cases rx
  obtain ⟨u, rfl, ru⟩ := rv.one
  cases ru
  obtain ⟨z, its, n, r, hl, e⟩ := I.lstM hH
  obtain ⟨its2, r2, ⟨⟨cls, dd, data, sl⟩, ho, hc, n2, hd⟩, _⟩ := I.tuple hB
  simp only at hc hd
  subst hc hd
  have hl2 := r2.length
  have hsz : its.toArray.size + its2.toArray.size ≤ sizeLine := by rw [List.size_toArray, List.size_toArray]; omega
  have hlong : ¬ (!its.toArray.isEmpty && Builtin.List.listTooLong (its.toArray.size + its2.toArray.size)) = true := by
    rw [notLongL hsz, Bool.and_false]
    exact Bool.false_ne_true
  refine call_meets F.slot_list_extend ⟨_, e, rfl⟩ F.entry_list_extend (F.args_list_extend_2 _ _)
    (list_extend_tupW l its.toArray n b its2.toArray n2 dd sl hlong (by rw [List.size_toArray]; omega) (by omega)) ⟨e, ho, ?_⟩
  refine ⟨.non, _, I.lset (its' := its ++ its2) hH e (by simp) (r.append r2) ?_, rfl, q⟩
  rw [List.length_append]
  omega
open PySem.AutoSeq1 (wpAny_loadPart') in
theorem list_extend_listW (l : Addr) (items : Array Value) (n : Nat) (b : Addr) (items2 : Array Value) (n2 : Nat) (sl : Array (Option Value)) (hs0 : ¬(!items.isEmpty && Builtin.List.listTooLong (items.size + items2.size)) = true) (hs1 : items.size ≤ sizeLine) (hs2 : items.size + items2.size ≤ sizeLine + 1) :
    Meets (Builtin.«list.extend» ⟨[.ref l, .ref b], []⟩) (fun _ R s => s.heap.get? l = some { cls := .type "list", dict := none, data := .seq items n, slots := #[] } ∧ s.heap.get? b = some { cls := .type "list", dict := none, data := .seq items2 n2, slots := sl } ∧ R (.ok (.ret Value.none)) { s with heap := s.heap.update l (Obj.mapSeq fun x => x ++ items2), toks := s.toks }) :=
  .of_wp fun prog w A R s h => by
    obtain ⟨hp, g, d, tk, os⟩ := s; obtain ⟨hl, hb, h⟩ := h; have f1 := AutoSeq1.idx_int; have f2 := AutoSeq1.sub_tuple_tuple; have f3 := AutoSeq1.sub_list_list; have f4 := AutoSeq1.sub_tuple_list; have f5 := AutoSeq1.sub_list_tuple;
    have hz' : (items ++ items2).size ≤ sizeLine + 1 := by rw [Array.size_append]; exact hs2
    wp_walk using (wpAny_updateSeq hl rfl (hz := hs1) (_hz' := hz')), wpAny_loadPart' hl, wpAny_loadPart' hb; exact ⟨_, rfl, h⟩
/-- extend by any list that may be read -/
theorem mt_extL : MtM X "list.extend" (fun x vs H Q => ∃ l b xs zs, x = .ref l ∧ vs = [.ref b] ∧ H l = some (.lst xs) ∧ SqL X.K H b zs ∧ xs.length + zs.length ≤ sizeLine ∧ Q .non (upd H l (.lst (xs ++ zs)))) := by
  intro pins s σ H x xs v us Q I rx rv h
  obtain ⟨l, b, xs, zs, rfl, rfl, hH, hB, hz, q⟩ := h
  cases rx
  obtain ⟨u, rfl, ru⟩ := rv.one
  cases ru
  obtain ⟨z, its, n, r, hl, e⟩ := I.lstM hH
  obtain ⟨its2, r2, ⟨⟨cls, dd, data, sl⟩, n2, ho, hc, hn, hd⟩, _⟩ := I.list hB
  simp only at hc hd hn
  subst hc hd hn
  have hl2 := r2.length
  have hsz : its.toArray.size + its2.toArray.size ≤ sizeLine := by rw [List.size_toArray, List.size_toArray]; omega
  have hlong : ¬ (!its.toArray.isEmpty && Builtin.List.listTooLong (its.toArray.size + its2.toArray.size)) = true := by
    rw [notLongL hsz, Bool.and_false]
    exact Bool.false_ne_true
  refine call_meets F.slot_list_extend ⟨_, e, rfl⟩ F.entry_list_extend (F.args_list_extend_2 _ _)
    (list_extend_listW l its.toArray n b its2.toArray n2 sl hlong (by rw [List.size_toArray]; omega) (by omega)) ⟨e, ho, ?_⟩
  refine ⟨.non, _, I.lset (its' := its ++ its2) hH e (by simp) (r.append r2) ?_, rfl, q⟩
  rw [List.length_append]
  omega
end
end Hf

/-! Hf10: statements' rules. -/
namespace Hf
open PySem PySem.Spec PyProof.Rows L2
set_option autoImplicit false

/-- since the entry (H0, S0); what is frozen since (HB, SB) has stayed -/
structure Bs (H0 : Hp) (S0 : Sy) (HB : Hp) (SB : Sy) (H : Hp) (S : Sy) : Prop where
  g : Gr H0 S0 H S
  k : Keep HB SB H S
theorem Keep.trans {H H1 H2 : Hp} {S S1 S2 : Sy} (a : Keep H S H1 S1) (b : Keep H1 S1 H2 S2) : Keep H S H2 S2 := fun x s => ⟨(b x (a x s).1).1, fun o h => SaO.trans ((a x s).2 o h) fun o' q => (b x (a x s).1).2 o' q⟩
theorem Dm.mut {G : Gm} {H : Hp} {S : Sy} (h : Dm G H S) {a : Addr} {o o' : HO} (ha : H a = some o) (no : ∀ ps, o ≠ .tbl ps) (hs : ∀ b, S b → ∃ u, upd H a o' b = some u) : Dm G (upd H a o') S := ⟨hs, fun P z => by
  obtain ⟨ps, h1, h2⟩ := h.2 P z
  refine ⟨ps, ?_, h2⟩
  rw [upd_ne (fun e => by rw [e, ha] at h1; cases h1; exact no _ rfl)]
  exact h1⟩
theorem Bs.trans {H0 HB H H' : Hp} {S0 SB S S' : Sy} (b : Bs H0 S0 HB SB H S) (e : Gr H S H' S') : Bs H0 S0 HB SB H' S' := ⟨b.g.trans e, b.k.trans e.keep⟩
theorem Bs.same {H0 HB H : Hp} {S0 SB S : Sy} (b : Bs H0 S0 HB SB H S) : SameT H0 H := b.g.same
def PostS (G : Gm) (W : WD) (H0 : Hp) (S0 : Sy) (HB : Hp) (SB : Sy) (r : Fl) (D : Ends) : Prop := match r with
  | .nx ρ => ∀ σ H S, REnv G H0 H S σ ρ → Bs H0 S0 HB SB H S → D.nx σ H
  | .bk ρ => ∀ σ H S, REnv G H0 H S σ ρ → Bs H0 S0 HB SB H S → D.bk σ H
  | .ct ρ => ∀ σ H S, REnv G H0 H S σ ρ → Bs H0 S0 HB SB H S → D.ct σ H
  | .rt b d => ∀ v H S, Bs H0 S0 HB SB H S → RepO G H0 H S b d v → D.rt v H
  | .ex c ρ => ∀ σ H S, REnv G H0 H S σ ρ → Bs H0 S0 HB SB H S → W c σ H
  | .fail => False
def tS (G : Gm) (W : WD) (H0 : Hp) (S0 : Sy) (HB : Hp) (SB : Sy) (f : En → Fl) : TS := fun D σ H => ∃ S ρ, REnv G H0 H S σ ρ ∧ Bs H0 S0 HB SB H S ∧ PostS G W H0 S0 HB SB (f ρ) D
section
variable {X : Cx}
theorem _root_.L2.PS.im {st : Stmt} {t t' : TS} (h : PS X st t) (i : ∀ D σ H, t' D σ H → t D σ H) : PS X st t' := ⟨fun pins s σ H D I q => h.run pins s σ H D I (i D σ H q)⟩
theorem _root_.L2.PSs.im {st : List Stmt} {t t' : TS} (h : PSs X st t) (i : ∀ D σ H, t' D σ H → t D σ H) : PSs X st t' := ⟨fun pins s σ H D I q => h.run pins s σ H D I (i D σ H q)⟩
end
/-! ### freezing -/
section
variable {G : Gm} {H0 H HB : Hp} {S0 S SB : Sy} {σ : L2.St} {ρ : En}
theorem REnv.fz1 (R : REnv G H0 H S σ ρ) (g : Bs H0 S0 HB SB H S) {i : Nat} {d : D} (hi : ρ[i]? = some (some (true, d))) : ∃ S', Keep H S H S' ∧ Bs H0 S0 HB SB H S' ∧ REnv G H0 H S' σ (ρ.set i (some (false, d))) := by
  obtain ⟨v, hv, a, xs, ds, rfl, rfl, ns, h0, ha, hp⟩ := R.slot i true d hi
  have k : Keep H S H (fun b => S b ∨ b = a) := fun b s => ⟨.inl s, fun o h => h ▸ SaO.self o⟩
  have hl : i < ρ.length := (List.getElem?_eq_some_iff.mp hi).1
  refine ⟨fun b => S b ∨ b = a, k, ⟨⟨g.same, fun b s => .inl (g.g.sub b s), fun b z => z.elim (g.g.new b) fun q => .inr (by subst q; exact ⟨h0, _, ha⟩)⟩, g.k.trans k⟩, ?_⟩
  refine ⟨by rw [List.length_set]; exact R.len, ⟨fun b z => z.elim (R.dom.1 b) fun q => (by subst q; exact ⟨_, ha⟩), R.dom.2⟩, fun j b e q => ?_, fun j j' d e c hjj q1 q2 z1 z2 => ?_⟩
  · rcases get_set q with ⟨rfl, e1, _⟩ | ⟨ne, q⟩
    · cases e1
      exact ⟨_, hv, .lst (.inl ⟨.inr rfl, .inl ha⟩) (Rep.keepL k _ _ hp)⟩
    · obtain ⟨w, h1, h2⟩ := R.slot j b e q
      refine ⟨w, h1, ?_⟩
      cases b with
      | false => exact h2.keep k
      | true =>
        obtain ⟨c, ys, es, rfl, rfl, m1, m2, m3, m4⟩ := h2
        refine ⟨c, ys, es, rfl, rfl, fun z => z.elim m1 fun e => ?_, m2, m3, Rep.keepL k _ _ m4⟩
        subst e
        exact R.apart j i _ _ c ne q hi h1 hv
  · rcases get_set q1 with ⟨_, e1, _⟩ | ⟨n1, q1'⟩
    · cases e1
    · rcases get_set q2 with ⟨_, e2, _⟩ | ⟨n2, q2'⟩
      · cases e2
      · exact R.apart j j' d e c hjj q1' q2' z1 z2
theorem REnv.frz (R : REnv G H0 H S σ ρ) (g : Bs H0 S0 HB SB H S) : ∀ us : List Nat, ∃ S', Keep H S H S' ∧ Bs H0 S0 HB SB H S' ∧ REnv G H0 H S' σ (fz us ρ)
  | [] => ⟨S, fun _ s => ⟨s, fun o h => h ▸ SaO.self o⟩, g, R⟩
  | i :: is => by
    obtain ⟨S1, k1, g1, R1⟩ := REnv.frz R g is
    show ∃ S', Keep H S H S' ∧ Bs H0 S0 HB SB H S' ∧ REnv G H0 H S' σ (match (fz is ρ)[i]? with | some (some x) => (fz is ρ).set i (some (false, x.2)) | _ => fz is ρ)
    split
    · rename_i x q
      obtain ⟨b, d⟩ := x
      cases b with
      | true =>
        obtain ⟨S2, k2, g2, R2⟩ := R1.fz1 g1 q
        exact ⟨S2, fun b s => ⟨(k2 b (k1 b s).1).1, fun o h => h ▸ SaO.self o⟩, g2, R2⟩
      | false =>
        have e : (fz is ρ).set i (some (false, d)) = fz is ρ := by
          obtain ⟨hl, e⟩ := List.getElem?_eq_some_iff.mp q
          rw [← e]
          exact List.set_getElem_self hl
        rw [e]
        exact ⟨S1, k1, g1, R1⟩
    · exact ⟨S1, k1, g1, R1⟩
/-- one's own list is changed -/
theorem REnv.mut (R : REnv G H0 H S σ ρ) (g : Bs H0 S0 HB SB H S) {i : Nat} {d : D} {a : Addr} {xs ys : List V} {es : List D} (hi : ρ[i]? = some (some (true, d))) (hv : σ[i]? = some (some (.ref a))) (ha : H a = some (.lst xs)) (ns : ¬ S a) (h0 : H0 a = none) (hp : Paired (Rep G H S) es ys) :
    Bs H0 S0 HB SB (upd H a (.lst ys)) S ∧ REnv G H0 (upd H a (.lst ys)) S σ (ρ.set i (some (true, .lst es))) := by
  have k : Keep H S (upd H a (.lst ys)) S := Keep.updN ns
  have hl : i < ρ.length := (List.getElem?_eq_some_iff.mp hi).1
  have nb : ∀ b, S b → b ≠ a := fun b s z => ns (z ▸ s)
  refine ⟨⟨⟨fun b o hb => ?_, g.g.sub, fun b hb => ?_⟩, g.k.trans k⟩, by rw [List.length_set]; exact R.len, R.dom.mut ha (fun ps e => by cases e) fun b hb => ?_, fun j b e q => ?_, fun j j' d' e c hjj q1 q2 z1 z2 => ?_⟩
  · rw [upd_ne (ne_of_none hb h0)]; exact g.same _ _ hb
  · rw [upd_ne (nb b hb)]; exact g.g.new b hb
  · rw [upd_ne (nb b hb)]; exact R.dom.1 b hb
  · rcases get_set q with ⟨rfl, e1, _⟩ | ⟨ne, q⟩
    · cases e1
      exact ⟨_, hv, a, ys, es, rfl, rfl, ns, h0, upd_same, Rep.keepL k _ _ hp⟩
    · obtain ⟨w, h1, h2⟩ := R.slot j b e q
      refine ⟨w, h1, ?_⟩
      cases b with
      | false => exact h2.keep k
      | true =>
        obtain ⟨c, zs, fs, rfl, rfl, m1, m2, m3, m4⟩ := h2
        have nc : c ≠ a := fun z => by
          subst z
          exact R.apart j i _ _ c ne q hi h1 hv
        exact ⟨c, zs, fs, rfl, rfl, m1, m2, by rw [upd_ne nc]; exact m3, Rep.keepL k _ _ m4⟩
  · have own : ∀ j d', (ρ.set i (some (true, D.lst es)))[j]? = some (some (true, d')) → ∃ d'', ρ[j]? = some (some (true, d'')) := fun j d' q => by
      rcases get_set q with ⟨rfl, _, _⟩ | ⟨_, q⟩
      · exact ⟨_, hi⟩
      · exact ⟨_, q⟩
    obtain ⟨d1, o1⟩ := own j _ q1
    obtain ⟨d2, o2⟩ := own j' _ q2
    exact R.apart j j' d1 d2 c hjj o1 o2 z1 z2
/-- a result goes into a slot -/
theorem REnv.setO {H' : Hp} {S' : Sy} (R : REnv G H0 H S σ ρ) (e : Gr H S H' S') (h0 : SameT H0 H) (i : Nat) {b : Bool} {d : D} {v : V} (h : RepO G H H' S' b d v) : REnv G H0 H' S' (σ.set i (some v)) (ρ.set i (some (b, d))) := by
  refine (R.gr e).put i v _ (fun b' d' q => ?_) (fun d' q j e' a ne q1 q2 z => ?_)
  · cases q
    cases b with
    | false => exact h
    | true =>
      obtain ⟨a, xs, ds, e1, e2, e3, hn, r⟩ := h
      exact ⟨a, xs, ds, e1, e2, e3, h0.free hn, r⟩
  · cases q
    obtain ⟨a1, xs, ds, e1, e2, e3, hn, r⟩ := h
    rw [e1] at z
    cases z
    obtain ⟨w, h1, a2, ys, es, rfl, _, _, _, h2, _⟩ := R.slot j true e' q1
    rw [h1] at q2
    cases q2
    rw [hn] at h2
    cases h2
end
theorem iopD_sp {o : Operator} {a b : D} {w : Bool × D} (h : iopD o a b = .ok w) : w.1 = false ∧ ((∃ k, a = .int k) ∨ ∃ z, a = .str z) := by
  unfold iopD at h
  split at h
  · cases h; exact ⟨rfl, .inl ⟨_, rfl⟩⟩
  · cases h; exact ⟨rfl, .inl ⟨_, rfl⟩⟩
  · split at h
    · cases h; exact ⟨rfl, .inl ⟨_, rfl⟩⟩
    · cases h
  · split at h
    · cases h; exact ⟨rfl, .inl ⟨_, rfl⟩⟩
    · cases h
  · split at h
    · cases h; exact ⟨rfl, .inr ⟨_, rfl⟩⟩
    · cases h
  · cases h
theorem iopD_nox {o : Operator} {a b : D} {c : Str} : iopD o a b ≠ .exc c := fun h => by
  unfold iopD at h
  split at h
  · cases h
  · cases h
  · split at h <;> cases h
  · split at h <;> cases h
  · split at h <;> cases h
  · cases h
/-! ### rules -/
section
variable {G : Gm} {W : WD} {H0 HB : Hp} {S0 SB : Sy} {X : Cx} {st : Stmt} {rest : List Stmt} {e : Expr} {pos : Pos}
theorem onD {H : Hp} {S : Sy} {σ : L2.St} {ρ : En} {r : Res (Bool × D)} {f : Bool × D → Fl} {D : Ends} {Q : VK} (R : REnv G H0 H S σ ρ) (g : Bs H0 S0 HB SB H S) (p : PostS G W H0 S0 HB SB (onR r ρ f) D)
    (ok : ∀ b d, PostS G W H0 S0 HB SB (f (b, d)) D → ∀ v H' S', Gr H S H' S' → RepO G H H' S' b d v → Q v H') : Post G (fun c => W c σ) H S r Q := by
  cases r with
  | ok x => exact ok x.1 x.2 p
  | exc c => exact fun H' S' e => p σ H' S' (R.gr e) (g.trans e)
  | fail => exact p
theorem onV {α : Type} {H : Hp} {S : Sy} {σ : L2.St} {ρ : En} {r : Res α} {f : α → Fl} {D : Ends} {Q : α → Hp → Prop} (R : REnv G H0 H S σ ρ) (g : Bs H0 S0 HB SB H S) (p : PostS G W H0 S0 HB SB (onR r ρ f) D)
    (ok : ∀ a, PostS G W H0 S0 HB SB (f a) D → ∀ H' S', Gr H S H' S' → Q a H') : PostV (fun c => W c σ) H S r Q := by
  cases r with
  | ok x => exact ok x p
  | exc c => exact fun H' S' e => p σ H' S' (R.gr e) (g.trans e)
  | fail => exact p
theorem onI {H : Hp} {S : Sy} {σ : L2.St} {ρ : En} {r : Res (List Hf.D)} {f : List Hf.D → Fl} {D : Ends} {Q : It → Hp → Prop} (R : REnv G H0 H S σ ρ) (g : Bs H0 S0 HB SB H S) (p : PostS G W H0 S0 HB SB (onR r ρ f) D)
    (ok : ∀ ds, PostS G W H0 S0 HB SB (f ds) D → ∀ J H' S', Gr H S H' S' → Wlk G J ds H' S' → Q J H') : PostI G (fun c => W c σ) H S r Q := by
  cases r with
  | ok x => exact ok x p
  | exc c => exact fun H' S' e => p σ H' S' (R.gr e) (g.trans e)
  | fail => exact p
theorem pss_ni : PSs X [] (tS G W H0 S0 HB SB .nx) := pss_nil.im fun D σ H ⟨S, ρ, R, g, p⟩ => p σ H S R g
theorem pss_co {f h : En → Fl} (h1 : PS X st (tS G W H0 S0 HB SB f)) (h2 : PSs X rest (tS G W H0 S0 HB SB h)) : PSs X (st :: rest) (tS G W H0 S0 HB SB fun ρ => (f ρ).seq h) := (pss_cons h1 h2).im fun D σ H ⟨S, ρ, R, g, p⟩ => by
  refine ⟨S, ρ, R, g, ?_⟩
  dsimp only at p
  cases z : f ρ with
  | nx ρ' => rw [z] at p; exact fun σ' H' S' R' g' => ⟨S', ρ', R', g', p⟩
  | rt b d => rw [z] at p; exact p
  | bk ρ' => rw [z] at p; exact p
  | ct ρ' => rw [z] at p; exact p
  | ex c ρ' => rw [z] at p; exact p
  | fail => rw [z] at p; exact p
theorem ps_pa : PS X (.Pass pos) (tS G W H0 S0 HB SB .nx) := ps_pass.im fun D σ H ⟨S, ρ, R, g, p⟩ => p σ H S R g
theorem ps_br : PS X (.Break pos) (tS G W H0 S0 HB SB .bk) := ps_break.im fun D σ H ⟨S, ρ, R, g, p⟩ => p σ H S R g
theorem ps_cn : PS X (.Continue pos) (tS G W H0 S0 HB SB .ct) := ps_continue.im fun D σ H ⟨S, ρ, R, g, p⟩ => p σ H S R g
theorem ps_dc {x j pos'} : PS X (.Expr (.Constant (.str x) j pos') pos) (tS G W H0 S0 HB SB .nx) := ps_doc.im fun D σ H ⟨S, ρ, R, g, p⟩ => p σ H S R g
theorem ps_rn : PS X (.Return none pos) (tS G W H0 S0 HB SB fun _ => .rt false .non) := ps_retN.im fun D σ H ⟨S, ρ, R, g, p⟩ => p .non H S g .non
variable {fe : En → Res (Bool × D)} {us : List Nat}
theorem ps_ex (he : PE X e (tD G W H0 fe)) (hs : swapsWith e none pos.line X.env = pure false) : PS X (.Expr e pos) (tS G W H0 S0 HB SB fun ρ => onR (fe (fz us ρ)) (fz us ρ) fun _ => .nx (fz us ρ)) := (ps_expr he hs).im fun D σ H ⟨S, ρ, R, g, p⟩ => by
  obtain ⟨S1, k1, g1, R1⟩ := R.frz g us
  exact ⟨S1, _, R1, onD R1 g1 p fun b d p v H' S' e r => p σ H' S' (R1.gr e) (g1.trans e)⟩
theorem ps_se {i : Nat} {x : Str} {pos' : Pos} (hg : PG X (.Name x pos') (gName i)) (he : PE X e (tD G W H0 fe)) (h : PS X st (tAsg (tD G W H0 fe) (gName i))) : PS X st (tS G W H0 S0 HB SB fun ρ => onR (fe (fz us ρ)) (fz us ρ) fun x => .nx ((fz us ρ).set i (some x))) := h.im fun D σ H ⟨S, ρ, R, g, p⟩ => by
  obtain ⟨S1, k1, g1, R1⟩ := R.frz g us
  exact ⟨S1, _, R1, onD R1 g1 p fun b d p v H' S' e r => p _ H' S' (R1.setO e g1.same i r) (g1.trans e)⟩
theorem ps_st {t : Tg} (h : PS X st (tAsg (tD G W H0 fe) (gOf G.K t))) : PS X st (tS G W H0 S0 HB SB fun ρ => onR (fe (fz us ρ)) (fz us ρ) fun x => (match bindT t x.2 (fz us ρ) with
    | .ok ρ' => .nx ρ'
    | _ => .fail)) := h.im fun D σ H ⟨S, ρ, R, g, p⟩ => by
  obtain ⟨S1, k1, g1, R1⟩ := R.frz g us
  refine ⟨S1, _, R1, onD R1 g1 p fun b d p v H' S' e r => ?_⟩
  obtain ⟨S2, e2, k2, r2⟩ := r.fz e
  dsimp only at p
  cases z : bindT t d (fz us ρ) with
  | ok ρ' =>
    rw [z] at p
    exact gOf_of z r2 (R1.gr e2) fun σ' R' _ => p σ' H' S2 R' (g1.trans e2)
  | exc c => rw [z] at p; exact p.elim
  | fail => rw [z] at p; exact p.elim
theorem ps_re (he : PE X e (tD G W H0 fe)) : PS X (.Return (some e) pos) (tS G W H0 S0 HB SB fun ρ => onR (fe (fz us ρ)) (fz us ρ) fun x => .rt x.1 x.2) := (ps_ret he).im fun D σ H ⟨S, ρ, R, g, p⟩ => by
  obtain ⟨S1, k1, g1, R1⟩ := R.frz g us
  refine ⟨S1, _, R1, onD R1 g1 p fun b d p v H' S' e r => p v H' S' (g1.trans e) ?_⟩
  cases b with
  | false => exact r
  | true =>
    obtain ⟨a, xs, ds, e1, e2, e3, hn, r⟩ := r
    exact ⟨a, xs, ds, e1, e2, e3, g1.same.free hn, r⟩
theorem ps_rv {i : Nat} (he : PE X e (tVar i)) : PS X (.Return (some e) pos) (tS G W H0 S0 HB SB fun ρ => onR (getO ρ i) ρ fun x => .rt x.1 x.2) := (ps_ret he).im fun D σ H ⟨S, ρ, R, g, p⟩ => by
  unfold getO at p
  dsimp only at p
  split at p
  · rename_i x q
    obtain ⟨v, h1, h2⟩ := R.slot i x.1 x.2 q
    exact ⟨v, h1, p v H S g h2⟩
  · exact p.elim
theorem ps_ag {i : Nat} {x : Str} {o : Operator} {pos' : Pos} (he : PE X e (tD G W H0 fe)) (h : PS X (.AugAssign (.Name x pos') o e pos) (tAug i (tD G W H0 fe) (rD G (iopD o)))) :
    PS X (.AugAssign (.Name x pos') o e pos) (tS G W H0 S0 HB SB fun ρ => onR (getO ρ i) ρ fun a => onR (fe (fz us ρ)) (fz us ρ) fun b => onR (iopD o a.2 b.2) ρ fun x => .nx ((fz us ρ).set i (some x))) := h.im fun D σ H ⟨S, ρ, R, g, p⟩ => by
  unfold getO at p
  dsimp only at p
  split at p
  · rename_i y q
    obtain ⟨v, h1, h2⟩ := R.slot i y.1 y.2 q
    obtain ⟨S1, k1, g1, R1⟩ := R.frz g us
    refine ⟨v, h1, S1, _, R1, onD R1 g1 p fun b d p u H' S' e r => ?_⟩
    have pl : ∃ z, iopD o y.2 d = okF z ∧ (∀ S, Loo G H' S y.2 v) := by
      have p' : PostS G W H0 S0 HB SB (onR (iopD o y.2 d) ρ fun x => Fl.nx ((fz us ρ).set i (some x))) D := p
      cases z : iopD o y.2 d with
      | fail => rw [z] at p'; exact p'.elim
      | exc c => exact absurd z iopD_nox
      | ok w =>
        obtain ⟨w1, w2⟩ := iopD_sp z
        have l := h2.loo
        refine ⟨w.2, by obtain ⟨w1', w2'⟩ := w; cases w1; rfl, fun S => ?_⟩
        rcases w2 with ⟨k, e2⟩ | ⟨k, e2⟩
        · rw [e2] at l ⊢
          rw [l.int]
          exact .inl (.int k)
        · rw [e2] at l ⊢
          rw [l.str]
          exact .inl (.str k)
    obtain ⟨z, hz, hl⟩ := pl
    have hp : PostS G W H0 S0 HB SB (.nx ((fz us ρ).set i (some (false, z)))) D := by
      have p' : PostS G W H0 S0 HB SB (onR (iopD o y.2 d) ρ fun x => Fl.nx ((fz us ρ).set i (some x))) D := p
      rw [hz] at p'
      exact p'
    obtain ⟨S2, e2, k2, r2⟩ := r.fz e
    refine ⟨fun _ _ => False, S2, y.2, d, (R1.gr e2).dom, hl S2, .inl r2, ?_⟩
    rw [hz]
    intro u' H3 S3 e3 r3
    exact hp _ H3 S3 (((R1.gr e2).gr e3).setF i r3) ((g1.trans e2).trans e3)
  · exact p.elim
end
end Hf

/-! Hf11: statements' rules, further: lists changed, ifs, loops. -/
namespace Hf
open PySem PySem.Spec PyProof.Rows L2
set_option autoImplicit false
section
variable {G : Gm} {W : WD} {H0 HB : Hp} {S0 SB : Sy} {X : Cx} {st : Stmt} {rest : List Stmt} {e : Expr} {pos : Pos}
variable {fe : En → Res (Bool × D)} {us : List Nat}
theorem getO_some {ρ : En} {i : Nat} {f : Bool × D → Fl} {D : Ends} {ρ' : En} (p : PostS G W H0 S0 HB SB (onR (getO ρ i) ρ' f) D) : ∃ x, ρ[i]? = some (some x) ∧ PostS G W H0 S0 HB SB (f x) D := by
  unfold getO at p
  split at p
  · exact ⟨_, by assumption, p⟩
  · exact p.elim
/-- the list in a slot, changed behind a value -/
theorem ps_ap {i : Nat} (h : PS X st (tDrop (tBM X.K "list" rAppend (tVar i) (tCons (tD G W H0 fe) tNil)))) : PS X st (tS G W H0 S0 HB SB fun ρ => onR (getO (fz us ρ) i) ρ fun a => (match a with
    | (true, .lst ds) => onR (fe (fz us ρ)) (fz us ρ) fun b => if ds.length < sizeLine then .nx ((fz us ρ).set i (some (true, .lst (ds ++ [b.2])))) else .fail
    | _ => .fail)) := h.im fun D σ H ⟨S, ρ, R, g, p⟩ => by
  obtain ⟨S1, k1, g1, R1⟩ := R.frz g us
  obtain ⟨x, hx, p⟩ := getO_some p
  obtain ⟨b, d⟩ := x
  cases b with
  | false => exact p.elim
  | true =>
    cases d with
    | lst ds =>
      have p : PostS G W H0 S0 HB SB (onR (fe (fz us ρ)) (fz us ρ) fun b => if ds.length < sizeLine then .nx ((fz us ρ).set i (some (true, .lst (ds ++ [b.2])))) else .fail) D := p
      obtain ⟨v, hv, a, xs, ds', rfl, ed, ns, h0, ha, hp⟩ := R1.slot i true _ hx
      cases ed
      refine ⟨.ref a, hv, .inl ⟨rfl, _, .inl (.inl ha)⟩, S1, _, R1, onD R1 g1 p fun b d p v H' S' e r => ?_⟩
      obtain ⟨S2, e2, k2, r2⟩ := r.fz e
      have R2 := R1.gr e2
      have g2 := g1.trans e2
      obtain ⟨v', hv', a', xs', ds', ev, ed, ns', h0', ha', hp'⟩ := R2.slot i true _ hx
      rw [hv] at hv'
      cases hv'
      cases ev
      cases ed
      have p : PostS G W H0 S0 HB SB (if ds.length < sizeLine then .nx ((fz us ρ).set i (some (true, .lst (ds ++ [d])))) else .fail) D := p
      by_cases hz : ds.length < sizeLine
      · rw [if_pos hz] at p
        refine ⟨a, xs', v, rfl, rfl, ha', by rw [← Paired.length hp']; exact hz, ?_⟩
        obtain ⟨g3, R3⟩ := R2.mut g2 (es := ds ++ [d]) (ys := xs' ++ [v]) hx hv ha' ns' h0' (hp'.app (.cons r2 .nil))
        exact p σ _ S2 R3 g3
      · rw [if_neg hz] at p; exact p.elim
    | _ => exact p.elim
def rExtD (K : PySem.W.Frag) : V → List V → Hp → VK → Prop := fun x vs H Q => ∃ l b xs zs, x = .ref l ∧ vs = [.ref b] ∧ H l = some (.lst xs) ∧ (SqT K H b zs ∨ SqL K H b zs) ∧ xs.length + zs.length ≤ sizeLine ∧ Q .non (upd H l (.lst (xs ++ zs)))
theorem mt_extD : MtM X "list.extend" (rExtD X.K) := by
  intro pins s σ H x xs v us Q I rx rv h
  obtain ⟨l, b, xs, zs, rfl, rfl, hH, hB | hB, hz, q⟩ := h
  · exact mt_extT pins s σ H _ _ v us Q I rx rv ⟨l, b, xs, zs, rfl, rfl, hH, hB, hz, q⟩
  · exact mt_extL pins s σ H _ _ v us Q I rx rv ⟨l, b, xs, zs, rfl, rfl, hH, hB, hz, q⟩
theorem ps_et {i : Nat} (hK : X.K = G.K) (h : PS X st (tDrop (tBM X.K "list" (rExtD X.K) (tVar i) (tCons (tD G W H0 fe) tNil)))) : PS X st (tS G W H0 S0 HB SB fun ρ => onR (getO (fz us ρ) i) ρ fun a => (match a with
    | (true, .lst ds) => onR (fe (fz us ρ)) (fz us ρ) fun b => (match b.2 with
      | .tup es => if ds.length + es.length ≤ sizeLine then .nx ((fz us ρ).set i (some (true, .lst (ds ++ es)))) else .fail
      | .lst es => if ds.length + es.length ≤ sizeLine then .nx ((fz us ρ).set i (some (true, .lst (ds ++ es)))) else .fail
      | _ => .fail)
    | _ => .fail)) := h.im fun D σ H ⟨S, ρ, R, g, p⟩ => by
  obtain ⟨S1, k1, g1, R1⟩ := R.frz g us
  obtain ⟨x, hx, p⟩ := getO_some p
  obtain ⟨b, d⟩ := x
  cases b with
  | false => exact p.elim
  | true =>
    cases d with
    | lst ds =>
      have p : PostS G W H0 S0 HB SB (onR (fe (fz us ρ)) (fz us ρ) fun b => (match b.2 with
        | .tup es => if ds.length + es.length ≤ sizeLine then .nx ((fz us ρ).set i (some (true, .lst (ds ++ es)))) else .fail
        | .lst es => if ds.length + es.length ≤ sizeLine then .nx ((fz us ρ).set i (some (true, .lst (ds ++ es)))) else .fail
        | _ => .fail)) D := p
      obtain ⟨v, hv, a, xs, ds', rfl, ed, ns, h0, ha, hp⟩ := R1.slot i true _ hx
      cases ed
      refine ⟨.ref a, hv, .inl ⟨rfl, _, .inl (.inl ha)⟩, S1, _, R1, onD R1 g1 p fun b d p v H' S' e r => ?_⟩
      obtain ⟨S2, e2, k2, r2⟩ := r.fz e
      have R2 := R1.gr e2
      have g2 := g1.trans e2
      obtain ⟨v', hv', a', xs', ds', ev, ed, ns', h0', ha', hp'⟩ := R2.slot i true _ hx
      rw [hv] at hv'
      cases hv'
      cases ev
      cases ed
      cases d with
      | tup es =>
        have p : PostS G W H0 S0 HB SB (if ds.length + es.length ≤ sizeLine then .nx ((fz us ρ).set i (some (true, .lst (ds ++ es)))) else .fail) D := p
        by_cases hz : ds.length + es.length ≤ sizeLine
        · rw [if_pos hz] at p
          cases r2 with
          | tup z q =>
            refine ⟨a, _, xs', _, rfl, rfl, ha', .inl (by rw [hK]; exact z.sq), by rw [← Paired.length hp', ← Paired.length q]; exact hz, ?_⟩
            obtain ⟨g3, R3⟩ := R2.mut g2 hx hv ha' ns' h0' (hp'.app q)
            exact p σ _ S2 R3 g3
        · rw [if_neg hz] at p; exact p.elim
      | lst es =>
        have p : PostS G W H0 S0 HB SB (if ds.length + es.length ≤ sizeLine then .nx ((fz us ρ).set i (some (true, .lst (ds ++ es)))) else .fail) D := p
        by_cases hz : ds.length + es.length ≤ sizeLine
        · rw [if_pos hz] at p
          cases r2 with
          | lst z q =>
            refine ⟨a, _, xs', _, rfl, rfl, ha', .inr (by rw [hK]; exact z.sq), by rw [← Paired.length hp', ← Paired.length q]; exact hz, ?_⟩
            obtain ⟨g3, R3⟩ := R2.mut g2 hx hv ha' ns' h0' (hp'.app q)
            exact p σ _ S2 R3 g3
        · rw [if_neg hz] at p; exact p.elim
      | _ => exact p.elim
    | _ => exact p.elim
theorem dropLast_pair {G : Gm} {H : Hp} {S : Sy} {ds : List D} {xs : List V} (h : Paired (Rep G H S) ds xs) : Paired (Rep G H S) ds.dropLast xs.dropLast := h.dl
theorem ps_po {t : Tg} {i : Nat} (h : PS X st (tAsg (tBM0 X.K "list" rPop (tVar i)) (gOf G.K t))) : PS X st (tS G W H0 S0 HB SB fun ρ => onR (getO ρ i) ρ fun a => (match a with
    | (true, .lst ds) => (match ds[ds.length - 1]? with
      | some d => (match bindT t d (ρ.set i (some (true, .lst ds.dropLast))) with
        | .ok ρ' => .nx ρ'
        | _ => .fail)
      | none => .fail)
    | _ => .fail)) := h.im fun D σ H ⟨S, ρ, R, g, p⟩ => by
  obtain ⟨x, hx, p⟩ := getO_some p
  obtain ⟨b, d⟩ := x
  cases b with
  | false => exact p.elim
  | true =>
    cases d with
    | lst ds =>
      have p : PostS G W H0 S0 HB SB (match ds[ds.length - 1]? with
        | some d => (match bindT t d (ρ.set i (some (true, .lst ds.dropLast))) with
          | .ok ρ' => .nx ρ'
          | _ => .fail)
        | none => .fail) D := p
      obtain ⟨v, hv, a, xs, ds', rfl, ed, ns, h0, ha, hp⟩ := R.slot i true _ hx
      cases ed
      cases z : ds[ds.length - 1]? with
      | none => rw [z] at p; exact p.elim
      | some d =>
        rw [z] at p
        obtain ⟨y, hy, ry⟩ := hp.gt z
        refine ⟨.ref a, hv, .inl ⟨rfl, _, .inl (.inl ha)⟩, a, xs, y, rfl, rfl, ha, by rw [← Paired.length hp]; exact hy, ?_⟩
        obtain ⟨g3, R3⟩ := R.mut g hx hv ha ns h0 hp.dl
        have p : PostS G W H0 S0 HB SB (match bindT t d (ρ.set i (some (true, .lst ds.dropLast))) with
          | .ok ρ' => .nx ρ'
          | _ => .fail) D := p
        cases zb : bindT t d (ρ.set i (some (true, .lst ds.dropLast))) with
        | ok ρ' =>
          rw [zb] at p
          exact gOf_of zb (ry.keep (Keep.updN ns)) R3 fun σ' R' _ => p σ' _ S R' g3
        | exc c => rw [zb] at p; exact p.elim
        | fail => rw [zb] at p; exact p.elim
    | _ => exact p.elim
variable {fk : En → Res (Bool × D)}
theorem ps_pu {i : Nat} (h : PS X st (tAsg (tD G W H0 fe) (gSub (tVar i) (tD G W H0 fk) rSetL))) : PS X st (tS G W H0 S0 HB SB fun ρ => onR (getO (fz us ρ) i) ρ fun a => (match a with
    | (true, .lst ds) => onR (fe (fz us ρ)) (fz us ρ) fun b => onR (fk (fz us ρ)) (fz us ρ) fun j => (match j.2 with
      | .int j => (match ixN ds.length j with
        | some n => .nx ((fz us ρ).set i (some (true, .lst (ds.set n b.2))))
        | none => .fail)
      | _ => .fail)
    | _ => .fail)) := h.im fun D σ H ⟨S, ρ, R, g, p⟩ => by
  obtain ⟨S1, k1, g1, R1⟩ := R.frz g us
  obtain ⟨x, hx, p⟩ := getO_some p
  obtain ⟨b, d⟩ := x
  cases b with
  | false => exact p.elim
  | true =>
    cases d with
    | lst ds =>
      have p : PostS G W H0 S0 HB SB (onR (fe (fz us ρ)) (fz us ρ) fun b => onR (fk (fz us ρ)) (fz us ρ) fun j => (match j.2 with
        | .int j => (match ixN ds.length j with
          | some n => .nx ((fz us ρ).set i (some (true, .lst (ds.set n b.2))))
          | none => .fail)
        | _ => .fail)) D := p
      obtain ⟨v, hv, _⟩ := R1.slot i true _ hx
      refine ⟨S1, _, R1, onD R1 g1 p fun b d p u H2 S2 e r => ?_⟩
      obtain ⟨S3, e3, k3, r3⟩ := r.fz e
      have R3 := R1.gr e3
      have g3 := g1.trans e3
      refine ⟨v, hv, S3, _, R3, onD R3 g3 p fun b' d' p w H4 S4 e4 r4 => ?_⟩
      have R4 := R3.gr e4
      have g4 := g3.trans e4
      obtain ⟨v', hv', a, xs, ds', rfl, ed, ns, h0, ha, hp⟩ := R4.slot i true _ hx
      rw [hv] at hv'
      cases hv'
      cases ed
      cases d' with
      | int j =>
        have p : PostS G W H0 S0 HB SB (match ixN ds.length j with
          | some n => .nx ((fz us ρ).set i (some (true, .lst (ds.set n d))))
          | none => .fail) D := p
        have ew := r4.loo.int
        subst ew
        cases z : ixN ds.length j with
        | none => rw [z] at p; exact p.elim
        | some n =>
          rw [z] at p
          refine ⟨a, xs, j, n, rfl, rfl, ha, by rw [← Paired.length hp]; exact z, ?_⟩
          obtain ⟨g5, R5⟩ := R4.mut g4 hx hv ha ns h0 (PySem.Paired.st (e4.rep r3) n hp)
          exact p σ _ S4 R5 g5
      | _ => exact p.elim
    | _ => exact p.elim
/-! ### ifs and loops -/
variable {c : Expr} {a b : List Stmt} {tc : En → Res Bool} {fa fb : En → Fl}
theorem ps_i (hc : PT X c (tT G W H0 tc)) (ha : PSs X a (tS G W H0 S0 HB SB fa)) (hb : PSs X b (tS G W H0 S0 HB SB fb)) : PS X (.If c a b pos) (tS G W H0 S0 HB SB fun ρ => onR (tc (fz us ρ)) (fz us ρ) fun k => if k = true then fa (fz us ρ) else fb (fz us ρ)) := (ps_if hc ha hb).im fun D σ H ⟨S, ρ, R, g, p⟩ => by
  obtain ⟨S1, k1, g1, R1⟩ := R.frz g us
  refine ⟨S1, _, R1, onV R1 g1 p fun k p H' S' e => ?_⟩
  cases k with
  | true => exact ⟨S', _, R1.gr e, g1.trans e, p⟩
  | false => exact ⟨S', _, R1.gr e, g1.trans e, p⟩
theorem ps_w (hp : PassesOwn (model X.prog X.w) X.A X.env X.xe) (hc : PT X c (tT G W H0 tc)) (hb : PSs X b (tS G W H0 S0 HB SB fb)) (n : Nat) : PS X (.While c b [] pos) (tS G W H0 S0 HB SB fun ρ => whN tc (fz us) fb n ρ) := (ps_while hp hc hb).im fun D σ H ⟨S, ρ, R, g, p⟩ => by
  refine ⟨fun m σ H => ∃ S ρ, REnv G H0 H S σ ρ ∧ Bs H0 S0 HB SB H S ∧ PostS G W H0 S0 HB SB (whN tc (fz us) fb m ρ) D, ⟨n, S, ρ, R, g, p⟩, fun m σ H ⟨S, ρ, R, g, p⟩ => ?_⟩
  cases m with
  | zero => exact p.elim
  | succ m =>
    obtain ⟨S1, k1, g1, R1⟩ := R.frz g us
    have p : PostS G W H0 S0 HB SB (onR (tc (fz us ρ)) (fz us ρ) fun k => if k = true then (match fb (fz us ρ) with
      | .nx ρ2 => whN tc (fz us) fb m ρ2
      | .ct ρ2 => whN tc (fz us) fb m ρ2
      | .bk ρ2 => .nx ρ2
      | r => r) else .nx (fz us ρ)) D := p
    refine ⟨S1, _, R1, onV R1 g1 p fun k p H' S' e => ?_⟩
    cases k with
    | false => exact p σ H' S' (R1.gr e) (g1.trans e)
    | true =>
      refine ⟨fun σ' H' => ∃ S ρ, REnv G H0 H' S σ' ρ ∧ Bs H0 S0 HB SB H' S ∧ PostS G W H0 S0 HB SB (whN tc (fz us) fb m ρ) D, fun σ' H' h => ⟨m, Nat.lt_succ_self m, h⟩, S', _, R1.gr e, g1.trans e, ?_⟩
      have p : PostS G W H0 S0 HB SB (match fb (fz us ρ) with
        | .nx ρ2 => whN tc (fz us) fb m ρ2
        | .ct ρ2 => whN tc (fz us) fb m ρ2
        | .bk ρ2 => .nx ρ2
        | r => r) D := p
      cases z : fb (fz us ρ) with
      | nx ρ2 => rw [z] at p; exact fun σ' H' S' R' g' => ⟨S', ρ2, R', g', p⟩
      | ct ρ2 => rw [z] at p; exact fun σ' H' S' R' g' => ⟨S', ρ2, R', g', p⟩
      | bk ρ2 => rw [z] at p; exact p
      | rt o d => rw [z] at p; exact p
      | ex c ρ2 => rw [z] at p; exact p
      | fail => rw [z] at p; exact p
theorem ps_f {t : Tg} {tg iter : Expr} {fi : En → Res (List D)} (hp : PassesOwn (model X.prog X.w) X.A X.env X.xe) (hcm : X.calm = true) (hi : PI X tg iter (tI G W H0 fi)) (hg : PG X tg (gOf G.K t)) (hb : ∀ (HB : Hp) (SB : Sy), PSs X b (tS G W H0 S0 HB SB fb))
    (hs : ∀ x, foldedSetIterable iter X.env x = pure x) : PS X (.For tg iter b [] pos) (tS G W H0 S0 HB SB fun ρ => onR (fi (fz us ρ)) (fz us ρ) fun ds => forN t fb ds (fz us ρ)) := by
  refine ⟨fun pins sh σ H D I h => (ps_for hp hcm hi hg (tb := fun D σ H => ∃ HB SB, tS G W H0 S0 HB SB fb D σ H) ⟨fun pins s σ H D I ⟨HB, SB, h⟩ => (hb HB SB).run pins s σ H D I h⟩ hs).run pins sh σ H D I ?_⟩
  obtain ⟨S, ρ, R, g, p⟩ := h
  obtain ⟨S1, k1, g1, R1⟩ := R.frz g us
  refine ⟨S1, _, R1, onI R1 g1 p fun ds p J H2 S2 e2 wk => ?_⟩
  have R2 := R1.gr e2
  have g2 := g1.trans e2
  generalize fz us ρ = ρ0 at *
  refine ⟨fun i m σ' H' => m = ds.length - i ∧ i ≤ ds.length ∧ ∃ S' ρ', REnv G H0 H' S' σ' ρ' ∧ Bs H0 S0 H2 S2 H' S' ∧ PostS G W H0 S0 HB SB (forN t fb (ds.drop i) ρ') D, ⟨_, rfl, Nat.zero_le _, S2, ρ0, R2, ⟨g2.g, fun _ s => ⟨s, fun o h => h ▸ SaO.self o⟩⟩, p⟩, ?_⟩
  rintro i m σ' H' ⟨rfl, hle, S', ρ', R', g', p⟩
  have kp := g'.k
  have up : ∀ {H S}, Bs H0 S0 H2 S2 H S → Bs H0 S0 HB SB H S := fun b => ⟨b.g, g2.k.trans b.k⟩
  by_cases hlt : i < ds.length
  · have ed : ds.drop i = ds[i] :: ds.drop (i + 1) := List.drop_eq_getElem_cons hlt
    have gt : ds[i]? = some ds[i] := List.getElem?_eq_getElem hlt
    refine .inr ⟨wk.go i H' S' kp hlt, fun σ'' H'' => ∃ S'' ρ'', REnv G H0 H'' S'' σ'' ρ'' ∧ Bs H0 S0 H2 S2 H'' S'' ∧ PostS G W H0 S0 HB SB (forN t fb (ds.drop (i + 1)) ρ'') D, fun σ'' H'' h => ⟨ds.length - (i + 1), by omega, rfl, hlt, h⟩, fun x Hx y => ?_⟩
    obtain ⟨rfl, rx⟩ := wk.yld i H' S' x Hx kp y _ gt
    rw [ed] at p
    generalize ds[i] = d at *
    have p : PostS G W H0 S0 HB SB (match bindT t d ρ' with
      | .ok ρ1 => (match fb ρ1 with
        | .nx ρ2 => forN t fb (ds.drop (i + 1)) ρ2
        | .ct ρ2 => forN t fb (ds.drop (i + 1)) ρ2
        | .bk ρ2 => .nx ρ2
        | r => r)
      | _ => .fail) D := p
    cases zb : bindT t d ρ' with
    | fail => rw [zb] at p; exact p.elim
    | exc c => rw [zb] at p; exact p.elim
    | ok ρ1 =>
      rw [zb] at p
      refine gOf_of zb rx R' fun σ2 R3 _ => ⟨H2, S2, S', ρ1, R3, g', ?_⟩
      have p : PostS G W H0 S0 HB SB (match fb ρ1 with
        | .nx ρ2 => forN t fb (ds.drop (i + 1)) ρ2
        | .ct ρ2 => forN t fb (ds.drop (i + 1)) ρ2
        | .bk ρ2 => .nx ρ2
        | r => r) D := p
      cases z : fb ρ1 with
      | nx ρ2 => rw [z] at p; exact fun σ'' H'' S'' R'' g'' => ⟨S'', ρ2, R'', g'', p⟩
      | ct ρ2 => rw [z] at p; exact fun σ'' H'' S'' R'' g'' => ⟨S'', ρ2, R'', g'', p⟩
      | bk ρ2 => rw [z] at p; exact fun σ'' H'' S'' R'' g'' => p σ'' H'' S'' R'' (up g'')
      | rt o d => rw [z] at p; exact fun v H'' S'' g'' r => p v H'' S'' (up g'') r
      | ex c ρ2 => rw [z] at p; exact fun σ'' H'' S'' R'' g'' => p σ'' H'' S'' R'' (up g'')
      | fail => rw [z] at p; exact p
  · have e : i = ds.length := by omega
    subst e
    rw [List.drop_length] at p
    exact .inl ⟨wk.stop H' S' kp, p σ' H' S' R' (up g')⟩
theorem ps_ra {G : Gm} {W : WD} {H0 HB : Hp} {S0 SB : Sy} {x m : Str} {j : Nat} {p p2 pos cpos : Pos} {C : Addr} (hK : X.K = G.K) (hmg : X.mg = G.mg) (hc : X.calm = true) (tk : Takes X (wOf G W)) (hm : G.mg x = some (.ref C)) (q : ExcK G.K C) (hg : Gl X x) (hdb : (x == ("__debug__" : Str)) = false) :
    PS X (.Raise (some (.Call (.Name x p) [.Constant (.str m) j p2] [] cpos)) none pos) (tS G W H0 S0 HB SB fun ρ => .ex x ρ) :=
  (ps_raise hc tk (pmk_own PySem.F.excBase_ValueError (by rw [hK]; exact q.ex) (by rw [hmg]; exact hm) (by rw [hK]; exact q.kp) (raises_own (by rw [hK]; exact q.sb) (by rw [hK]; exact q.ty)) hg hdb)).im fun D σ H ⟨S, ρ, R, g, h⟩ => ⟨x, C, rfl, hm, rfl, h σ H S R g⟩

/-! ### match -/
/-- slots take values -/
inductive Bnd (G : Gm) (H : Hp) (S : Sy) (X : Cx) : List (Nat × D) → List (Str × Value) → Prop
  | nil : Bnd G H S X [] []
  | cons {i : Nat} {d : D} {x : Str} {v : V} {u : Value} {r : List (Nat × D)} {q : List (Str × Value)} (h1 : X.N[i]? = some x) (h2 : Loc X.env.scope x) (h3 : X.fn x = true ∨ X.env.scope.names.lookup x = some .local) (h4 : RelV v u) (h5 : Rep G H S d v) (t : Bnd G H S X r q) : Bnd G H S X ((i, d) :: r) ((x, u) :: q)
/-- the pattern's parts as the text has them -/
inductive Ppt (X : Cx) : List Pp → List Pattern → Prop
  | nil : Ppt X [] []
  | any {r : List Pp} {q : List Pattern} {p9 : Pos} (t : Ppt X r q) : Ppt X (.any :: r) (.MatchAs none none p9 :: q)
  | nm {i : Nat} {x : Str} {r : List Pp} {q : List Pattern} {p9 : Pos} (h1 : X.N[i]? = some x) (h2 : Loc X.env.scope x) (h3 : X.fn x = true ∨ X.env.scope.names.lookup x = some .local) (t : Ppt X r q) : Ppt X (.nm i :: r) (.MatchAs none (some x) p9 :: q)
  | lit {x : Str} {r : List Pp} {q : List Pattern} {k : Nat} {p1 p2 : Pos} (t : Ppt X r q) : Ppt X (.lit x :: r) (.MatchValue (.Constant (.str x) k p1) p2 :: q)
inductive Pat (X : Cx) : Pa → Pattern → Prop
  | any {p9 : Pos} : Pat X .any (.MatchAs none none p9)
  | lit {x : Str} {k : Nat} {p1 p2 : Pos} : Pat X (.lit x) (.MatchValue (.Constant (.str x) k p1) p2)
  | seq {ps : List Pp} {qs : List Pattern} {p9 : Pos} (h : Ppt X ps qs) (hs : qs.findIdx? (·.isStar) = none) (hw : (qs.all fun p => p.isWildcard || (p.isStar && p.names.isEmpty)) = false) : Pat X (.seq ps) (.MatchSequence qs p9)
theorem Ppt.len {ps : List Pp} {qs : List Pattern} (h : Ppt X ps qs) : qs.length = ps.length := by
  induction h with
  | nil => rfl
  | any _ ih => simp [ih]
  | nm _ _ _ _ ih => simp [ih]
  | lit _ ih => simp [ih]
section
variable {pins : List (Addr × Obj)} {σ : L2.St} {H : Hp} {S : Sy} {s : Shared} {E : Value → Shared → Prop}
theorem mt_lit (hK : X.K = G.K) (hu : X.A.units + 150 < cLine) {x : Str} {k : Nat} {p1 p2 : Pos} {d : D} {v : V} {u : Value} {b : Bool} {Q : Option (List (Str × Value)) → Shared → Prop} (I : Inv X pins σ H s) (r : RelV v u) (l : Rep G H S d v) (e : D.eqD d (.str x) = .ok b)
    (h : ∀ s', Inv X pins σ H s' → Q (if b = true then some [] else none) s') : wpAny (model X.prog X.w) X.A (matchPattern (.MatchValue (.Constant (.str x) k p1) p2) X.env u) Q X.xe s := by
  refine wpAny_matchPattern_Value (thn ((pe_str (x := x) (j := k) (pos := p1)).run pins s σ H (fun v H1 => v = .str x ∧ H1 = H) I ⟨rfl, rfl⟩) fun u2 s1 ⟨v2, H1, I1, r2, e2, e3⟩ => ?_)
  subst e2
  rw [e3] at I1
  refine thn ((cmp_eq (Q := fun w H1 => w = .bl b ∧ H1 = H) hK hu I1 r r2 (.inl l) (.inl (.str x)) e).1 ⟨rfl, rfl⟩) fun c s2 ⟨w, H2, I2, r3, e4, e5⟩ => ?_
  subst e4
  rw [e5] at I2
  cases r3
  refine wpAny_truthy_bool ?_
  cases b
  · exact h s2 I2
  · exact h s2 I2
theorem mt_each (hK : X.K = G.K) (hu : X.A.units + 150 < cLine) {ps : List Pp} {qs : List Pattern} (hp : Ppt X ps qs) : ∀ {ds : List D} {vs : List V} {us : List Value} {o : Option (List (Nat × D))} {Q : Option (List (Str × Value)) → Shared → Prop} {s : Shared}, Inv X pins σ H s → Vals vs us → Paired (Rep G H S) ds vs → ppD ps ds = .ok o →
    (∀ s', Inv X pins σ H s' → (o = none → Q none s') ∧ ∀ bs q, o = some bs → Bnd G H S X bs q → Q (some q) s') → wpAny (model X.prog X.w) X.A (matchEach qs X.env us) Q X.xe s := by
  induction hp with
  | nil =>
    intro ds vs us o Q s I r p e h
    cases p with
    | cons _ _ => cases e
    | nil =>
      cases r
      cases e
      exact wpAny_matchEach_nil ((h s I).2 [] [] rfl .nil)
  | any t ih =>
    intro ds vs us o Q s I r p e h
    cases p with
    | nil => cases e
    | cons p1 p2 =>
      cases r with
      | cons r1 r2 =>
        refine wpAny_matchEach_cons (wpAny_matchPattern_Capture ?_)
        exact ih I r2 p2 e fun s' I' => ⟨fun z => (h s' I').1 z, fun bs q z b => (h s' I').2 bs q z b⟩
  | nm h1 h2 h3 t ih =>
    rename_i i x r q p9
    intro ds vs us o Q s I r p e h
    cases p with
    | nil => cases e
    | cons p1 p2 =>
      cases r with
      | cons r1 r2 =>
        refine wpAny_matchEach_cons (wpAny_matchPattern_Capture ?_)
        unfold ppD at e
        split at e
        · rename_i rr e1
          cases e
          exact ih I r2 p2 e1 fun s' I' => ⟨fun z => (by cases z), fun bs q z b => (by cases z; exact (h s' I').2 _ _ rfl (.cons h1 h2 h3 r1 p1 b))⟩
        · rename_i x0 hne
          cases o with
          | none => exact ih I r2 p2 e fun s' I' => ⟨fun _ => (h s' I').1 rfl, fun bs q z => (by cases z)⟩
          | some rr => exact absurd e (hne rr)
  | lit t ih =>
    rename_i x r q k p1' p2'
    intro ds vs us o Q s I r p e h
    cases p with
    | nil => cases e
    | cons p1 p2 =>
      cases r with
      | cons r1 r2 =>
        refine wpAny_matchEach_cons ?_
        unfold ppD at e
        split at e
        · rename_i e1
          exact mt_lit hK hu I r1 p1 e1 fun s' I' => ih I' r2 p2 e fun s2 I2 => ⟨fun z => (h s2 I2).1 z, fun bs q z b => (h s2 I2).2 bs q z b⟩
        · rename_i e1
          cases e
          exact mt_lit hK hu I r1 p1 e1 fun s' I' => (h s' I').1 rfl
        · cases e
theorem mt_pat (hK : X.K = G.K) (hu : X.A.units + 150 < cLine) (hc : X.calm = true) {p : Pa} {q : Pattern} (hp : Pat X p q) {d : D} {v : V} {u : Value} {o : Option (List (Nat × D))} {Q : Option (List (Str × Value)) → Shared → Prop} (I : Inv X pins σ H s) (r : RelV v u) (l : Rep G H S d v) (e : paD p d = .ok o)
    (h : ∀ s', Inv X pins σ H s' → (o = none → Q none s') ∧ ∀ bs q, o = some bs → Bnd G H S X bs q → Q (some q) s') : wpAny (model X.prog X.w) X.A (matchPattern q X.env u) Q X.xe s := by
  cases hp with
  | any => cases e; exact wpAny_matchPattern_Capture ((h s I).2 [] [] rfl .nil)
  | lit =>
    unfold paD at e
    dsimp only at e
    split at e
    · rename_i e1; cases e; exact mt_lit hK hu I r l e1 fun s' I' => (h s' I').2 [] [] rfl .nil
    · rename_i e1; cases e; exact mt_lit hK hu I r l e1 fun s' I' => (h s' I').1 rfl
    · cases e
  | seq hq hs hw =>
    rename_i ps qs p9
    have miss : ∀ (T : String), s.TypeIs u T → flagOfType true (.type T) = pure false → o = none → wpAny (model X.prog X.w) X.A (matchPattern (.MatchSequence qs p9) X.env u) Q X.xe s := fun T hT hf ho =>
      wpAny_matchPattern_Sequence (wpAny_collectionFlag hT hf (by rw [if_neg Bool.false_ne_true]; exact (h s I).1 ho)) hs hw
    cases l with
    | int i =>
      cases e
      obtain ⟨t, rfl⟩ := r
      exact miss "int" (typeIs_int s i t) flag_seq_int rfl
    | str x =>
      cases e
      obtain ⟨t, rfl⟩ := r
      exact miss "str" rfl flag_seq_str rfl
    | @tup a xs ds z pz =>
      cases r
      have hq2 : SqT X.K H a xs := by rw [hK]; exact z.sq
      obtain ⟨its, rv, ht, hz⟩ := I.tuple hq2
      have hl : its.length = ds.length := by rw [← rv.length, Paired.length pz]
      have hfit : ((its.toArray.size : Nat) : Int) < 2 ^ 63 := by
        have : its.toArray.size ≤ sizeLine := by rw [List.size_toArray, ← rv.length]; exact hz
        rw [sizeLine_eq] at this
        omega
      have e : (if ds.length = ps.length then ppD ps ds else .ok none) = Res.ok o := e
      by_cases c : ds.length = ps.length
      · rw [if_pos c] at e
        refine PyProof.Rows.matchSeq_tuple_hit ht hfit (by rw [List.size_toArray, hl, c, hq.len]) ?_ hs hw
        have en : qs.length = its.toArray.size := by rw [List.size_toArray, hl, c, hq.len]
        rw [en]
        have ht' : IsTup s.heap a its.toArray := ht
        refine PyProof.Rows.unpackItems_tuple (I.ok.hd hc) ht' fun h' hx => ?_
        have I1 : Inv X pins σ H { s with heap := h', toks := s.toks + 1 + 1 } := (I.tok (s.toks + 1 + 1)).kept (t' := s.toks + 1 + 1) fun b o e => hx b o (Nat.ne_of_lt (Heap.lt_size e)) e
        exact mt_each hK hu hq I1 rv pz e h
      · rw [if_neg c] at e
        cases e
        exact PyProof.Rows.matchSeq_tuple_miss ht hfit (by rw [List.size_toArray, hl, hq.len]; exact c) ((h _ (I.tok _)).1 rfl) hs hw
    | _ => cases e
/-- the names take what the pattern took -/
theorem bnd_run {H0 : Hp} : ∀ {bs : List (Nat × D)} {q : List (Str × Value)} {ρ : En} {σ : L2.St} {s : Shared} {Q : Unit → Shared → Prop}, Bnd G H S X bs q → X.N.Nodup → Inv X pins σ H s → REnv G H0 H S σ ρ → (∀ σ' s', Inv X pins σ' H s' → REnv G H0 H S σ' (binds bs ρ) → Q () s') →
    wpAny (model X.prog X.w) X.A (assignInOrder (q.map fun z => bindName X.env z.1) (q.map (·.2))) Q X.xe s
  | _, _, ρ, σ, s, Q, .nil, _, I, R, h => wpAny_assignInOrder_none (h σ s I R)
  | _, _, ρ, σ, s, Q, .cons (i := i) (d := d) h1 h2 h3 h4 h5 t, nd, I, R, h =>
    wpAny_assignInOrder_more (wpAny_bindName (store_ok I nd h1 h2 h4 (fun s' I' => bnd_run t nd I' (R.setF i h5) h) h3))
end
/-- cases -/
inductive MCs (X : Cx) (G : Gm) (W : WD) (H0 : Hp) (S0 : Sy) (HB : Hp) (SB : Sy) (f : Sts → En → Fl) : Css → List MatchCase → Prop
  | nil : MCs X G W H0 S0 HB SB f .nil []
  | cons {p q b body r cs} (hp : Pat X p q) (hb : PSs X body (tS G W H0 S0 HB SB (f b))) (t : MCs X G W H0 S0 HB SB f r cs) : MCs X G W H0 S0 HB SB f (.cons p b r) (⟨q, none, body⟩ :: cs)
theorem ps_mt {T : Tb} {wf : Nat} (hK : X.K = G.K) (hu : X.A.units + 150 < cLine) (hc : X.calm = true) (nd : X.N.Nodup) {x : Str} {px : Pos} {i : Nat} {cs : Css} {ms : List MatchCase} (hx : PE X (.Name x px) (tVar i)) (hm : MCs X G W H0 S0 HB SB (exs T wf) cs ms) :
    PS X (.Match (.Name x px) ms pos) (tS G W H0 S0 HB SB fun ρ => onR (getF ρ i) ρ fun x => excs T wf cs x.2 ρ) := by
  refine ⟨fun pins s σ H D I ⟨S, ρ, R, g, p⟩ => ?_⟩
  dsimp only at p
  cases e : getF ρ i with
  | fail => rw [e] at p; exact p.elim
  | exc c => unfold getF at e; split at e <;> cases e
  | ok y =>
    rw [e] at p
    have e2 : ∃ d, ρ[i]? = some (some (false, d)) ∧ y = (false, d) := by
      unfold getF at e
      split at e
      · cases e; exact ⟨_, by assumption, rfl⟩
      · cases e
    obtain ⟨d, e3, rfl⟩ := e2
    obtain ⟨v, hv, hr⟩ := R.slot i false d e3
    have hr : Rep G H S d v := hr
    have p : PostS G W H0 S0 HB SB (excs T wf cs d ρ) D := p
    refine wpAny_Match (thn (hx.run pins s σ H (fun w H1 => w = v ∧ H1 = H) I ⟨v, hv, rfl, rfl⟩) fun u s1 ⟨w, H1, I1, r1, q1, q2⟩ => ?_)
    subst q1
    rw [q2] at I1
    clear e I
    have go : ∀ {cs : Css} {ms : List MatchCase}, MCs X G W H0 S0 HB SB (exs T wf) cs ms → ∀ (b : Bool) (s : Shared), Inv X pins σ H s → PostS G W H0 S0 HB SB (excs T wf cs d ρ) D → wpAny (model X.prog X.w) X.A (matchCases ms X.env u b) (SP X pins D) X.xe s := by
      intro cs ms hm
      induction hm with
      | nil =>
        intro b s I p
        exact wpAny_matchCases_nil ⟨σ, H, I, p σ H S R g⟩
      | cons hp hb t ih =>
        rename_i p0 q0 b0 body r0 cs0
        intro b s I p
        have p : PostS G W H0 S0 HB SB (match paD p0 d with | .ok (some bs) => exs T wf b0 (binds bs ρ) | .ok none => excs T wf r0 d ρ | _ => .fail) D := p
        refine wpAny_matchCases_cons ?_
        cases e : paD p0 d with
        | fail => rw [e] at p; exact p.elim
        | exc c => rw [e] at p; exact p.elim
        | ok o =>
          rw [e] at p
          refine mt_pat hK hu hc hp I r1 hr e fun s' I' => ⟨fun z => ?_, fun bs q z hb' => ?_⟩
          · subst z
            exact ih false s' I' p
          · subst z
            refine bnd_run (H0 := H0) hb' nd I' R fun σ' s2 I2 R2 => ?_
            exact hb.run pins s2 σ' H D I2 ⟨S, _, R2, g, p⟩
    exact go hm true s1 I1 p
end
end Hf

/-! Hf12: the text's statements as the small language's; they do what it says. -/
namespace Hf
open PySem PySem.Spec PyProof.Rows L2
set_option autoImplicit false

def notComp : Expr → Bool
  | .ListComp .. => false
  | .SetComp .. => false
  | .DictComp .. => false
  | _ => true
def notTup : Expr → Bool
  | .Tuple .. => false
  | .List .. => false
  | _ => true
/-- a comprehension's list goes into the name at once -/
def swB (c : Cc) (y : Str) (py : Pos) (scope : Scope) (pos : Pos) : Bool := decide (kindC c y = some .local) && py.line == pos.line && !(scope.names.any fun (n, k) => n == y && (k == .local || k == .cell))
def cSs (f : Stmt → Option St) : List Stmt → Option Sts
  | [] => some .nil
  | s :: ss => match f s, cSs f ss with
    | some p, some ps => some (.cons p ps)
    | _, _ => none
def cPps (c : Cc) : List Pattern → Option (List Pp)
  | [] => some []
  | .MatchAs none none _ :: r => (cPps c r).map (.any :: ·)
  | .MatchAs none (some x) _ :: r => (match stOf c x, cPps c r with
    | some i, some ps => some (.nm i :: ps)
    | _, _ => none)
  | .MatchValue (.Constant (.str x) _ _) _ :: r => (cPps c r).map (.lit x :: ·)
  | _ => none
def wildAll (ps : List Pattern) : Bool := ps.all fun p => p.isWildcard || (p.isStar && p.names.isEmpty)
def cPa (c : Cc) : Pattern → Option Pa
  | .MatchAs none none _ => some .any
  | .MatchValue (.Constant (.str x) _ _) _ => some (.lit x)
  | .MatchSequence ps _ => (match (ps.findIdx? (·.isStar)).isNone, wildAll ps with
    | true, false => (cPps c ps).map .seq
    | _, _ => none)
  | _ => none
def cMs (c : Cc) (f : Stmt → Option St) : List MatchCase → Option Css
  | [] => some .nil
  | ⟨q, none, body⟩ :: r => (match cPa c q, cSs f body, cMs c f r with
    | some p, some b, some cs => some (.cons p b cs)
    | _, _, _ => none)
  | _ => none
def cS : Nat → Cc → Stmt → Option St
  | 0, _, _ => none
  | n + 1, c, s => match s with
    | .Pass _ => some .pass
    | .Break _ => some .brk
    | .Continue _ => some .cnt
    | .Return none _ => some .retN
    | .Return (some e) _ => (cE n c e).map .ret
    | .Expr (.Constant (.str _) _ _) _ => some .pass
    | .Expr (.Call (.Attribute (.Name x _) m apos) [e] [] cpos) _ => (match slotOf c x, isStar e, cE n c e, apos.endLine == cpos.line with
      | some i, false, some p, true => if m = ("append" : Str) then some (.app i p) else if m = ("extend" : Str) then some (.ext i p) else none
      | _, _, _, _ => none)
    | .Expr e _ => (match notComp e, cE n c e with
      | true, some p => some (.expr p)
      | _, _ => none)
    | .Assign [t] (.Call (.Attribute (.Name y _) m apos) [] [] cpos) _ => (match slotOf c y, cTg c t, apos.endLine == cpos.line with
      | some j, some t, true => if m = ("pop" : Str) then some (.pop t j) else none
      | _, _, _ => none)
    | .Assign [.Name x px] (.ListComp elt gs scope cpos) _ => (match stOf c x, cE n c (.ListComp elt gs scope cpos) with
      | some i, some p => some (.set i p)
      | _, _ => none)
    | .Assign [.Name x px] (.DictComp kx vx gs scope cpos) _ => (match stOf c x, swB c x px scope cpos, cE n c (.DictComp kx vx gs scope cpos) with
      | some i, false, some p => some (.set i p)
      | _, _, _ => none)
    | .Assign [.Name x _] e _ => (match stOf c x, notComp e, cE n c e with
      | some i, true, some p => some (.set i p)
      | _, _, _ => none)
    | .Assign [.Tuple es k tp] e _ => (match cTg c (.Tuple es k tp), notComp e, notTup e, cE n c e with
      | some t, true, true, some p => some (.sets t p)
      | _, _, _, _ => none)
    | .Assign [.Subscript (.Name x _) k _] e _ => (match slotOf c x, isSlice k, notComp e, cE n c k, cE n c e with
      | some i, false, true, some q, some p => some (.put i q p)
      | _, _, _, _, _ => none)
    | .AugAssign (.Name x _) o e _ => (match stOf c x, cE n c e with
      | some i, some p => some (.aug i o p)
      | _, _ => none)
    | .If t a b _ => (match cT n c t, cSs (cS n c) a, cSs (cS n c) b with
      | some t, some p, some q => some (.ifs t p q)
      | _, _, _ => none)
    | .While t a [] _ => (match cT n c t, cSs (cS n c) a with
      | some t, some p => some (.whl t p)
      | _, _ => none)
    | .For tg it a [] _ => (match c.hot, cTg c tg, cI n c it, cSs (cS n c) a with
      | false, some t, some i, some p => some (.for_ t i p)
      | _, _, _, _ => none)
    | .Try body [.ExceptHandler (some (.Name cl _)) (some nm) [.Return (some (.Tuple [.Constant (.bool false) _ _, .Call (.Name f _) [.Name nm2 _] [] _] _ _)) _] _] [] [] _ => (match c.hot, cSs (cS n c) body, idxN c.N nm with
      | false, some b, some i => if nm2 = nm ∧ (isGl c cl = true ∧ cl ∈ c.mo.es) ∧ isGl c f = true ∧ okNm nm = true ∧ kindC c nm = some .local then some (.tryW b cl i f) else none
      | _, _, _ => none)
    | .Match (.Name x _) ms _ => (match c.hot, slotOf c x, cMs c (cS n c) ms with
      | false, some i, some cs => some (.mtc i cs)
      | _, _, _ => none)
    | .Raise (some (.Call (.Name x _) [.Constant (.str _) _ _] [] _)) none _ => if isGl c x = true ∧ x ∈ c.mo.es ∧ c.hot = false then some (.raise x) else none
    | _ => none

/-- what the def f says of the error that is handled, its class c -/
def HotF (P : Program) (w : World) (G : Gm) (base : Heap) (n : Nat) (f c : Str) (d : D) : Prop :=
  ∃ (fa : Addr) (fd : FuncData) (ps : List Str) (z : Str), d = .str z ∧ G.mg f = some (.ref fa) ∧ PySem.W.keepIn G.K (.ref fa) = true ∧ Binds G.K fd ps [] ∧ ps.length = 1 ∧
    ∀ (A : Around) (outer : List Env) (s : Shared) (H : Hp) (args : Args) (us : List Value) (q : Addr × Obj) (C : Addr) (Q : VK), L2H.RoomH n A → L2H.PinOk outer H s q → Env0 P w G.K G.mg base A outer s H → BindsTo s fd args (ps.zip us) → Vals [.ref q.1] us →
      G.mg c = some (.ref C) → Zc (.ref C) none q.2 → (∃ vs, q.2.data = .fields vs) → (∃ S, Dm G H S ∧ ∀ H' S', Gr H S H' S' → Q (.str z) H') → codeAny (model P w) A (.call (.ref fa) args) (CR (L2.CX P w) outer P w H s Q fun _ _ _ => False) s
structure StaS (P : Program) (w : World) (G : Gm) (base : Heap) (T : Tb) (n : Nat) (c : Cc) (W : WD) (X : Cx) : Prop extends Sta P w G base T n c W X where
  top : c.top = true
  lo : c.low = false
  kd : X.env.scope.kind = .function
  hp : PassesOwn (model X.prog X.w) X.A X.env X.xe
  stk : X.stack = X.env :: X.outer
  frm : X.env.frame = some X.env.locals
  hots : c.hot = false → ∀ f k d, T.hot f k = some d → HotF P w G base n f k d
section
variable {P : Program} {w : World} {G : Gm} {base : Heap} {T : Tb} {m : Nat} {c : Cc} {W : WD} {X : Cx} {H0 : Hp}
theorem comp_no {e : Expr} (h : notComp e = true) (t : Option Expr) (l : Nat) (env : Env) : swapsWith e t l env = pure false := by
  cases e <;> first | rfl | cases h
theorem tup_no {e : Expr} (h : notTup e = true) (ts : List Expr) (k : Nat) (p : Pos) (env : Env) : swappedStores [.Tuple ts k p] e env = pure none := by
  cases e <;> first | rfl | cases h
theorem sub_no (e : Expr) (o i : Expr) (p : Pos) (env : Env) : swappedStores [.Subscript o i p] e env = pure none := by
  cases e <;> rfl
theorem sw_gen {elt : Expr} {gs : List Comprehension} {scope : Scope} {pos py : Pos} {y : Str} {l : Nat} {env : Env} : swapsWith (.ListComp elt gs scope pos) (some (.Name y py)) l env = pure (env.blockKind == .function && env.kindOf y == some .local && py.line == pos.line && !(scope.names.any fun (n, k) => n == y && (k == .local || k == .cell))) := rfl
theorem sw_genD {kx vx : Expr} {gs : List Comprehension} {scope : Scope} {pos py : Pos} {y : Str} {l : Nat} {env : Env} : swapsWith (.DictComp kx vx gs scope pos) (some (.Name y py)) l env = pure (env.blockKind == .function && env.kindOf y == some .local && py.line == pos.line && !(scope.names.any fun (n, k) => n == y && (k == .local || k == .cell))) := rfl
theorem Sta.st (s : Sta P w G base T m c W X) (ht : c.top = true) {x : Str} {i : Nat} (h : stOf c x = some i) : X.N[i]? = some x ∧ Loc X.env.scope x ∧ (X.fn x = true ∨ X.env.scope.names.lookup x = some .local) := by
  unfold stOf at h
  have kk : ∀ k, kindC c x = some k → X.env.scope.names.lookup x = some k := fun k q => by rw [s.sc]; exact q
  have go : ∀ (q : idxN c.N x = some i), X.N[i]? = some x := fun q => by rw [s.N]; exact idxN_ok q
  cases kd : kindC c x with
  | none => rw [kd] at h; cases h
  | some k =>
    rw [kd] at h
    cases k with
    | «local» => exact ⟨go h, .inl (kk _ kd), .inr (kk _ kd)⟩
    | cell =>
      rw [ht] at h
      exact ⟨go h, .inr (kk _ kd), .inl (s.fn ht x)⟩
    | free => cases h
    | globalExplicit => cases h
    | globalImplicit => cases h
theorem cPps_ok (s : Sta P w G base T m c W X) (ht : c.top = true) : ∀ (qs : List Pattern) (ps : List Pp), cPps c qs = some ps → Ppt X ps qs
  | [], ps, h => by cases h; exact .nil
  | q :: r, ps, h => by
    unfold cPps at h
    split at h
    · rename_i e; cases e
    · rename_i e
      cases e
      obtain ⟨p, h1, h2⟩ := Option.map_eq_some_iff.mp h
      cases h2
      exact .any (cPps_ok s ht _ p h1)
    · rename_i e
      cases e
      split at h
      · rename_i h1 h2
        cases h
        obtain ⟨k1, k2, k3⟩ := s.st ht h1
        exact .nm k1 k2 k3 (cPps_ok s ht _ _ h2)
      · cases h
    · rename_i e
      cases e
      obtain ⟨p, h1, h2⟩ := Option.map_eq_some_iff.mp h
      cases h2
      exact .lit (cPps_ok s ht _ p h1)
    · cases h
theorem cPa_ok (s : Sta P w G base T m c W X) (ht : c.top = true) {q : Pattern} {p : Pa} (h : cPa c q = some p) : Pat X p q := by
  unfold cPa at h
  split at h
  · cases h; exact .any
  · cases h; exact .lit
  · split at h
    · rename_i h1 h2
      obtain ⟨ps, h3, h4⟩ := Option.map_eq_some_iff.mp h
      cases h4
      exact .seq (cPps_ok s ht _ ps h3) (Option.isNone_iff_eq_none.mp h1) h2
    · cases h
  · cases h
theorem comp_inv {n : Nat} {elt : Expr} {gs : List Comprehension} {scope : Scope} {cpos : Pos} {p : Ex} (h : cE (n + 1) c (.ListComp elt gs scope cpos) = some p) : ∃ tg iter ifs t it k q, gs = [⟨tg, iter, ifs, 0⟩] ∧
    (blkC c.N c.sc scope (ownOf c.N scope) && !c.hot) = true ∧ cTg { c with sc := relS scope c.sc, top := false, gen := false } tg = some t ∧ cI n c iter = some it ∧
    (match ifs with | [] => some Tes.nil | [t] => (cT n { c with sc := relS scope c.sc, top := false, gen := false } t).map Tes.one | _ => none) = some k ∧ cE n { c with sc := relS scope c.sc, top := false, gen := false } elt = some q ∧
    t.sl.all (fun i => decide (i ∈ (ownOf c.N scope).map (·.2))) = true ∧ p = .comp t ((ownOf c.N scope).map (·.2)) it k q := by
  unfold cE at h
  split at h
  all_goals first
    | (rename_i heq; cases heq; done)
    | (rename_i heq _; cases heq; done)
    | (cases h; done)
    | skip
  rename_i elt' tg iter ifs scope' pos' heq
  cases heq
  dsimp only at h
  split at h
  · rename_i q1 q2 q3 q4 q5
    split at h
    · rename_i q6
      cases h
      exact ⟨tg, iter, ifs, _, _, _, _, rfl, q1, q2, q3, q4, q5, q6, rfl⟩
    · cases h
  · cases h
/-- name = e, e no comprehension -/
theorem set_plain (s : StaS P w G base T m c W X) {x : Str} {i : Nat} {px pos : Pos} {e : Expr} {te : TE} (h : stOf c x = some i) (he : PE X e te) (hs : swapsWith e (some (.Name x px)) pos.line X.env = pure false) : PS X (.Assign [.Name x px] e pos) (tAsg te (gName i)) := by
  obtain ⟨h1, h2, h3⟩ := s.toSta.st s.top h
  exact ps_set s.nd h1 h2 he hs h3
/-- name = [..] -/
theorem set_comp {n : Nat} (s : StaS P w G base T m c W X) {x : Str} {i : Nat} {px pos cpos : Pos} {elt : Expr} {gs : List Comprehension} {scope : Scope} {p : Ex} (h : stOf c x = some i) (hp : cE n c (.ListComp elt gs scope cpos) = some p) :
    PS X (.Assign [.Name x px] (.ListComp elt gs scope cpos) pos) (tAsg (tD G W H0 (ev T p)) (gName i)) := by
  have hk : X.env.kindOf x = kindC c x := by
    show X.env.scope.names.lookup x = c.sc.names.lookup x
    rw [s.sc]
  have hb : X.env.blockKind = .function := by unfold Env.blockKind; rw [s.kd]; rfl
  cases n with
  | zero => cases hp
  | succ n =>
    obtain ⟨ihE, ihT, ihI⟩ := @ok_all P w G base T m H0 n
    have hE := (@ok_all P w G base T m H0 (n + 1)).1 c _ p hp W X s.toSta
    cases z : swB c x px scope cpos with
    | false =>
      refine set_plain s h hE.1 ?_
      rw [sw_gen, hb, hk]
      have : (ScopeKind.function == ScopeKind.function && kindC c x == some NameKind.local && px.line == cpos.line && !(scope.names.any fun (n, k) => n == x && (k == .local || k == .cell))) = swB c x px scope cpos := by
        unfold swB
        rw [show (ScopeKind.function == ScopeKind.function) = true from rfl, Bool.true_and, show (kindC c x == some NameKind.local) = decide (kindC c x = some NameKind.local) from by rw [Bool.eq_iff_iff]; simp]
      rw [this, z]
    | true =>
      unfold swB at z
      simp only [Bool.and_eq_true, decide_eq_true_eq, Bool.not_eq_true'] at z
      obtain ⟨⟨z1, z2⟩, z3⟩ := z
      have hloc : X.env.scope.names.lookup x = some .local := by rw [s.sc]; exact z1
      obtain ⟨h1, _, _⟩ := s.toSta.st s.top h
      obtain ⟨tg, iter, ifs, t, it, k, q, rfl, q1, q2, q3, q4, q5, q6, rfl⟩ := comp_inv hp
      obtain ⟨k1, k2, k3, k4, k5, k6⟩ := co_ok (H0 := H0) ihE ihT ihI s.toSta (pos := ⟨0, 0, 0, 0⟩) q1 q2 q3 q4 q5 q6 (cI_set q3)
      have hsw : swapsWith (.ListComp elt [⟨tg, iter, ifs, 0⟩] scope cpos) (some (.Name x px)) pos.line X.env = pure true := sw_true s.kd hloc z2 z3
      exact (ps_setLc (s.calm (by have := (Bool.and_eq_true_iff.mp q1).2; simpa using this)) s.nd h1 hloc hsw k2 k3 k4 k5 k6 (sw_no (cI_set q3) X.env)).im fun D σ H q => k1 σ H _ q
/-- name = {..: ..} -/
theorem set_dcomp {n : Nat} (s : StaS P w G base T m c W X) {x : Str} {i : Nat} {px pos cpos : Pos} {kx vx : Expr} {gs : List Comprehension} {scope : Scope} {p : Ex} (h : stOf c x = some i) (z : swB c x px scope cpos = false) (hp : cE n c (.DictComp kx vx gs scope cpos) = some p) :
    PS X (.Assign [.Name x px] (.DictComp kx vx gs scope cpos) pos) (tAsg (tD G W H0 (ev T p)) (gName i)) := by
  have hk : X.env.kindOf x = kindC c x := by
    show X.env.scope.names.lookup x = c.sc.names.lookup x
    rw [s.sc]
  have hb : X.env.blockKind = .function := by unfold Env.blockKind; rw [s.kd]; rfl
  refine set_plain s h ((@ok_all P w G base T m H0 n).1 c _ p hp W X s.toSta).1 ?_
  rw [sw_genD, hb, hk]
  have : (ScopeKind.function == ScopeKind.function && kindC c x == some NameKind.local && px.line == cpos.line && !(scope.names.any fun (n, k) => n == x && (k == .local || k == .cell))) = swB c x px scope cpos := by
    unfold swB
    rw [show (ScopeKind.function == ScopeKind.function) = true from rfl, Bool.true_and, show (kindC c x == some NameKind.local) = decide (kindC c x = some NameKind.local) from by rw [Bool.eq_iff_iff]; simp]
  rw [this, z]
end
end Hf

/-! Hf13: the induction over the text's statements. -/
namespace Hf
open PySem PySem.Spec PyProof.Rows L2
set_option autoImplicit false
section
variable (P : Program) (w : World) (G : Gm) (base : Heap) (T : Tb) (m : Nat) (H0 : Hp) (S0 : Sy) (wf : Nat)
def OkS (n : Nat) : Prop := ∀ (c : Cc) (s : Stmt) (p : St), cS n c s = some p → ∀ (W : WD) (X : Cx) (HB : Hp) (SB : Sy), StaS P w G base T m c W X → PS X s (tS G W H0 S0 HB SB (ex T wf p))
end
section
variable {P : Program} {w : World} {G : Gm} {base : Heap} {T : Tb} {m : Nat} {H0 HB : Hp} {S0 SB : Sy} {wf : Nat} {c : Cc} {W : WD} {X : Cx}
theorem cSs_ok {n : Nat} (ih : OkS P w G base T m H0 S0 wf n) (s : StaS P w G base T m c W X) : ∀ (ss : List Stmt) (ps : Sts) (HB : Hp) (SB : Sy), cSs (cS n c) ss = some ps → PSs X ss (tS G W H0 S0 HB SB (exs T wf ps))
  | [], ps, HB, SB, h => by cases h; exact pss_ni
  | a :: ss, ps, HB, SB, h => by
    have h' : (match cS n c a, cSs (cS n c) ss with | some p, some ps => some (Sts.cons p ps) | _, _ => none) = some ps := h
    cases q2 : cS n c a with
    | none => rw [q2] at h'; cases h'
    | some p =>
      cases q3 : cSs (cS n c) ss with
      | none => rw [q2, q3] at h'; cases h'
      | some r =>
        rw [q2, q3] at h'
        cases h'
        exact pss_co (ih c a p q2 W X HB SB s) (cSs_ok ih s ss r HB SB q3)
theorem cMs_ok {n : Nat} (ih : OkS P w G base T m H0 S0 wf n) (s : StaS P w G base T m c W X) : ∀ (ms : List MatchCase) (cs : Css) (HB : Hp) (SB : Sy), cMs c (cS n c) ms = some cs → MCs X G W H0 S0 HB SB (exs T wf) cs ms
  | [], cs, HB, SB, h => by cases h; exact .nil
  | a :: ms, cs, HB, SB, h => by
    unfold cMs at h
    split at h
    · rename_i e; cases e
    · rename_i e
      cases e
      split at h
      · rename_i h1 h2 h3
        cases h
        exact .cons (cPa_ok s.toSta s.top h1) (cSs_ok ih s _ _ HB SB h2) (cMs_ok ih s _ _ HB SB h3)
      · cases h
    · cases h
theorem okE (n : Nat) : OkE P w G base T m H0 n := (ok_all n).1
theorem okT (n : Nat) : OkT P w G base T m H0 n := (ok_all n).2.1
theorem okI (n : Nat) : OkI P w G base T m H0 n := (ok_all n).2.2
theorem few_of {cpos : Pos} {e : Expr} {env : Env} (h : isStar e = false) : ((backTo cpos (starEach [e] env)).all (fun x => !x.1) && (backToKw cpos (keywordEach [] env)).all (fun x => x.1.isSome)
      && decide ([e].length + ([] : List Keyword).length + (if ([] : List Keyword).isEmpty then 0 else 1) < 30)) = true := by
  rw [star_of h [] env]
  rfl
theorem tsEq {f g : En → Fl} (e : f = g) {st : Stmt} (h : PS X st (tS G W H0 S0 HB SB f)) : PS X st (tS G W H0 S0 HB SB g) := e ▸ h
theorem ret_eq {p : Ex} (hp : ∀ i, p ≠ .var i) : (fun ρ => onR (ev T p (fz (us p) ρ)) (fz (us p) ρ) fun x => Fl.rt x.1 x.2) = ex T wf (.ret p) := by
  funext ρ
  cases p with
  | var i => exact absurd rfl (hp i)
  | _ => rfl
theorem comp_noS {e : Expr} (h : notComp e = true) (t : Expr) (l : Nat) (env : Env) : swapsWithSole [t] e l env = pure false := comp_no h _ _ _
theorem cBo_var (and : Bool) (f : Expr → Option Ex) (e1 e2 : Expr) (es : List Expr) (i : Nat) : cBo and f (e1 :: e2 :: es) ≠ some (.var i) := fun h => by
  have h' : (match f e1, cBo and f (e2 :: es) with | some p, some q => some (if and = true then Ex.and p q else .or p q) | _, _ => none) = some (.var i) := h
  split at h'
  · cases and <;> cases h'
  · cases h'
theorem var_of {n : Nat} (s : Sta P w G base T m c W X) {e : Expr} {i : Nat} (h : cE n c e = some (.var i)) : PE X e (tVar i) := by
  cases n with
  | zero => cases h
  | succ n =>
    unfold cE at h
    split at h
    all_goals first
      | (cases h; done)
      | (split at h <;> cases h; done)
      | (obtain ⟨_, _, e⟩ := Option.map_eq_some_iff.mp h; cases e; done)
      | (exact absurd h (cBo_var _ _ _ _ _ _))
      | skip
    · split at h
      · rename_i j q
        cases h
        exact s.var q
      · split at h <;> cases h
    · split at h
      · split at h
        · split at h
          · split at h <;> cases h
          · cases h
        · cases h
      · split at h
        · split at h
          · obtain ⟨_, _, e⟩ := Option.map_eq_some_iff.mp h
            cases hlo : c.low <;> rw [hlo] at e <;> cases e
          · cases h
        · split at h
          · split at h
            · split at h <;> cases h
            · split at h
              · split at h <;> cases h
              · cases h
            · cases h
          · split at h
            · dsimp only at h
              split at h
              · split at h <;> cases h
              · cases h
            · split at h
              · cases h
              · split at h
                · split at h <;> cases h
                · cases h
            · split at h
              · split at h <;> cases h
              · cases h
    · dsimp only at h
      split at h
      · split at h <;> cases h
      · cases h
    · split at h
      · split at h <;> cases h
      · cases h
    · dsimp only at h
      split at h
      · split at h <;> cases h
      · cases h
theorem pop_sw {t : Expr} {t' : Tg} (h : cTg c t = some t') {o : Expr} {m : Str} {apos cpos : Pos} {env : Env} : swappedStores [t] (.Call (.Attribute o m apos) [] [] cpos) env = pure none := by
  cases t <;> first | rfl | cases h
theorem tg_each {t : Expr} {t' : Tg} (h : cTg c t = some t') {env : Env} : (assignEach [t] env).map (·.2) = [assign t env] := by
  cases t <;> first | rfl | cases h
theorem sub_asg {o i : Expr} {pos : Pos} {env : Env} (h : isSlice i = false) : ∀ v, assign (.Subscript o i pos) env v = (do
      let ov ← holding [v] (eval o env)
      let iv ← holding [v, ov] (eval i env)
      standAt pos
      holding [v, ov, iv] (setItem ov iv v)
      release [v, ov, iv] []) := by
  intro v
  cases i with
  | Slice _ _ _ _ => cases h
  | _ => rfl
/-- what a try's body does, whatever is wished of its errors -/
def tTb (G : Gm) (H0 : Hp) (S0 : Sy) (HB : Hp) (SB : Sy) (f : En → Fl) (W' : WX) : TS := fun D σ H => ∃ W2 : WD, (∀ cls d σ H, wOf G W2 cls d σ H → W' cls d σ H) ∧ tS G W2 H0 S0 HB SB f D σ H
/-- what the suite does -/
def tSu (T : Tb) (G : Gm) (f : Str) (i : Nat) (a : Addr) (cls : Value) (d : Option Addr) : TS := fun D σ H => ∃ (k : Str) (C : Addr) (z : Str) (S : Sy), cls = .ref C ∧ d = none ∧ G.mg k = some (.ref C) ∧ T.hot f k = some (.str z) ∧ Dm G H S ∧ σ[i]? = some (some (.ref a)) ∧
  ∀ v H' S', Gr H S H' S' → Rep G H' S' (.tup [.bl false, .str z]) v → D.rt v H'
theorem StaS.tr (st : StaS P w G base T m c W X) (hh : c.hot = false) {W2 : WD} {W' : WX} {pn : List (Addr × Obj)} {xe : Value → Shared → Prop} (tk : Takes (X.tr pn xe) W') (sub : ∀ cls d σ H, wOf G W2 cls d σ H → W' cls d σ H) (hp : PassesOwn (model X.prog X.w) X.A X.env xe) :
    StaS P w G base T m c W2 (X.tr pn xe) :=
  { eP := st.eP, ew := st.ew, K := st.K, mg := st.mg, gw := st.gw, eb := st.eb, N := st.N, sc := st.sc, nd := st.nd, calm := st.calm, fn := st.fn, room := st.room, un := st.un, tk := tk.imp sub, fns := st.fns, fnv := st.fnv, fnl := st.fnl, lw := st.lw, gen := st.gen, lo := st.lo, hx0 := st.hx0,
    hxs := fun a c h => by rw [st.hx0 hh] at h; cases h
    tgl := st.tgl, tki := st.tki, tsb := st.tsb, mo := st.mo, top := st.top, kd := st.kd, hp := hp, stk := st.stk, frm := st.frm, hots := st.hots }
theorem pe_hot (st : StaS P w G base T m c W X) (hh : c.hot = false) {f nm : Str} {i : Nat} {q p2 pos : Pos} {a : Addr} {oe : Obj} {cls : Value} {d : Option Addr} {pn : List (Addr × Obj)} (hz : Zc cls d oe) (hf : ∃ vs, oe.data = .fields vs) (hg : isGl c f = true) (hi : idxN c.N nm = some i) (ok : okNm nm = true) (hk : kindC c nm = some .local) :
    PE (X.suite a ((a, oe) :: pn)) (.Call (.Name f q) [.Name nm p2] [] pos) (fun σ H Q => ∃ (k : Str) (C : Addr) (z : Str) (S : Sy), cls = .ref C ∧ d = none ∧ G.mg k = some (.ref C) ∧ T.hot f k = some (.str z) ∧ Dm G H S ∧ σ[i]? = some (some (.ref a)) ∧ ∀ H' S', Gr H S H' S' → Q (.str z) H') := by
  obtain ⟨g1, g2, _⟩ := st.toSta.gl hg
  obtain ⟨d1, d2, _⟩ := okNm_ok ok
  have hN : X.N[i]? = some nm := by rw [st.N]; exact idxN_ok hi
  have hv : Vis X.env.scope nm := .inl (by rw [st.sc]; exact hk)
  refine ⟨fun pins s σ H Q I ⟨k, C, z, S, e1, e2, m1, hT, dm, hs, hq⟩ => ?_⟩
  subst e1 e2
  obtain ⟨fa, fd, ps, z', ez, m2, kp, hb, hl, hrun⟩ := st.hots hh f k _ hT
  cases ez
  have hm : (X.suite a ((a, oe) :: pn)).mg f = some (.ref fa) := by show X.mg f = _; rw [st.mg]; exact m2
  have g1' : Gl (X.suite a ((a, oe) :: pn)) f := g1
  refine wpAny_Call_Name_kw (ld_glob I g1' hm ?_ g2)
  have ha : PA (X.suite a ((a, oe) :: pn)) [.Name nm p2] (tCons (tVar i) tNil) := pa_cons (pe_var hN hv d1 d2) pa_nil rfl
  refine PySem.W.callWith_K (h₀ := X.base) I.ok.mod.kin (by show PySem.W.keepIn X.K _ = true; rw [st.K]; exact kp) (thn (ha.run pos pins s σ H (fun vs H1 => vs = [V.ref a] ∧ H1 = H) I ⟨.ref a, hs, rfl, rfl⟩) fun us s1 ⟨vs, H1, I1, r, q1⟩ => ⟨I1.kIn, ?_⟩) rfl rfl
  obtain ⟨e5, e6⟩ := q1
  subst e5
  rw [e6] at I1
  have P1 := I1.pin (a, oe) (List.mem_append_left _ List.mem_cons_self)
  have hpin : L2H.PinOk (X.suite a ((a, oe) :: pn)).stack H s1 (a, oe) := ⟨P1.1, P1.2.1, fun hm => (List.mem_cons.mp (I1.stkSub a hm)).elim P1.2.2.1 P1.2.2.2.1, P1.2.2.2.2⟩
  have hr : L2H.RoomH m (X.suite a ((a, oe) :: pn)).A := by have r := st.room hh; rw [st.lo] at r; have r : Room m X.A := r; exact ⟨r.dp, r.un⟩
  have hlu : us.length = ps.length := by rw [← r.length, hl]; rfl
  have b := hb s1 us (by have := I1.kIn; rw [← st.K]; exact this) (by rw [List.append_nil]; exact hlu)
  rw [List.append_nil] at b
  have e0 : Env0 P w G.K G.mg base (X.suite a ((a, oe) :: pn)).A (X.suite a ((a, oe) :: pn)).stack s1 H := by
    have := I1.env0
    rw [← st.eP, ← st.ew, ← st.K, ← st.mg, ← st.eb]
    exact this
  have key := hrun _ _ s1 H ⟨us, []⟩ us (a, oe) C Q hr hpin e0 b r m1 hz hf ⟨S, dm, hq⟩
  rw [← st.eP, ← st.ew] at key
  refine wpAny_call (codeAny_mono key fun r s' hq => ?_)
  cases r with
  | error e =>
    obtain ⟨_, _, _, _, _, _, _, _, _, _, _, _, z⟩ := hq
    exact z.elim
  | ok fl =>
    cases fl with
    | ret u => exact I1.after hq
    | next => exact False.elim hq
    | brk => exact False.elim hq
    | cont => exact False.elim hq
theorem suite_ok (st : StaS P w G base T m c W X) (hh : c.hot = false) {f nm : Str} {i j k : Nat} {q p1 p2 p3 p4 pos : Pos} {a : Addr} {oe : Obj} {cls : Value} {d : Option Addr} {pn : List (Addr × Obj)} (hz : Zc cls d oe) (hf : ∃ vs, oe.data = .fields vs) (hg : isGl c f = true) (hi : idxN c.N nm = some i) (ok : okNm nm = true) (hk : kindC c nm = some .local) :
    PSs (X.suite a ((a, oe) :: pn)) [.Return (some (.Tuple [.Constant (.bool false) j p1, .Call (.Name f q) [.Name nm p2] [] p3] k p4)) pos] (tSu T G f i a cls d) := by
  have hE := pe_tup (x1 := k) (pos := p4) (pa_cons (pe_bl (b := false) (j := j) (pos := p1)) (pa_cons (pe_hot (q := q) (p2 := p2) (pos := p3) st hh hz hf hg hi ok hk (a := a) (pn := pn)) pa_nil rfl) rfl)
  refine (pss_one (ps_ret hE)).im fun D σ H ⟨k, C, z, S, e1, e2, m1, hT, dm, hs, hq⟩ => ?_
  refine ⟨k, C, z, S, e1, e2, m1, hT, dm, hs, fun H' S' g => ?_⟩
  refine ⟨by rw [sizeLine_eq]; show 2 ≤ 16777216; decide, fun p hp => ?_⟩
  exact hq _ _ _ (g.trans (Gr.laidF hp)) (.tup (.inl ⟨.inr rfl, .inl upd_same⟩) (.cons (.bl false) (.cons (.str z) .nil)))
theorem try_ok {n : Nat} (ih : OkS P w G base T m H0 S0 wf n) (st : StaS P w G base T m c W X) (hh : c.hot = false) {body : List Stmt} {b : Sts} {cl f nm : Str} {i j k : Nat} {np q p1 p2 p3 p4 p5 p6 pos : Pos} (hb : cSs (cS n c) body = some b) (hi : idxN c.N nm = some i)
    (hcl : isGl c cl = true) (hces : cl ∈ c.mo.es) (hg : isGl c f = true) (ok : okNm nm = true) (hk : kindC c nm = some .local) :
    PS X (.Try body [.ExceptHandler (some (.Name cl np)) (some nm) [.Return (some (.Tuple [.Constant (.bool false) j p1, .Call (.Name f q) [.Name nm p2] [] p3] k p4)) p5] p6] [] [] pos) (tS G W H0 S0 HB SB (ex T wf (.tryW b cl i f))) := by
  obtain ⟨g1, g2, _⟩ := st.toSta.gl hcl
  have hN : X.N[i]? = some nm := by rw [st.N]; exact idxN_ok hi
  have hln : X.env.kindOf nm = some .local := by
    show X.env.scope.names.lookup nm = _
    rw [st.sc]
    exact hk
  -- the body's errors: which class the clause names
  obtain ⟨D, hD, _⟩ := st.mo.exs cl hces
  · skip
    have hmc : Names X cl (.ref D) := ⟨g1, g2, .inl (by rw [st.mg]; exact hD)⟩
    refine (ps_try_as (tb := fun W' => tTb G H0 S0 HB SB (exs T wf b) W') (ts := fun a cls d => tSu T G f i a cls d) st.stk st.frm st.nd hN hln hmc st.tk (fun W' pn xe tk hp => ⟨fun pins s σ H D I ⟨W2, sub, h⟩ => (cSs_ok ih (st.tr hh tk sub hp) body b HB SB hb).run pins s σ H D I h⟩)
      (fun a oe cls d pn hz hf => suite_ok st hh hz hf hg hi ok hk)).im fun De σ H ⟨S, ρ, R, g, p⟩ => ?_
    refine ⟨fun c' σ' H' => ∀ C, G.mg c' = some (.ref C) → wAs X.K (.ref D) i (fun a cls d => tSu T G f i a cls d) (wOf G W) De (.ref C) none σ' H', fun cls d σ' H' ⟨c', C, e1, e2, e3, hw⟩ => by subst e1 e3; exact hw C e2, S, ρ, R, g, ?_⟩
    have p : PostS G W H0 S0 HB SB (match exs T wf b ρ with | .ex c ρ' => (match T.sub c cl with | some true => if i < ρ'.length then (match T.hot f c with | some d => .rt false (.tup [.bl false, d]) | none => .fail) else .fail | some false => .ex c ρ' | none => .fail) | r => r) De := p
    cases e : exs T wf b ρ with
    | nx ρ' => rw [e] at p; exact p
    | bk ρ' => rw [e] at p; exact p
    | ct ρ' => rw [e] at p; exact p
    | rt o d => rw [e] at p; exact p
    | fail => rw [e] at p; exact p
    | ex c' ρ' =>
      rw [e] at p
      have p : PostS G W H0 S0 HB SB (match T.sub c' cl with | some true => if i < ρ'.length then (match T.hot f c' with | some d => .rt false (.tup [.bl false, d]) | none => .fail) else .fail | some false => .ex c' ρ' | none => .fail) De := p
      intro σ' H' S' R' g' C hC
      cases e1 : T.sub c' cl with
      | none => rw [e1] at p; exact p.elim
      | some r =>
        obtain ⟨C1, D1, m1, m2, m3⟩ := st.mo.sbs c' cl r (by rw [← st.tsb]; exact e1)
        rw [hC] at m1
        cases m1
        rw [hD] at m2
        cases m2
        refine ⟨r, by rw [st.K]; exact m3, fun er a ha => ?_, fun er => ?_⟩
        · subst er
          rw [e1] at p
          have p : PostS G W H0 S0 HB SB (if i < ρ'.length then (match T.hot f c' with | some d => .rt false (.tup [.bl false, d]) | none => .fail) else .fail) De := p
          by_cases hl0 : i < ρ'.length
          case neg => rw [if_neg hl0] at p; exact p.elim
          rw [if_pos hl0] at p
          cases e2 : T.hot f c' with
          | none => rw [e2] at p; exact p.elim
          | some d =>
            rw [e2] at p
            obtain ⟨_, _, _, z, ez, _⟩ := st.hots hh f c' d e2
            subst ez
            have hl : i < σ'.length := by rw [← R'.len]; exact hl0
            refine ⟨c', C, z, S', rfl, rfl, hC, e2, R'.dom, List.getElem?_set_self hl, fun v H2 S2 g2 r2 => ?_⟩
            exact p v H2 S2 (g'.trans g2) r2
        · subst er
          rw [e1] at p
          exact ⟨c', C, rfl, hC, rfl, p σ' H' S' R' g'⟩
theorem okS : ∀ n, OkS P w G base T m H0 S0 wf n
  | 0 => fun _ _ _ h => (nomatch h)
  | n + 1 => by
    have ih := okS n
    intro c s p h W X HB SB st
    unfold cS at h
    split at h
    · cases h; exact ps_pa
    · cases h; exact ps_br
    · cases h; exact ps_cn
    · cases h; exact ps_rn
    · rename_i e _
      obtain ⟨p', q, rfl⟩ := Option.map_eq_some_iff.mp h
      by_cases hv : ∃ i, p' = .var i
      · obtain ⟨i, rfl⟩ := hv
        have hE := (okE (H0 := H0) n c e _ q W X st.toSta)
        -- the slot itself
        have hs : PE X e (tVar i) := var_of st.toSta q
        exact ps_rv hs
      · have hne : ∀ i, p' ≠ .var i := fun i z => hv ⟨i, z⟩
        exact tsEq (ret_eq hne) (ps_re (us := us p') (okE (H0 := H0) n c e p' q W X st.toSta).1)
    · cases h; exact ps_dc
    · split at h
      · rename_i i p' q1 q2 q3 q4
        split at h
        · rename_i hm
          cases h
          subst hm
          have hE := (okE (H0 := H0) n c _ p' q3 W X st.toSta).1
          have hA : PA X [_] _ := pa_cons hE pa_nil (star_of q2 [] X.env)
          exact ps_ap (us := us p') (ps_expr (pe_bm PySem.F.plainAttrs_list PySem.F.slot_list_append PySem.F.type_list_append mt_append (st.toSta.var q1) hA rfl (few_of q2) q4 (star_of q2 [] X.env) rfl) rfl)
        · split at h
          · rename_i hm
            cases h
            subst hm
            have hE := (okE (H0 := H0) n c _ p' q3 W X st.toSta).1
            have hA : PA X [_] _ := pa_cons hE pa_nil (star_of q2 [] X.env)
            exact ps_et (us := us p') st.K (ps_expr (pe_bm PySem.F.plainAttrs_list PySem.F.slot_list_extend PySem.F.type_list_extend mt_extD (st.toSta.var q1) hA rfl (few_of q2) q4 (star_of q2 [] X.env) rfl) rfl)
          · cases h
      · cases h
    · split at h
      · rename_i p' q1 q2
        cases h
        exact ps_ex (us := us p') (okE (H0 := H0) n c _ p' q2 W X st.toSta).1 (comp_no q1 _ _ _)
      · cases h
    · split at h
      · rename_i j t' q1 q2 q3
        split at h
        · rename_i hm
          cases h
          subst hm
          refine ps_po (ps_asg (pe_bm0 PySem.F.plainAttrs_list PySem.F.slot_list_pop PySem.F.type_list_pop mt_pop (st.toSta.var q1) rfl q3) (st.toSta.tg q2) (comp_noS rfl _ _ _) ?_ ?_)
          · exact pop_sw q2
          · exact tg_each q2
        · cases h
      · cases h
    · split at h
      · rename_i i p' q1 q2
        cases h
        exact ps_se (us := us p') (pos' := ⟨0, 0, 0, 0⟩) (st.toSta.nm q1) (okE (H0 := H0) n c _ p' q2 W X st.toSta).1 (set_comp st q1 q2)
      · cases h
    · split at h
      · rename_i i p' q1 q2 q3
        cases h
        exact ps_se (us := us p') (pos' := ⟨0, 0, 0, 0⟩) (st.toSta.nm q1) (okE (H0 := H0) n c _ p' q3 W X st.toSta).1 (set_dcomp st q1 q2 q3)
      · cases h
    · split at h
      · rename_i i p' q1 q2 q3
        cases h
        have hE := (okE (H0 := H0) n c _ p' q3 W X st.toSta).1
        exact ps_se (us := us p') (pos' := ⟨0, 0, 0, 0⟩) (st.toSta.nm q1) hE (set_plain st q1 hE (comp_no q2 _ _ _))
      · cases h
    · split at h
      · rename_i t' p' q1 q2 q3 q4
        cases h
        have hE := (okE (H0 := H0) n c _ p' q4 W X st.toSta).1
        exact ps_st (us := us p') (ps_asg hE (st.toSta.tg q1) (comp_noS q2 _ _ _) (tup_no q3 _ _ _ _) rfl)
      · cases h
    · split at h
      · rename_i i q' p' q1 q2 q3 q4 q5
        cases h
        have hE := (okE (H0 := H0) n c _ p' q5 W X st.toSta).1
        have hk := (okE (H0 := H0) n c _ q' q4 W X st.toSta).1
        refine ps_pu (us := us p' ++ us q') (ps_asg hE (pg_sub (st.toSta.var q1) hk set_list (sub_asg q2)) (comp_noS q3 _ _ _) (sub_no _ _ _ _ _) rfl)
      · cases h
    · split at h
      · rename_i i p' q1 q2
        cases h
        obtain ⟨h1, h2, h3⟩ := st.toSta.st st.top q1
        have hE := (okE (H0 := H0) n c _ p' q2 W X st.toSta).1
        exact ps_ag (us := us p') hE (ps_aug st.nd h1 h2 hE (op_iD _) h3)
      · cases h
    · split at h
      · rename_i t' a' b' q1 q2 q3
        cases h
        exact ps_i (us := usT t') (okT (H0 := H0) n c _ t' q1 W X st.toSta) (cSs_ok ih st _ _ HB SB q2) (cSs_ok ih st _ _ HB SB q3)
      · cases h
    · split at h
      · rename_i t' a' q1 q2
        cases h
        exact ps_w (us := usT t') st.hp (okT (H0 := H0) n c _ t' q1 W X st.toSta) (cSs_ok ih st _ _ HB SB q2) wf
      · cases h
    · split at h
      · rename_i t' i' a' q0 q1 q2 q3
        cases h
        exact ps_f (us := usi i') st.hp (st.calm q0) (okI (H0 := H0) n c _ i' q2 W X _ st.toSta) (st.toSta.tg q1) (fun HB SB => cSs_ok ih st _ _ HB SB q3) (sw_no (cI_set q2) X.env)
      · cases h
    · split at h
      · rename_i b i q0 q1 q2
        split at h
        · rename_i q3
          cases h
          obtain ⟨r1, r2, r3, r4, r5⟩ := q3
          subst r1
          exact try_ok ih st q0 q1 q2 r2.1 r2.2 r3 r4 r5
        · cases h
      · cases h
    · split at h
      · rename_i i cs q0 q1 q2
        cases h
        exact ps_mt st.K st.units (st.calm q0) st.nd (st.toSta.var q1) (cMs_ok ih st _ _ HB SB q2)
      · cases h
    · split at h
      · rename_i hx
        cases h
        obtain ⟨C, h1, h2, _⟩ := st.toSta.mo.exs _ hx.2.1
        obtain ⟨g1, g2, _⟩ := st.toSta.gl hx.1
        exact ps_ra st.K st.mg (st.calm hx.2.2) st.tk h1 h2 g1 g2
      · cases h
    · cases h
end
end Hf

/-! Hf14: the text's defs as functions of data. -/
namespace Hf
open PySem PySem.Spec PyProof.Rows L2
set_option autoImplicit false

structure Df where
  N : List Str
  k : Nat
  code : Sts
  va : Bool := false
/-- the values that the parameters take -/
def argsD (f : Df) (ds : List D) : List D := if f.va = true then ds.take f.k ++ [.tup (ds.drop f.k)] else ds
abbrev Dfs := List (Str × Df)
def entE (N : List Str) (ds : List D) : En := (ds.map fun d => some (false, d)) ++ List.replicate (N.length - ds.length) none
def endR (r : Fl) : Res (Bool × D) := match r with
  | .nx _ => okF .non
  | .rt b d => .ok (b, d)
  | .ex c _ => .exc c
  | _ => .fail
def runD (T : Tb) (wf : Nat) (f : Df) (ds : List D) : Res (Bool × D) := endR (exs T wf f.code (entE f.N (argsD f ds)))
def arN (fs : Dfs) (f : Str) : Option (Nat × Bool) := (fs.lookup f).map fun df => (df.k, df.va)
/-- the text -/
structure Pg where
  wf : Nat
  fs : Dfs
  mo : Mo
  /-- the defs that make generators -/
  gn : List Str := []
/-- no calls: where an error is handled -/
def Pg.tbH (pg : Pg) : Tb := ⟨fun _ _ => .fail, pg.mo.gl, fun _ => none, pg.mo.ki, pg.mo.sub, fun _ _ => none, fun _ _ => .fail, false⟩
/-- what a def says of an error of the class c that is handled -/
def Pg.hot (pg : Pg) (f c : Str) : Option D := if f ∈ pg.mo.hs ∧ c ∈ pg.mo.es then (match pg.fs.lookup f with
  | some df => (match runD pg.tbH pg.wf df [.exc c] with
    | .ok (false, .str z) => some (.str z)
    | _ => none)
  | none => none) else none
/-- what the def f gives, at most n calls deep; and one less -/
def cfN (pg : Pg) : Nat → (Str → List D → Res (Bool × D)) × (Str → List D → Res (Bool × D))
  | 0 => (fun _ _ => .fail, fun _ _ => .fail)
  | n + 1 => (fun f ds => match pg.fs.lookup f with
    | some df => runD ⟨(cfN pg n).1, pg.mo.gl, arN pg.fs, pg.mo.ki, pg.mo.sub, pg.hot, (cfN pg n).2, decide (1 ≤ n)⟩ pg.wf df ds
    | none => .fail, (cfN pg n).1)
def callN (pg : Pg) (n : Nat) : Str → List D → Res (Bool × D) := (cfN pg n).1
def Pg.tb (pg : Pg) (n : Nat) : Tb := ⟨callN pg n, pg.mo.gl, arN pg.fs, pg.mo.ki, pg.mo.sub, pg.hot, (cfN pg n).2, decide (1 ≤ n)⟩
def arity : Dfs → List (Str × Nat)
  | [] => []
  | p :: r => if p.2.va = true then arity r else (p.1, p.2.k) :: arity r
theorem lookup_arity {fs : Dfs} (hn : (fs.map (·.1)).Nodup) {f : Str} {k : Nat} (h : (arity fs).lookup f = some k) : ∃ df, fs.lookup f = some df ∧ df.k = k ∧ df.va = false := by
  have sub : ∀ (r : Dfs), f ∉ r.map (·.1) → (arity r).lookup f = none := by
    intro r
    induction r with
    | nil => intro _; rfl
    | cons p r ih =>
      intro hm
      rw [List.map_cons, List.mem_cons, not_or] at hm
      rw [arity]
      split
      · exact ih hm.2
      · rw [List.lookup_cons, beq_eq_false_iff_ne.mpr hm.1]
        exact ih hm.2
  induction fs with
  | nil => cases h
  | cons p r ih =>
    rw [List.map_cons, List.nodup_cons] at hn
    rw [arity] at h
    rw [List.lookup_cons]
    cases e : f == p.1 with
    | true =>
      split at h
      · rw [sub r (by rw [beq_iff_eq.mp e]; exact hn.1)] at h
        cases h
      · rename_i hv
        rw [List.lookup_cons, e] at h
        cases h
        exact ⟨_, rfl, rfl, by simpa using hv⟩
    | false =>
      split at h
      · exact ih hn.2 h
      · rw [List.lookup_cons, e] at h
        exact ih hn.2 h
section
variable {P : Program} {w : World} {G : Gm} {base : Heap} {pg : Pg} {cs : Addr → Addr → Prop}
theorem entE_get {N : List Str} {ds : List D} {i : Nat} {b : Bool} {d : D} (h : (entE N ds)[i]? = some (some (b, d))) : b = false ∧ ds[i]? = some d := by
  unfold entE at h
  by_cases hi : i < ds.length
  · rw [List.getElem?_append_left (by simpa using hi), List.getElem?_map] at h
    cases e : ds[i]? with
    | none => rw [e] at h; cases h
    | some x => rw [e] at h; cases h; exact ⟨rfl, rfl⟩
  · rw [List.getElem?_append_right (by simpa using hi), List.getElem?_replicate] at h
    split at h <;> cases h
theorem entE_env {N : List Str} {ds : List D} {vs : List V} {H : Hp} {S : Sy} (dm : Dm G H S) (h : Paired (Rep G H S) ds vs) : REnv G H H S (L2.start N vs) (entE N ds) := by
  have hl := Paired.length h
  refine ⟨?_, dm, fun i b d q => ?_, fun i j d e a _ q1 _ _ _ => ?_⟩
  · unfold entE L2.start
    rw [List.length_append, List.length_append, List.length_map, List.length_map, List.length_replicate, List.length_replicate, hl]
  · obtain ⟨rfl, q'⟩ := entE_get q
    obtain ⟨v, h1, h2⟩ := h.gt q'
    refine ⟨v, ?_, h2⟩
    unfold L2.start
    have hi : i < vs.length := (List.getElem?_eq_some_iff.mp h1).1
    rw [List.getElem?_append_left (by simpa using hi), List.getElem?_map, h1]
    rfl
  · obtain ⟨e, _⟩ := entE_get q1
    cases e
/-- a def of the text as it stands behind the top: where, its row's arguments, body, scope -/
structure At (cs : Addr → Addr → Prop) (G : Gm) (pg : Pg) (f : Str) (df : Df) (qual : Str) (params : Arguments) (body : List Stmt) (sc : Scope) (fa : Addr) (fd : FuncData) (ps : List Str) (n : Nat) : Prop where
  mg : G.mg f = some (.ref fa)
  fn : FunD G.K f qual params body sc [] [] fa fd
  fsc : FnScope df.N ps sc
  cc : cSs (cS n ⟨df.N, sc, true, arity pg.fs, pg.mo, false, false, decide (f ∈ pg.gn)⟩) body = some df.code
  tab : f ∈ pg.gn → ∃ ca Pt, cs ca Pt ∧ fd.code = .ref ca
  bd : df.va = false → ps.length = df.k ∧ Binds G.K fd ps []
  bv : df.va = true → ∃ ps' pv, ps = ps' ++ [pv] ∧ ps'.length = df.k ∧ ∀ us rest : List Value, us.length = ps'.length → bindArgs fd ⟨us ++ rest, []⟩ = (newTuple rest >>= fun t => pure (ps'.zip us ++ [(pv, t)]))
/-- what the defs keep, n calls deep -/
def DefsOk (P : Program) (w : World) (G : Gm) (base : Heap) (pg : Pg) (n : Nat) : Prop := ∀ (f : Str) (df : Df), pg.fs.lookup f = some df →
  (df.va = false → FnD P w G base n f df.k (callN pg n f)) ∧ FnV P w G base n f df.k df.va (callN pg n f)
/-- the rule of a def, told of its code -/
theorem okC {K : PySem.W.Frag} {mg : Str → Option Value} {x qual : Str} {params : Arguments} {body : List Stmt} {scope : Scope} {dvs : List V} {kws : List (Str × V)} {f : Addr} {fd : FuncData} {CX : CXT} {N ps : List Str} {k : Nat} {sp : Sp} (F : FunD K x qual params body scope dvs kws f fd) (S : FnScope N ps scope) (len : ∀ vs H Q E, sp vs H Q E → vs.length = ps.length)
    (hbody : ∀ (cdv : Value) (A : Around) (outer : List Env) (s : Shared) (H : Hp) (vs : List V) (Q : VK) (E : XK), fd.code = cdv → Room k (A.deeper (envOfC qual scope s.heap.objs.size f cdv)) → sp vs H Q E →
      ∃ t, PSs (cxOf CX P w K mg base N qual scope f cdv A outer s H E) body t ∧ t { nx := fun _ H' => Q .non H', rt := Q } (start N vs) H) : FnOk P w K mg base CX (k + 1) f fd ps sp := by
  obtain ⟨oc, od, dV, kV, doc, pm, an, cdv, ct, osl, rfl, lk, hcd, _, _⟩ := F.ex
  exact fn_of lk hcd S len fun A outer s H vs Q E hr hsp => hbody cdv A outer s H vs Q E rfl hr hsp
/-- the body, from what the parameters hold -/
theorem At.body {f : Str} {df : Df} {qual : Str} {params : Arguments} {body : List Stmt} {sc : Scope} {fa : Addr} {fd : FuncData} {ps : List Str} {m : Nat} (A : At cs G pg f df qual params body sc fa fd ps m)
    (hn : (pg.fs.map (·.1)).Nodup) (hgw : G.w = w) (h0 : G.hx = none) (hm : MoOk w G pg.mo) (hho : ∀ f k d n, pg.hot f k = some d → HotF P w G base n f k d) (hTB : ∀ ca Pt, cs ca Pt → G.tb Pt ∧ GxR.TabB base G.mg ca Pt) {n : Nat} (ih : DefsOk P w G base pg n) (ihl : DefsOk P w G base pg (n - 1)) {cdv : Value} {A0 : Around} {outer : List Env} {s : Shared} {H : Hp} {vs : List V} {Q : VK} {E : XK} {S : Sy} {ds : List D}
    (hcdv : fd.code = cdv) (hr : Room n (A0.deeper (envOfC qual sc s.heap.objs.size fa cdv))) (dm : Dm G H S) (rp : Paired (Rep G H S) ds vs) (p : Post G (fun c H' => ∀ a, G.mg c = some (.ref a) → E (.ref a) none H') H S (endR (exs (pg.tb n) pg.wf df.code (entE df.N ds))) Q) :
    ∃ t, PSs (cxOf (L2.CX P w) P w G.K G.mg base df.N qual sc fa cdv A0 outer s H E) body t ∧ t { nx := fun _ H' => Q .non H', rt := Q } (L2.start df.N vs) H := by
  -- what is wanted of an error
  let W : WD := fun c _ H' => ∀ a, G.mg c = some (.ref a) → E (.ref a) none H'
  let X := cxOf (L2.CX P w) P w G.K G.mg base df.N qual sc fa cdv A0 outer s H E
  have tk : Takes X (wOf G W) := (takes_of (X := X) (E := E) rfl rfl rfl rfl).imp fun cls d σ H' ⟨c, a, e1, e2, e3, w⟩ => by
    subst e1 e3
    exact w a e2
  have st : StaS P w G base (pg.tb n) n ⟨df.N, sc, true, arity pg.fs, pg.mo, false, false, decide (f ∈ pg.gn)⟩ W X :=
    { eP := rfl, ew := rfl, K := rfl, mg := rfl, gw := hgw, eb := rfl, N := rfl, sc := rfl, nd := A.fsc.nd, calm := fun _ => rfl, fn := fun _ _ => rfl, room := fun _ => hr, un := (by have := hr.un; show (A0.deeper _).units + 150 < cLine; omega), tk := tk,
      lo := rfl, lw := fun h => nomatch h
      gen := fun h => by
        obtain ⟨ca, Pt, h1, h2⟩ := A.tab (of_decide_eq_true h)
        obtain ⟨h3, h4⟩ := hTB ca Pt h1
        exact ⟨rfl, rfl, ca, Pt, h3, h4, by rw [← h2, hcdv]; rfl⟩
      fnl := fun h => by
        have n1 : 1 ≤ n := of_decide_eq_true h
        refine ⟨n1, fun g k hg => ?_⟩
        obtain ⟨dg, e1, e2, e3⟩ := lookup_arity hn hg
        have := (ihl g dg e1).1 e3
        rw [e2] at this
        have el : (pg.tb n).fl = callN pg (n - 1) := by
          cases n with
          | zero => omega
          | succ n => rfl
        rw [el]
        exact this
      fns := fun _ g k hg => by
        obtain ⟨dg, e1, e2, e3⟩ := lookup_arity hn hg
        have := (ih g dg e1).1 e3
        rw [e2] at this
        exact this
      fnv := fun _ g k va hg => by
        obtain ⟨dg, e1, e2⟩ := Option.map_eq_some_iff.mp hg
        cases e2
        exact (ih g dg e1).2
      hx0 := fun _ => h0, hxs := fun a c h => (by rw [h0] at h; cases h), tgl := rfl, tki := rfl, tsb := rfl, mo := hm, top := rfl, kd := A.fsc.kind, hp := passes_of (X := X) rfl, stk := rfl, frm := rfl, hots := fun _ f k d h => hho f k d n h }
  refine ⟨tS G W H S (fun _ => none) (fun _ => False) (exs (pg.tb n) pg.wf df.code), cSs_ok (okS (H0 := H) (S0 := S) m) st body df.code _ _ A.cc, S, entE df.N ds, entE_env dm rp, ⟨Gr.refl H S, fun _ z => z.elim⟩, ?_⟩
  cases z : exs (pg.tb n) pg.wf df.code (entE df.N ds) with
  | nx ρ => rw [z] at p; exact fun σ H' S' R g => p .non H' S' g.g .non
  | rt b d => rw [z] at p; exact fun v H' S' g r => p v H' S' g.g r
  | ex c ρ => rw [z] at p; exact fun σ H' S' R g => p H' S' g.g
  | bk ρ => rw [z] at p; exact p.elim
  | ct ρ => rw [z] at p; exact p.elim
  | fail => rw [z] at p; exact p.elim
theorem callN_eq {f : Str} {df : Df} (hf : pg.fs.lookup f = some df) (n : Nat) (ds : List D) : callN pg (n + 1) f ds = endR (exs (pg.tb n) pg.wf df.code (entE df.N (argsD df ds))) := by
  show (match pg.fs.lookup f with | some df => runD (pg.tb n) pg.wf df ds | none => .fail) = _
  rw [hf] <;> rfl
theorem At.ok {f : Str} {df : Df} {qual : Str} {params : Arguments} {body : List Stmt} {sc : Scope} {fa : Addr} {fd : FuncData} {ps : List Str} {m : Nat} (A : At cs G pg f df qual params body sc fa fd ps m) (hv : df.va = false)
    (hn : (pg.fs.map (·.1)).Nodup) (hgw : G.w = w) (h0 : G.hx = none) (hm : MoOk w G pg.mo) (hho : ∀ f k d n, pg.hot f k = some d → HotF P w G base n f k d) (hTB : ∀ ca Pt, cs ca Pt → G.tb Pt ∧ GxR.TabB base G.mg ca Pt) (hf : pg.fs.lookup f = some df) (n : Nat) (ih : DefsOk P w G base pg n) (ihl : DefsOk P w G base pg (n - 1)) : FnOk P w G.K G.mg base (L2.CX P w) (n + 1) fa fd ps (spD G df.k (callN pg (n + 1) f)) := by
  refine okC A.fn A.fsc (fun vs H Q E h => h.1.trans (A.bd hv).1.symm) (fun cdv A0 outer s H vs Q E hcd hr h => ?_)
  obtain ⟨_, S, ds, dm, rp, p⟩ := h
  rw [callN_eq hf] at p
  have e : argsD df ds = ds := by unfold argsD; rw [hv]; rfl
  rw [e] at p
  exact A.body hn hgw h0 hm hho hTB ih ihl hcd hr dm rp p
theorem At.okR {f : Str} {df : Df} {qual : Str} {params : Arguments} {body : List Stmt} {sc : Scope} {fa : Addr} {fd : FuncData} {ps : List Str} {m : Nat} (A : At cs G pg f df qual params body sc fa fd ps m)
    (hn : (pg.fs.map (·.1)).Nodup) (hgw : G.w = w) (h0 : G.hx = none) (hm : MoOk w G pg.mo) (hho : ∀ f k d n, pg.hot f k = some d → HotF P w G base n f k d) (hTB : ∀ ca Pt, cs ca Pt → G.tb Pt ∧ GxR.TabB base G.mg ca Pt) (hf : pg.fs.lookup f = some df) (n : Nat) (ih : DefsOk P w G base pg n) (ihl : DefsOk P w G base pg (n - 1)) : FnR P w G.K G.mg base (L2.CX P w) (n + 1) fa (spV G df.k df.va (callN pg (n + 1) f)) := by
  cases hv : df.va with
  | false =>
    refine ((A.ok hv hn hgw h0 hm hho hTB hf n ih ihl).raw (A.bd hv).2 .nil).imp fun vs H Q E h => ?_
    rw [List.append_nil]
    obtain ⟨h1, h2⟩ := h
    exact ⟨of_decide_eq_true h1, h2⟩
  | true =>
    obtain ⟨ps', pv, rfl, hl, hb⟩ := A.bv hv
    obtain ⟨oc, od, dV, kV, doc, pm, an, cdv, ct, osl, rfl, lk, hcd, _, _⟩ := A.fn.ex
    refine (StX.fn_star (sp := fun vs H Q E => ∃ S ds, Dm G H S ∧ Paired (Rep G H S) ds vs ∧ Post G (fun c H' => ∀ a, G.mg c = some (.ref a) → E (.ref a) none H') H S (endR (exs (pg.tb n) pg.wf df.code (entE df.N ds))) Q) lk hcd A.fsc StX.cxUp hb (fun A0 outer s H vs Q E hr h => ?_)).imp fun vs H Q E h => ?_
    · obtain ⟨S, ds, dm, rp, p⟩ := h
      exact A.body hn hgw h0 hm hho hTB ih ihl rfl hr dm rp p
    · obtain ⟨h1, S, ds, dm, rp, p⟩ := h
      have h1 : (decide (df.k ≤ vs.length) && decide (vs.length ≤ sizeLine)) = true := h1
      rw [Bool.and_eq_true, decide_eq_true_eq, decide_eq_true_eq] at h1
      have hlen := Paired.length rp
      refine ⟨vs.take df.k, vs.drop df.k, (List.take_append_drop _ _).symm, by rw [List.length_take, hl]; omega, by rw [List.length_drop]; omega, fun q hq => ?_⟩
      have g : Gr H S (upd H q (.tup (vs.drop df.k))) (fun b => S b ∨ b = q) := Gr.laidF hq
      rw [callN_eq hf] at p
      have e : argsD df ds = ds.take df.k ++ [.tup (ds.drop df.k)] := by unfold argsD; rw [hv]; rfl
      rw [e] at p
      refine ⟨_, _, dm.gr g, ?_, Post.gr g p⟩
      exact Paired.app (Paired.tk _ (g.reps rp)) (.cons (.tup (.inl ⟨.inr rfl, .inl upd_same⟩) (Paired.dp _ (g.reps rp))) .nil)
/-! ### a def that is told of the error that is handled -/
mutual
theorem Rep.hot {G : Gm} (h0 : G.hx = none) (h : Option (Addr × Str)) {H : Hp} {S : Sy} : ∀ (d : D) (v : V), Rep G H S d v → Rep { G with hx := h } H S d v
  | .non, _, .non => .non
  | .bl _, _, .bl b => .bl b
  | .int _, _, .int i => .int i
  | .str _, _, .str x => .str x
  | .lst ds, _, .lst q p => .lst q (Rep.hotL h0 h ds _ p)
  | .tup ds, _, .tup q p => .tup q (Rep.hotL h0 h ds _ p)
  | .fn _, _, .fn q => .fn q
  | .exc _, _, .exc q => by rw [h0] at q; cases q
  | .dct _ ds, _, .dct q p => .dct q (Rep.hotL h0 h ds _ p)
theorem Rep.hotL {G : Gm} (h0 : G.hx = none) (h : Option (Addr × Str)) {H : Hp} {S : Sy} : ∀ (ds : List D) (vs : List V), Paired (Rep G H S) ds vs → Paired (Rep { G with hx := h } H S) ds vs
  | [], _, .nil => .nil
  | d :: ds, _, .cons a t => .cons (Rep.hot h0 h d _ a) (Rep.hotL h0 h ds _ t)
end
theorem MoOk.hot {mo : Mo} (h0 : G.hx = none) (h : Option (Addr × Str)) (m : MoOk w G mo) : MoOk w { G with hx := h } mo :=
  ⟨fun x hx d hd => let ⟨u, v, e1, e2, e3⟩ := m.gls x hx d hd; ⟨u, v, e1, e2, fun H S => Rep.hot h0 h d v (e3 H S)⟩, m.free, m.exs, m.kis, m.sbs⟩
theorem At.hot {f : Str} {df : Df} {qual : Str} {params : Arguments} {body : List Stmt} {sc : Scope} {fa : Addr} {fd : FuncData} {ps : List Str} {m m2 : Nat} (B : At cs G pg f df qual params body sc fa fd ps m) (hv : df.va = false) (hk1 : df.k = 1)
    (ch : cSs (cS m2 ⟨df.N, sc, true, [], pg.mo, true, false, false⟩) body = some df.code) (hgw : G.w = w) (h0 : G.hx = none) (hm : MoOk w G pg.mo) {c z : Str} (hrun : runD pg.tbH pg.wf df [.exc c] = .ok (false, .str z)) (hX : ∃ C, G.mg c = some (.ref C) ∧ ExcC G.K C) (n : Nat) : HotF P w G base n f c (.str z) := by
  obtain ⟨oc, od, dV, kV, doc, pm, an, cdv, ct, osl, efd, lk, hcd, _, _⟩ := B.fn.ex
  subst efd
  have Fs := B.fsc
  refine ⟨fa, _, ps, z, rfl, B.mg, B.fn.kp, (B.bd hv).2, (B.bd hv).1.trans hk1, fun A0 outer s H args us q C Q hr pin e0 hb r hC hz hf ⟨S, dm, hq⟩ => ?_⟩
  obtain ⟨C', hC', hx⟩ := hX
  rw [hC] at hC'
  cases hC'
  have kin : G.K.In s.heap := e0.mod.kin.keeps fun b o e => (e0.bs b o e).1
  have nolim : s.heap.NoLimit := e0.mod.nolimit.keeps fun b o e => (e0.bs b o e).1
  have kinds : ∀ y ∈ ps.zip us, sc.names.lookup y.1 = some .local ∨ (sc.names.lookup y.1 = some .cell ∧ ((cellsFrom (s.heap.objs.size + 1) sc.names []).lookup y.1).isSome = true) := by
    intro y hy
    rcases Fs.par y.1 (List.of_mem_zip hy).1 with k | k
    · exact .inl k
    · exact .inr ⟨k, PySem.W.cellsFrom_some _ _ _ (.inl k)⟩
  refine codeAny_call_function hr.depth (kin _ _ lk) rfl Fs.co Fs.gen rfl (PySem.W.codeRec_of kin hcd) (hb _ _ _ _ ?_)
  refine wpAny_newFunctionEnv_cells Fs.kind kinds fun env he s1 x => ?_
  subst he
  refine ⟨nolim.keeps x.toInCall.keep, codeAny_func ?_⟩
  let E : XK := fun _ _ _ => False
  let X := L2H.cxH (L2.CX P w) P w G.K G.mg base df.N qual sc fa cdv A0 outer s H E q
  have I : Inv X [] (L2.start df.N [.ref q.1]) H s1 := L2H.inv_startH Fs pin e0 (by rw [(B.bd hv).1, hk1] <;> rfl) r x
  let G' : Gm := { G with hx := some (q.1, c) }
  have tk : Takes X (wOf G' fun _ _ _ => False) := (takes_of (X := X) (E := E) rfl rfl rfl rfl).imp fun cls d σ H' ⟨_, _, _, _, _, z⟩ => z.elim
  have st : StaS P w G' base pg.tbH n ⟨df.N, sc, true, [], pg.mo, true, false, false⟩ (fun _ _ _ => False) X :=
    { eP := rfl, ew := rfl, K := rfl, mg := rfl, gw := hgw, eb := rfl, N := rfl, sc := rfl, nd := Fs.nd, calm := fun h => (nomatch h), fn := fun _ _ => rfl, room := fun h => (nomatch h),
      un := by have := hr.un; show A0.units + 3 + 150 < cLine; omega
      tk := tk, fns := fun _ g k hg => (nomatch hg), fnv := fun _ g k va hg => (nomatch hg), fnl := fun h => (nomatch h), lw := fun h => (nomatch h), gen := fun h => (nomatch h), lo := rfl, hx0 := fun h => (nomatch h),
      hxs := fun a k h => by cases h; exact ⟨q.2, C, List.mem_singleton.mpr rfl, hC, hx, hz, hf⟩
      tgl := rfl, tki := rfl, tsb := rfl, mo := hm.hot h0 _, top := rfl, kd := Fs.kind, hp := passes_of (X := X) rfl, stk := rfl, frm := rfl, hots := fun h => (nomatch h) }
  have dm' := dm
  have rep : Paired (Rep G' H S) [D.exc c] [V.ref q.1] := .cons (.exc rfl) .nil
  have run := (cSs_ok (okS (H0 := H) (S0 := S) (wf := pg.wf) m2) st body df.code (fun _ => none) (fun _ => False) ch).run [] s1 _ H { nx := fun _ H' => Q .non H', rt := Q } I
    ⟨S, entE df.N [.exc c], entE_env dm rep, ⟨Gr.refl H S, fun _ z => z.elim⟩, by
      have hrun : endR (exs pg.tbH pg.wf df.code (entE df.N (argsD df [.exc c]))) = .ok (false, .str z) := hrun
      have e : argsD df [.exc c] = [.exc c] := by unfold argsD; rw [hv]; rfl
      rw [e] at hrun
      cases y : exs pg.tbH pg.wf df.code (entE df.N [.exc c]) with
      | rt b d =>
        rw [y] at hrun
        cases hrun
        exact fun v H' S' g r' => by
          have r' : Rep G' H' S' (.str z) v := r'
          cases r'
          exact hq H' S' g.g
      | nx ρ => rw [y] at hrun; cases hrun
      | ex k ρ => rw [y] at hrun; cases hrun
      | bk ρ => rw [y] at hrun; cases hrun
      | ct ρ => rw [y] at hrun; cases hrun
      | fail => rw [y] at hrun; cases hrun⟩
  refine wpAny_mono run (fun fl s' hs => ?_) fun e s' hs => hs
  have fin : ∀ {σ' : L2.St} {H' : Hp} {v : V} {u : Value}, Inv X [] σ' H' s' → RelV v u → Q v H' → CE outer P w H s Q u s' := fun {σ' H' v u} J rv y => ⟨v, H', J.os, J.bare, J.base, J.hok, rv, y⟩
  cases fl with
  | ret u =>
    obtain ⟨v, σ', H', J, rv, y⟩ := hs
    exact fin J rv y
  | next =>
    obtain ⟨σ', H', J, y⟩ := hs
    exact fin (v := V.non) (u := Value.none) J rfl y
  | brk =>
    obtain ⟨_, _, _, y⟩ := hs
    exact y.elim
  | cont =>
    obtain ⟨_, _, _, y⟩ := hs
    exact y.elim
def AnyAt (cs : Addr → Addr → Prop) (G : Gm) (pg : Pg) (f : Str) (df : Df) : Prop := ∃ qual params body sc fa fd ps n, At cs G pg f df qual params body sc fa fd ps n
theorem defs_ok2 (hd : ∀ f df, pg.fs.lookup f = some df → AnyAt cs G pg f df) (hn : (pg.fs.map (·.1)).Nodup) (hgw : G.w = w) (h0 : G.hx = none) (hm : MoOk w G pg.mo) (hho : ∀ f k d n, pg.hot f k = some d → HotF P w G base n f k d) (hTB : ∀ ca Pt, cs ca Pt → G.tb Pt ∧ GxR.TabB base G.mg ca Pt) : ∀ n : Nat, DefsOk P w G base pg n ∧ DefsOk P w G base pg (n - 1) := by
  have z : DefsOk P w G base pg 0 := fun f df hf => by
    obtain ⟨qual, params, body, sc, fa, fd, ps, m, A⟩ := hd f df hf
    refine ⟨fun hv => ⟨fa, fd, ps, (A.bd hv).1, A.mg, ⟨fun vs H Q E h => h.1.trans (A.bd hv).1.symm, fun A outer s H args us vs Q E _ _ _ _ h => ?_⟩, A.fn.kp, (A.bd hv).2⟩, fa, A.mg, fun A outer s H us vs Q E _ _ _ h => ?_, A.fn.kp⟩
    · obtain ⟨_, S, ds, _, _, p⟩ := h
      exact False.elim p
    · obtain ⟨_, S, ds, _, _, p⟩ := h
      exact False.elim p
  intro n
  induction n with
  | zero => exact ⟨z, z⟩
  | succ n ih =>
    refine ⟨fun f df hf => ?_, ih.1⟩
    obtain ⟨qual, params, body, sc, fa, fd, ps, m, A⟩ := hd f df hf
    exact ⟨fun hv => ⟨fa, fd, ps, (A.bd hv).1, A.mg, A.ok hv hn hgw h0 hm hho hTB hf n ih.1 ih.2, A.fn.kp, (A.bd hv).2⟩, fa, A.mg, A.okR hn hgw h0 hm hho hTB hf n ih.1 ih.2, A.fn.kp⟩
/-- the law's own promise, from what it gives of any ints -/
theorem law_sp {n : Nat} {r : List D → Res (Bool × D)} (h : ∀ ns : List Int, ns.length ≤ n → ∃ b, r [.lst (ns.map D.int)] = .ok (b, .bl true)) (H : Hp) (a : Addr) (ns : List Int) (hl : ns.length ≤ n) (hT : ∀ P, G.tb P → GxR.TabG H P) (hS : SqL G.K H a (ns.map V.int)) :
    spD G 1 r [.ref a] H (fun v _ => v = .bl true) fun _ _ _ => False := by
  obtain ⟨b, e⟩ := h ns hl
  have pr : ∀ S, Paired (Rep G H S) (ns.map D.int) (ns.map V.int) := fun S => by
    clear hl hS e
    induction ns with
    | nil => exact .nil
    | cons i r ih => exact .cons (.int i) ih
  refine ⟨rfl, ?_⟩
  have fin : ∀ S : Sy, Post G (fun c H' => ∀ a, G.mg c = some (.ref a) → False) H S (r [.lst (ns.map D.int)]) (fun v _ => v = .bl true) := fun S => by
    rw [e]
    intro v H' S' _ q
    cases b with
    | false => cases q; rfl
    | true =>
      obtain ⟨_, _, _, _, z, _⟩ := q
      cases z
  rcases hS with hS | hS
  · refine ⟨fun b => b = a, [.lst (ns.map D.int)], ⟨fun b z => ?_, hT⟩, .cons (.lst (.inl ⟨rfl, hS⟩) (pr _)) .nil, fin _⟩
    subst z
    rcases hS with q | ⟨o, q⟩
    · exact ⟨_, q⟩
    · exact ⟨_, q⟩
  · exact ⟨fun _ => False, [.lst (ns.map D.int)], ⟨fun b z => z.elim, hT⟩, .cons (.lst (.inr hS) (pr _)) .nil, fin _⟩
/-- a def that lets nothing out -/
theorem fn_no {k : Nat} {f : Addr} {fd : FuncData} {ps : List Str} {sp : Sp} (F : FnOk P w G.K G.mg base (L2.CX P w) k f fd ps sp) : FnOk P w G.K G.mg base CX0 k f fd ps (fun vs H Q _ => sp vs H Q E0) := by
  refine ⟨fun vs H Q E h => F.len vs H Q E0 h, fun A outer s H args us vs Q E hr e hb hv h => ?_⟩
  refine codeAny_mono (F.run A outer s H args us vs Q E0 hr e hb hv h) fun r s' hq => ?_
  cases r with
  | error e =>
    obtain ⟨_, _, _, _, _, _, _, _, _, _, _, _, z⟩ := hq
    exact z.elim
  | ok fl => cases fl <;> exact hq
end
end Hf

/-! Hf15: the module's constants and classes, looked at once behind the top. -/
namespace Hf
open PySem PySem.Spec PyProof.Rows L2
set_option autoImplicit false
mutual
/-- the value u stands for the data d in the written part -/
def repB (K : PySem.W.Frag) : D → Value → Bool
  | .non, u => decide (u = .none)
  | .bl b, u => decide (u = .bool b)
  | .int i, u => (match u with
    | .int j _ => decide (j = i)
    | _ => false)
  | .str x, u => (match u with
    | .str y _ => decide (y = x)
    | _ => false)
  | .fn x, u => (match u with
    | .ref a => decide (PySem.W.nsIn K mainGlobals x = some (some (.ref a)))
    | _ => false)
  | .tup ds, u => (match u with
    | .ref a => (match K.lookup a with
      | some ⟨.type c, _, .seq its _, _⟩ => decide (c = "tuple") && (decide (its.size ≤ sizeLine) && repBs K ds its.toList)
      | _ => false)
    | _ => false)
  | _, _ => false
def repBs (K : PySem.W.Frag) : List D → List Value → Bool
  | [], us => us.isEmpty
  | d :: ds, us => (match us with
    | u :: r => repB K d u && repBs K ds r
    | [] => false)
end
section
variable {w : World} {G : Gm} {h : Heap}
mutual
theorem repB_ok (X : G.K.In h) (N : h.Ns mainGlobals G.mg) : ∀ (d : D) (u : Value), repB G.K d u = true → ∃ v, RelV v u ∧ ∀ H S, Rep G H S d v
  | .non, u, e => by
    have e' : u = .none := of_decide_eq_true e
    subst e'
    exact ⟨.non, rfl, fun _ _ => .non⟩
  | .bl b, u, e => by
    have e' : u = .bool b := of_decide_eq_true e
    subst e'
    exact ⟨.bl b, rfl, fun _ _ => .bl b⟩
  | .int i, u, e => by
    have e' : (match (generalizing := false) u with | .int j _ => decide (j = i) | _ => false) = true := e
    cases u with
    | int j t => cases of_decide_eq_true e'; exact ⟨.int _, ⟨t, rfl⟩, fun _ _ => .int _⟩
    | _ => cases e'
  | .str x, u, e => by
    have e' : (match (generalizing := false) u with | .str y _ => decide (y = x) | _ => false) = true := e
    cases u with
    | str y t => cases of_decide_eq_true e'; exact ⟨.str _, ⟨t, rfl⟩, fun _ _ => .str _⟩
    | _ => cases e'
  | .fn x, u, e => by
    have e' : (match (generalizing := false) u with | .ref a => decide (PySem.W.nsIn G.K mainGlobals x = some (some (.ref a))) | _ => false) = true := e
    cases u with
    | ref a => exact ⟨.ref a, rfl, fun _ _ => .fn (PySem.W.mg_of X N (of_decide_eq_true e'))⟩
    | _ => cases e'
  | .tup ds, u, e => by
    have e' : (match (generalizing := false) u with | .ref a => (match G.K.lookup a with | some ⟨.type c, _, .seq its _, _⟩ => decide (c = "tuple") && (decide (its.size ≤ sizeLine) && repBs G.K ds its.toList) | _ => false) | _ => false) = true := e
    cases u with
    | ref a =>
      have e2 : (match G.K.lookup a with | some ⟨.type c, _, .seq its _, _⟩ => decide (c = "tuple") && (decide (its.size ≤ sizeLine) && repBs G.K ds its.toList) | _ => false) = true := e'
      cases q : G.K.lookup a with
      | none => rw [q] at e2; cases e2
      | some o =>
        rw [q] at e2
        obtain ⟨oc, od, dt, sl⟩ := o
        cases oc with
        | type c =>
          cases dt with
          | seq its n =>
            have e3 : (decide (c = "tuple") && (decide (its.size ≤ sizeLine) && repBs G.K ds its.toList)) = true := e2
            rw [Bool.and_eq_true, Bool.and_eq_true, decide_eq_true_eq, decide_eq_true_eq] at e3
            obtain ⟨c1, c2, c3⟩ := e3
            subst c1
            obtain ⟨vs, r1, r2⟩ := repBs_ok X N ds its.toList c3
            exact ⟨.ref a, rfl, fun H S => .tup (.inr ⟨_, its, n, q, rfl, rfl, c2, r1⟩) (r2 H S)⟩
          | _ => cases e2
        | _ => cases dt <;> cases e2
    | _ => cases e'
  | .lst _, _, e => by cases e
  | .exc _, _, e => by cases e
  | .dct _ _, _, e => by cases e
theorem repBs_ok (X : G.K.In h) (N : h.Ns mainGlobals G.mg) : ∀ (ds : List D) (us : List Value), repBs G.K ds us = true → ∃ vs, Vals vs us ∧ ∀ H S, Paired (Rep G H S) ds vs
  | [], us, e => by
    have e' : us.isEmpty = true := e
    cases us with
    | nil => exact ⟨[], .nil, fun _ _ => .nil⟩
    | cons _ _ => cases e'
  | d :: ds, us, e => by
    cases us with
    | nil => cases e
    | cons u r =>
      have e' : (repB G.K d u && repBs G.K ds r) = true := e
      rw [Bool.and_eq_true] at e'
      obtain ⟨v, r1, r2⟩ := repB_ok X N d u e'.1
      obtain ⟨vs, r3, r4⟩ := repBs_ok X N ds r e'.2
      exact ⟨v :: vs, .cons r1 r3, fun H S => .cons (r2 H S) (r4 H S)⟩
end
/-! ### a dict of the module -/
def keyS (e : DictEntry) : Option Str := match e.key with
  | .str x _ => some x
  | _ => none
def tabB (K : PySem.W.Frag) (a : Addr) (ks : List Str) (ds : List D) : Bool := match K.lookup a with
  | some ⟨_, _, .dict es _, _⟩ => decide (es.toList.map keyS = ks.map some) && repBs K ds (es.toList.map (·.val))
  | _ => false
theorem find_tab : ∀ {l : List DictEntry} {ks : List Str} {xs : List V}, l.map keyS = ks.map some → Vals xs (l.map (·.val)) → ∀ z, (match lkD ks xs z with
    | some v => ∃ e, l.find? (·.key.isStr z) = some e ∧ RelV v e.val
    | none => l.find? (·.key.isStr z) = none) ∧ l.any (·.refKey) = false
  | [], [], _, _, _, z => ⟨rfl, rfl⟩
  | [], _ :: _, _, h, _, _ => by cases h
  | _ :: _, [], _, h, _, _ => by cases h
  | e :: l, k :: ks, xs, h, r, z => by
    have h1 : keyS e :: l.map keyS = some k :: ks.map some := h
    injection h1 with h2 h3
    cases xs with
    | nil => cases r
    | cons x xs =>
      cases r with
      | cons r1 r2 =>
        obtain ⟨i1, i2⟩ := find_tab h3 r2 z
        obtain ⟨hk, hr⟩ : (∃ t, e.key = .str k t) ∧ e.refKey = false := by
          unfold keyS at h2
          split at h2
          · rename_i x t q
            cases h2
            exact ⟨⟨t, q⟩, by unfold DictEntry.refKey; rw [q]⟩
          · cases h2
        obtain ⟨t, hk⟩ := hk
        refine ⟨?_, by rw [List.any_cons, hr, i2]; rfl⟩
        rw [List.find?_cons, hk]
        by_cases ez : k = z
        · have : Value.isStr (.str k t) z = true := by subst ez; simp [Value.isStr]
          rw [this, lkD, if_pos ez]
          exact ⟨e, rfl, r1⟩
        · have : Value.isStr (.str k t) z = false := by simp [Value.isStr, ez]
          rw [this, lkD, if_neg ez]
          exact i1
theorem tab_ok (X : G.K.In h) (N : h.Ns mainGlobals G.mg) {a : Addr} {es : Array DictEntry} {n : Nat} {ks : List Str} {ds : List D} (hd : KDict G.K G.w a es n) (e : tabB G.K a ks ds = true) : ∀ H S, Rep G H S (.dct ks ds) (.ref a) := by
  unfold tabB at e
  rw [hd.at_] at e
  have e : (decide (es.toList.map keyS = ks.map some) && repBs G.K ds (es.toList.map (·.val))) = true := e
  rw [Bool.and_eq_true, decide_eq_true_eq] at e
  obtain ⟨vs, r1, r2⟩ := repBs_ok X N ds _ e.2
  refine fun H S => .dct (.inr ⟨⟨es, n, hd⟩, fun z => ?_⟩) (r2 H S)
  obtain ⟨i1, i2⟩ := find_tab e.1 r1 z
  unfold PySem.W.nsIn
  rw [hd.at_]
  cases q : lkD ks vs z with
  | none =>
    rw [q] at i1
    show (match es.toList.find? (·.key.isStr z) with | some e => some (some e.val) | none => if es.toList.any (·.refKey) then none else some none) = some none
    rw [i1, i2]
    rfl
  | some v =>
    rw [q] at i1
    obtain ⟨e, i1, r⟩ := i1
    refine ⟨e.val, ?_, r⟩
    show (match es.toList.find? (·.key.isStr z) with | some e => some (some e.val) | none => if es.toList.any (·.refKey) then none else some none) = _
    rw [i1]
/-! ### classes -/
/-- what a class's name stands for: a class of the text, or a built-in one -/
def clsU (K : PySem.W.Frag) (y : Str) : Value := if y = ("ValueError" : Str) then .type "ValueError" else .ref (He.ga K y)
def kitB (K : PySem.W.Frag) (p : (Str × Str) × Bool) : Bool := decide (PySem.W.kitOne K (.ref (He.ga K p.1.1)) (clsU K p.1.2) = some p.2)
def excB (K : PySem.W.Frag) (x : Str) : Bool :=
  He.eqO (PySem.W.findIn K (.ref (He.ga K x)) "__getattribute__") (some (some (.builtin "BaseException.__getattribute__"))) && (He.eqO (PySem.W.findIn K (.ref (He.ga K x)) "__getattr__") (some none) &&
  (decide (PySem.W.subIn K (.ref (He.ga K x)) (.type "BaseException") = some true) && (PySem.W.hasDictIn K (He.ga K x) && (He.eqO (PySem.W.findIn K (.ref (He.ga K x)) "__class__") (some (some (.builtin "object.__class__"))) &&
  (He.eqO (PySem.W.specialIn K (.builtin "object.__class__") "__get__") (some (some (.builtin "getset_descriptor.__get__"))) && (decide (PySem.W.takesIn K (.builtin "object.__class__") = some true) && decide (PySem.W.mroIn K (He.ga K x) (.type "object") = some true)))))))
theorem excB_ok {K : PySem.W.Frag} {x : Str} (h : excB K x = true) : ExcC K (He.ga K x) := by
  unfold excB at h
  obtain ⟨h1, h⟩ := He.ba h
  obtain ⟨h2, h⟩ := He.ba h
  obtain ⟨h3, h⟩ := He.ba h
  obtain ⟨h4, h⟩ := He.ba h
  obtain ⟨h5, h⟩ := He.ba h
  obtain ⟨h6, h⟩ := He.ba h
  obtain ⟨h7, h8⟩ := He.ba h
  exact ⟨He.eqO_ok h1, He.eqO_ok h2, of_decide_eq_true h3, h4, He.eqO_ok h5, He.eqO_ok h6, of_decide_eq_true h7, of_decide_eq_true h8⟩
/-! ### all that is looked at -/
structure Hd where
  consts : List (Str × D)
  tabs : List (Str × List Str × List D)
  cls : List Str
  es : List Str
  kiT : List ((Str × Str) × Bool)
  sbT : List ((Str × Str) × Bool)
  hs : List Str
def Hd.mo (d : Hd) : Mo where
  gl x := match d.consts.lookup x with
    | some c => some c
    | none => (d.tabs.lookup x).map fun p => .dct p.1 p.2
  gs := d.consts.map (·.1) ++ d.tabs.map (·.1)
  es := d.es
  ki c y := d.kiT.lookup (c, y)
  sub c y := d.sbT.lookup (c, y)
  hs := d.hs
def conB (K : PySem.W.Frag) (p : Str × D) : Bool := match PySem.W.nsIn K mainGlobals p.1 with
  | some (some u) => repB K p.2 u
  | _ => false
def Hd.fa (d : Hd) : List He.Fa := d.tabs.map (fun t => .glo t.1) ++ (d.cls.map .glo ++ (d.es.map .exc ++ (d.sbT.map (fun p => .exm p.1.1 p.1.2 p.2) ++ (("ValueError" : Str) :: bnames).map .free)))
def Hd.ex (d : Hd) (K : PySem.W.Frag) : Bool := d.consts.all (conB K) && (d.tabs.all (fun t => tabB K (He.ga K t.1) t.2.1 t.2.2) && (d.kiT.all (kitB K) && d.es.all (excB K)))
/-- the names that the tables speak of are classes of the text -/
def Hd.fit (d : Hd) : Bool := d.es.all (d.cls.contains ·) && (d.kiT.all (fun p => d.cls.contains p.1.1 && (decide (p.1.2 = "ValueError") || d.cls.contains p.1.2)) && d.sbT.all fun p => d.cls.contains p.1.1 && d.cls.contains p.1.2)
theorem mem_lk {α β : Type} [BEq α] [LawfulBEq α] {a : α} {b : β} : ∀ {l : List (α × β)}, l.lookup a = some b → (a, b) ∈ l
  | [], h => by cases h
  | (x, y) :: r, h => by
    rw [List.lookup_cons] at h
    cases e : a == x with
    | true => rw [e] at h; cases h; rw [eq_of_beq e]; exact List.mem_cons_self
    | false => rw [e] at h; exact List.mem_cons_of_mem _ (mem_lk h)
theorem Hd.ok {tb : Addr → Prop} {d : Hd} {K : PySem.W.Frag} {mg : Str → Option Value} (X : K.In h) (N : h.Ns mainGlobals mg) (hfit : d.fit = true) (hfa : ∀ f ∈ d.fa, f.ok K = true) (hex : d.ex K = true) (htab : ∀ t ∈ d.tabs, ∃ es n, KDict K w (He.ga K t.1) es n) :
    MoOk w ⟨K, mg, w, none, tb⟩ d.mo := by
  obtain ⟨x1, hex⟩ := He.ba hex
  obtain ⟨x2, hex⟩ := He.ba hex
  obtain ⟨x3, x4⟩ := He.ba hex
  obtain ⟨f1, hfit⟩ := He.ba hfit
  obtain ⟨f2, f3⟩ := He.ba hfit
  have hcls : ∀ x, d.cls.contains x = true → mg x = some (.ref (He.ga K x)) := fun x hx => He.glo_ok X N (hfa _ (by
    unfold Hd.fa
    exact List.mem_append_right _ (List.mem_append_left _ (List.mem_map_of_mem (List.contains_iff_mem.mp hx)))))
  have hfree : ∀ x ∈ (("ValueError" : Str) :: bnames), mg x = none := fun x hx => He.free_ok X N (hfa _ (by
    unfold Hd.fa
    exact List.mem_append_right _ (List.mem_append_right _ (List.mem_append_right _ (List.mem_append_right _ (List.mem_map_of_mem hx))))))
  refine ⟨fun x hx dd hd => ?_, fun x hx => hfree x (List.mem_cons_of_mem _ hx), fun x hx => ?_, fun c y b hk => ?_, fun c y b hk => ?_⟩
  · have hd : (match d.consts.lookup x with | some c => some c | none => (d.tabs.lookup x).map fun p => D.dct p.1 p.2) = some dd := hd
    cases e : d.consts.lookup x with
    | some c =>
      rw [e] at hd
      cases hd
      have hm := PySem.mem_of_lookup e
      have hb : conB K (x, dd) = true := List.all_eq_true.mp x1 _ hm
      unfold conB at hb
      split at hb
      · rename_i u q
        obtain ⟨v, r1, r2⟩ := repB_ok (G := ⟨K, mg, w, none, tb⟩) X N dd u hb
        exact ⟨u, v, PySem.W.mg_of X N q, r1, r2⟩
      · cases hb
    | none =>
      rw [e] at hd
      obtain ⟨⟨ks, ds⟩, e2, e3⟩ := Option.map_eq_some_iff.mp hd
      subst e3
      have hm := PySem.mem_of_lookup e2
      obtain ⟨es, n, hk⟩ := htab _ hm
      have hb : tabB K (He.ga K x) ks ds = true := List.all_eq_true.mp x2 _ hm
      exact ⟨.ref (He.ga K x), .ref (He.ga K x), He.glo_ok X N (hfa _ (by unfold Hd.fa; exact List.mem_append_left _ (List.mem_map_of_mem (f := fun t : Str × List Str × List D => He.Fa.glo t.1) hm))), rfl, tab_ok (G := ⟨K, mg, w, none, tb⟩) X N hk hb⟩
  · have hc := List.all_eq_true.mp f1 x hx
    obtain ⟨z1, z2, z3, z4⟩ := He.exc_ok (hfa (.exc x) (by unfold Hd.fa; exact List.mem_append_right _ (List.mem_append_right _ (List.mem_append_left _ (List.mem_map_of_mem hx)))))
    exact ⟨_, hcls x hc, ⟨z1, z2, z3, z4⟩, excB_ok (List.all_eq_true.mp x4 x hx)⟩
  · have hk : d.kiT.lookup (c, y) = some b := hk
    have hm := mem_lk hk
    have hb : kitB K ((c, y), b) = true := List.all_eq_true.mp x3 _ hm
    have hf := List.all_eq_true.mp f2 _ hm
    obtain ⟨c1, c2⟩ := He.ba hf
    have hb : PySem.W.kitOne K (.ref (He.ga K c)) (clsU K y) = some b := of_decide_eq_true hb
    have hC := hcls c c1
    by_cases ey : y = ("ValueError" : Str)
    · subst ey
      refine ⟨.ty "ValueError", .type "ValueError", ⟨.ty _, .inr ⟨hfree _ List.mem_cons_self, by decide +kernel⟩⟩, fun C q => ?_⟩
      have q : mg c = some (.ref C) := q
      rw [hC] at q
      cases q
      exact hb
    · have hy : d.cls.contains y = true := by
        rcases Bool.or_eq_true_iff.mp c2 with c2 | c2
        · exact absurd (of_decide_eq_true c2) ey
        · exact c2
      refine ⟨.ref (He.ga K y), .ref (He.ga K y), ⟨.own _, .inl ⟨_, hcls y hy, rfl⟩⟩, fun C q => ?_⟩
      have q : mg c = some (.ref C) := q
      rw [hC] at q
      cases q
      have e : clsU K y = .ref (He.ga K y) := if_neg ey
      rw [e] at hb
      exact hb
  · have hk : d.sbT.lookup (c, y) = some b := hk
    have hm := mem_lk hk
    have hf := List.all_eq_true.mp f3 _ hm
    obtain ⟨c1, c2⟩ := He.ba hf
    exact ⟨_, _, hcls c c1, hcls y c2, He.exm_ok (hfa _ (by unfold Hd.fa; exact List.mem_append_right _ (List.mem_append_right _ (List.mem_append_right _ (List.mem_append_left _ (List.mem_map_of_mem (f := fun p : (Str × Str) × Bool => He.Fa.exm p.1.1 p.1.2 p.2) hm))))))⟩
/-! ### a world that answers one question -/
def wf1 (b : Bool) (w : World) : World := { w with params := { w.params with followText := fun s => if s = "special-get-raises" then b else w.params.followText s } }
theorem wf1_eq (w : World) : wf1 (w.params.followText "special-get-raises") w = w := by
  obtain ⟨d, p⟩ := w
  have e : (fun s => if s = "special-get-raises" then p.followText "special-get-raises" else p.followText s) = p.followText := by
    funext s
    by_cases h : s = "special-get-raises"
    · rw [if_pos h, h]
    · rw [if_neg h]
  show World.mk d { p with followText := (fun s => if s = "special-get-raises" then p.followText "special-get-raises" else p.followText s) } = ⟨d, p⟩
  rw [e]
theorem world_of {M : World → Prop} (w : World) (h : ∀ b, M (wf1 b w)) : M w := Eq.mp (congrArg M (wf1_eq w)) (h _)
end
end Hf

/-! Hf16: the end of a law whose defs make generators. -/
namespace Hf
open PySem PySem.Spec PyProof.Rows L2
set_option autoImplicit false
/-- a def's code object -/
theorem code_at {K : PySem.W.Frag} {x qual : Str} {params : Arguments} {body : List Stmt} {sc : Scope} {dvs : List V} {kws : List (Str × V)} {p : He.Defn} {fd : FuncData} (F : FunD K x qual params body sc dvs kws (He.fAd K p) fd) : fd.code = .ref (He.codeOf K p) := by
  obtain ⟨oc, od, dV, kV, doc, pm, an, cdv, ct, osl, rfl, lk, hcd, _, _⟩ := F.ex
  obtain ⟨c, rfl⟩ := He.codeIn_ref hcd
  rw [He.codeOf_eq lk rfl]
/-- the pairs of a code object and its table -/
def csOf (K : PySem.W.Frag) (tf : List He.Defn) : Addr → Addr → Prop := fun ca Pt => ∃ p ∈ tf, He.cT K p = (ca, Pt)
def tbOf (K : PySem.W.Frag) (tf : List He.Defn) : Addr → Prop := fun Pt => ∃ p ∈ tf, (He.cT K p).2 = Pt
theorem tab_in {K : PySem.W.Frag} {tf : List He.Defn} {x qual : Str} {params : Arguments} {body : List Stmt} {sc : Scope} {dvs : List V} {kws : List (Str × V)} {p : He.Defn} {fd : FuncData} (F : FunD K x qual params body sc dvs kws (He.fAd K p) fd) (hp : p ∈ tf) : ∃ ca Pt, csOf K tf ca Pt ∧ fd.code = .ref ca :=
  ⟨_, _, ⟨p, hp, rfl⟩, code_at F⟩
theorem tabs_ok {K : PySem.W.Frag} {tf : List He.Defn} {base : Heap} {mg : Str → Option Value} (h : ∀ p ∈ tf.map (He.cT K), LamX.TabB base mg p.1 p.2) : ∀ ca Pt, csOf K tf ca Pt → tbOf K tf Pt ∧ GxR.TabB base mg ca Pt := fun ca Pt ⟨p, hp, e⟩ => by
  have t := h _ (List.mem_map_of_mem hp)
  rw [e] at t
  exact ⟨⟨p, hp, by rw [e]⟩, t.code, t.bm, t.gP⟩
theorem tabs_at {K : PySem.W.Frag} {tf : List He.Defn} {H : Hp} (h : ∀ p ∈ tf.map (He.cT K), H p.2 = some (.tbl #[])) : ∀ P, tbOf K tf P → GxR.TabG H P := fun P ⟨p, hp, e⟩ => ⟨#[], by rw [← e]; exact h _ (List.mem_map_of_mem hp), trivial⟩
theorem walk_ofTE {l : PySem.W.OpenLaw} {n k : Nat} {q : Program} {loose : List Str} {XP : (Str → Option Value) → Heap → Prop} {YP : World → Heap → Prop} {d : DefRec} {CX : CXT} {x : Str}
    (hn : l.most = some n) (hn2 : n ≤ sizeLine) (hdf : d.params.defaults = []) (hr : Room k callerA)
    (F : ∀ (w : World) (mg : Str → Option Value) (fa : Addr) (h : Heap), YP w h → h.Ns mainGlobals mg → mg d.name = some (.ref fa) → ∃ K : PySem.W.Frag, K.In h ∧ LamX.LawAtS l w K CX k n x mg fa h)
    (hCX : ∀ (H : Hp) (s : Shared) (e : Value) (s' : Shared), CX [] H s (fun _ _ _ => False) e s' → False) :
    PySem.W.WalkO q loose XP YP l.row.toRowW d [] (fun f vs => PySem.call f vs) := by
  refine Att.attach_callB hn hdf fun w s₀ s₁ mg mb fa o pm cd doc a vs ns G Y ho hd hcd hmg hobj hints hlen hbits hg => ?_
  obtain ⟨K, KX, fd, cs, sp, hT, nT, C, hb, hsp, hF⟩ := F w mg fa _ Y G.T.g hmg
  exact LamX.law_callTs KX G.T.g G.T.b G.T.builtins G.T.nolimit hg hT nT C G.T.bmain hobj hints (Nat.le_trans hlen hn2) hr hF hb (fun H hH hS => hsp H a ns hlen hbits hH hS) fun H e s' => hCX H s₁ e s'
end Hf

namespace Kv
open PySem PySem.Spec PyProof.Rows L2 Hf
set_option autoImplicit false
def c_is_number : Sts :=
    (.cons (.ifs (.or (.val (.isi (.var 0) .bool)) (.not (.val (.isi (.var 0) .int)))) (.cons (.ret (.lit (.bl false)))
    .nil) .nil)
    (.cons (.ret (.chn .Lt .Lt (.neg (.gl "BOUND")) (.var 0) (.gl "BOUND")))
    .nil))
def f_is_number : Df := ⟨["thing"], 1, c_is_number, false⟩
def c_is_value : Sts :=
    (.cons (.set 1 (.lst (.cons (.var 0) .nil)))
    (.cons (.set 2 (.lit (.int 0)))
    (.cons (.whl (.and (.val (.var 1)) (.val (.cmp .LtE (.var 2) (.gl "MOST_WEIGHT")))) (.cons (.pop (.one 3) 1)
    (.cons (.aug 2 .Add (.lit (.int 1)))
    (.cons (.ifs (.val (.isi (.var 3) .tuple)) (.cons (.ext 1 (.var 3))
    .nil) (.cons (.ifs (.not (.val (.call "is_number" (.cons (.var 3) .nil)))) (.cons (.ret (.lit (.bl false)))
    .nil) .nil)
    .nil))
    .nil))))
    (.cons (.ret (.cmp .LtE (.var 2) (.gl "MOST_WEIGHT")))
    .nil))))
def f_is_value : Df := ⟨["thing", "waiting", "weighed", "part"], 1, c_is_value, false⟩
def c_need_number : Sts :=
    (.cons (.ifs (.val (.isi (.var 0) .tuple)) (.cons (.raise "NoNumber")
    .nil) .nil)
    .nil)
def f_need_number : Df := ⟨["value"], 1, c_need_number, false⟩
def c_need_numbers : Sts :=
    (.cons (.expr (.call "need_number" (.cons (.var 0) .nil)))
    (.cons (.expr (.call "need_number" (.cons (.var 1) .nil)))
    .nil))
def f_need_numbers : Df := ⟨["one", "other"], 2, c_need_numbers, false⟩
def c_need_list : Sts :=
    (.cons (.ifs (.not (.val (.isi (.var 0) .tuple))) (.cons (.raise "NoList")
    .nil) .nil)
    .nil)
def f_need_list : Df := ⟨["value"], 1, c_need_list, false⟩
def c_need_parts : Sts :=
    (.cons (.expr (.call "need_list" (.cons (.var 0) .nil)))
    (.cons (.ifs (.not (.val (.var 0))) (.cons (.raise "NoFirst")
    .nil) .nil)
    .nil))
def f_need_parts : Df := ⟨["value"], 1, c_need_parts, false⟩
def c_plus : Sts :=
    (.cons (.expr (.call "need_numbers" (.cons (.var 0) (.cons (.var 1) .nil))))
    (.cons (.ret (.bin .Add (.var 0) (.var 1)))
    .nil))
def f_plus : Df := ⟨["one", "other"], 2, c_plus, false⟩
def c_minus : Sts :=
    (.cons (.expr (.call "need_numbers" (.cons (.var 0) (.cons (.var 1) .nil))))
    (.cons (.ret (.bin .Sub (.var 0) (.var 1)))
    .nil))
def f_minus : Df := ⟨["one", "other"], 2, c_minus, false⟩
def c_times : Sts :=
    (.cons (.expr (.call "need_numbers" (.cons (.var 0) (.cons (.var 1) .nil))))
    (.cons (.ret (.bin .Mult (.var 0) (.var 1)))
    .nil))
def f_times : Df := ⟨["one", "other"], 2, c_times, false⟩
def c_over : Sts :=
    (.cons (.expr (.call "need_numbers" (.cons (.var 0) (.cons (.var 1) .nil))))
    (.cons (.ifs (.val (.cmp .Eq (.var 1) (.lit (.int 0)))) (.cons (.raise "ByNought")
    .nil) .nil)
    (.cons (.ret (.bin .FloorDiv (.var 0) (.var 1)))
    .nil)))
def f_over : Df := ⟨["one", "other"], 2, c_over, false⟩
def c_less : Sts :=
    (.cons (.expr (.call "need_numbers" (.cons (.var 0) (.cons (.var 1) .nil))))
    (.cons (.ret (.ite (.val (.cmp .Lt (.var 0) (.var 1))) (.lit (.int 1)) (.lit (.int 0))))
    .nil))
def f_less : Df := ⟨["one", "other"], 2, c_less, false⟩
def c_down : Sts :=
    (.cons (.expr (.call "need_number" (.cons (.var 0) .nil)))
    (.cons (.ifs (.val (.cmp .LtE (.var 0) (.lit (.int 0)))) (.cons (.raise "NoDown")
    .nil) .nil)
    (.cons (.ret (.bin .Sub (.var 0) (.lit (.int 1))))
    .nil)))
def f_down : Df := ⟨["number"], 1, c_down, false⟩
def c_first : Sts :=
    (.cons (.expr (.call "need_parts" (.cons (.var 0) .nil)))
    (.cons (.ret (.idx (.var 0) (.lit (.int 0))))
    .nil))
def f_first : Df := ⟨["parts"], 1, c_first, false⟩
def c_rest : Sts :=
    (.cons (.expr (.call "need_parts" (.cons (.var 0) .nil)))
    (.cons (.ret (.slc (.var 0) (.some (.lit (.int 1))) .none))
    .nil))
def f_rest : Df := ⟨["parts"], 1, c_rest, false⟩
def c_empty : Sts :=
    (.cons (.expr (.call "need_list" (.cons (.var 0) .nil)))
    (.cons (.ret (.ite (.val (.var 0)) (.lit (.int 0)) (.lit (.int 1))))
    .nil))
def f_empty : Df := ⟨["parts"], 1, c_empty, false⟩
def c_same : Sts :=
    (.cons (.ret (.ite (.val (.cmp .Eq (.var 0) (.var 1))) (.lit (.int 1)) (.lit (.int 0))))
    .nil)
def f_same : Df := ⟨["one", "other"], 2, c_same, false⟩
def c_joined : Sts :=
    (.cons (.expr (.call "need_list" (.cons (.var 1) .nil)))
    (.cons (.ret (.tup (.cons (.var 0) (.star (.var 1) .nil))))
    .nil))
def f_joined : Df := ⟨["value", "parts"], 2, c_joined, false⟩
def c_listed : Sts :=
    (.cons (.ret (.var 0))
    .nil)
def f_listed : Df := ⟨["parts"], 0, c_listed, true⟩
def c_done : Sts :=
    (.cons (.set 2 (.idx (.gl "ACTIONS") (.var 0)))
    (.cons (.set 3 (.star 2 (.var 1)))
    (.cons (.ifs (.not (.val (.call "is_value" (.cons (.var 3) .nil)))) (.cons (.raise "TooGreat")
    .nil) .nil)
    (.cons (.ret (.var 3))
    .nil))))
def f_done : Df := ⟨["operation", "values", "action", "told"], 2, c_done, false⟩
def c__law_cell_at : Sts :=
    (.cons (.ifs (.val (.cmp .Lt (.var 1) (.bi .len (.var 0)))) (.cons (.ret (.idx (.var 0) (.var 1)))
    .nil) .nil)
    (.cons (.ret (.lit (.int 0)))
    .nil))
def f__law_cell_at : Df := ⟨["_law_script", "_law_k"], 2, c__law_cell_at, false⟩
def c__law_next : Sts :=
    (.cons (.set 1 (.bin .Mod (.bin .Add (.bin .Mult (.var 0) (.lit (.int 48271))) (.lit (.int 11))) (.lit (.int 2147483647))))
    (.cons (.ret (.bin .Mod (.bin .Mult (.var 1) (.var 1)) (.lit (.int 2147483629))))
    .nil))
def f__law_next : Df := ⟨["_law_pick", "_law_more"], 1, c__law_next, false⟩
def c__law_value : Sts :=
    (.cons (.set 1 (.lst (.cons (.lit (.int 0)) (.cons (.lit (.int 1)) (.cons (.lit (.int 2)) (.cons (.lit (.int 3)) (.cons (.lit (.int 5)) (.cons (.neg (.lit (.int 1))) (.cons (.neg (.lit (.int 4))) (.cons (.tup .nil) (.cons (.tup (.cons (.lit (.int 1)) .nil)) (.cons (.tup (.cons (.lit (.int 2)) (.cons (.lit (.int 0)) .nil))) (.cons (.tup (.cons (.lit (.int 1)) (.cons (.lit (.int 2)) (.cons (.lit (.int 3)) .nil)))) (.cons (.tup (.cons (.tup .nil) (.cons (.lit (.int 1)) .nil))) (.cons (.tup (.cons (.tup (.cons (.lit (.int 1)) (.cons (.lit (.int 2)) .nil))) (.cons (.tup (.cons (.lit (.int 3)) .nil)) .nil))) (.cons (.tup (.cons (.lit (.int 4)) (.cons (.tup (.cons (.lit (.int 5)) (.cons (.tup (.cons (.lit (.int 6)) .nil)) .nil))) .nil))) .nil))))))))))))))))
    (.cons (.ifs (.val (.cmp .Eq (.bin .Mod (.var 0) (.lit (.int 16))) (.lit (.int 14)))) (.cons (.ret (.bin .Add (.bin .Sub (.bin .Mod (.bin .FloorDiv (.var 0) (.lit (.int 16))) (.bin .Sub (.bin .Mult (.lit (.int 2)) (.bin .Pow (.lit (.int 10)) (.lit (.int 18)))) (.lit (.int 1)))) (.bin .Pow (.lit (.int 10)) (.lit (.int 18)))) (.lit (.int 1))))
    .nil) .nil)
    (.cons (.ifs (.val (.cmp .Eq (.bin .Mod (.var 0) (.lit (.int 16))) (.lit (.int 15)))) (.cons (.ret (.bi .tuple (.comp (.one 2) [2] (.rng1 (.bin .Mod (.bin .FloorDiv (.var 0) (.lit (.int 16))) (.lit (.int 9)))) .nil (.bin .Mod (.bin .FloorDiv (.var 0) (.lit (.int 16))) (.bin .Add (.var 2) (.lit (.int 2)))))))
    .nil) .nil)
    (.cons (.ret (.idx (.var 1) (.bin .Mod (.var 0) (.lit (.int 16)))))
    .nil))))
def f__law_value : Df := ⟨["_law_pick", "_law_some", "_law_k"], 1, c__law_value, false⟩
def c__law_same : Sts :=
    (.cons (.ifs (.val (.isi (.var 1) .tuple)) (.cons (.ifs (.or (.not (.val (.isi (.var 0) .tuple))) (.val (.cmp .NotEq (.bi .len (.var 0)) (.bi .len (.var 1))))) (.cons (.ret (.lit (.bl false)))
    .nil) .nil)
    (.cons (.for_ (.one 2) (.rng1 (.bi .len (.var 1))) (.cons (.ifs (.not (.val (.call "_law_same" (.cons (.idx (.var 0) (.var 2)) (.cons (.idx (.var 1) (.var 2)) .nil))))) (.cons (.ret (.lit (.bl false)))
    .nil) .nil)
    .nil))
    (.cons (.ret (.lit (.bl true)))
    .nil))) .nil)
    (.cons (.ifs (.val (.isi (.var 1) .str)) (.cons (.ret (.and (.isi (.var 0) .str) (.cmp .Eq (.var 0) (.var 1))))
    .nil) .nil)
    (.cons (.ret (.and (.isi (.var 0) .int) (.and (.not (.isi (.var 0) .bool)) (.cmp .Eq (.var 0) (.var 1)))))
    .nil)))
def f__law_same : Df := ⟨["_law_found", "_law_due", "_law_k"], 2, c__law_same, false⟩
def c__law_weight : Sts :=
    (.cons (.ifs (.val (.isi (.var 0) .tuple)) (.cons (.ret (.bin .Add (.lit (.int 1)) (.bi .sum (.comp (.one 1) [1] (.seq (.var 0)) .nil (.call "_law_weight" (.cons (.var 1) .nil))))))
    .nil) .nil)
    (.cons (.ret (.lit (.int 1)))
    .nil))
def f__law_weight : Df := ⟨["_law_value_here", "_law_one"], 1, c__law_weight, false⟩
def c__law_fit : Sts :=
    (.cons (.ifs (.val (.isi (.var 0) .tuple)) (.cons (.ret (.tup (.cons (.cmp .LtE (.call "_law_weight" (.cons (.var 0) .nil)) (.lit (.int 50))) (.cons (.idx (.lst (.cons (.var 0) (.cons (.lit (.str "TooGreat")) .nil))) (.bi .int (.cmp .Gt (.call "_law_weight" (.cons (.var 0) .nil)) (.lit (.int 50))))) .nil))))
    .nil) .nil)
    (.cons (.ret (.tup (.cons (.cmp .Lt (.bi .abs (.var 0)) (.bin .Pow (.lit (.int 10)) (.lit (.int 18)))) (.cons (.idx (.lst (.cons (.var 0) (.cons (.lit (.str "TooGreat")) .nil))) (.bi .int (.cmp .GtE (.bi .abs (.var 0)) (.bin .Pow (.lit (.int 10)) (.lit (.int 18)))))) .nil))))
    .nil))
def f__law_fit : Df := ⟨["_law_value_here"], 1, c__law_fit, false⟩
def c__law_counted : Sts :=
    (.cons (.ifs (.or (.val (.isi (.var 1) .tuple)) (.val (.isi (.var 2) .tuple))) (.cons (.ret (.tup (.cons (.lit (.bl false)) (.cons (.lit (.str "NoNumber")) .nil))))
    .nil) .nil)
    (.cons (.ifs (.val (.cmp .Eq (.var 0) (.lit (.str "over")))) (.cons (.ifs (.val (.cmp .Eq (.var 2) (.lit (.int 0)))) (.cons (.ret (.tup (.cons (.lit (.bl false)) (.cons (.lit (.str "ByNought")) .nil))))
    .nil) .nil)
    (.cons (.ret (.call "_law_fit" (.cons (.bin .FloorDiv (.var 1) (.var 2)) .nil)))
    .nil)) .nil)
    (.cons (.ifs (.val (.cmp .Eq (.var 0) (.lit (.str "less")))) (.cons (.ret (.tup (.cons (.lit (.bl true)) (.cons (.bi .int (.cmp .Lt (.var 1) (.var 2))) .nil))))
    .nil) .nil)
    (.cons (.ret (.call "_law_fit" (.cons (.idx (.dict ["plus", "minus", "times"] (.cons (.bin .Add (.var 1) (.var 2)) (.cons (.bin .Sub (.var 1) (.var 2)) (.cons (.bin .Mult (.var 1) (.var 2)) .nil)))) (.var 0)) .nil)))
    .nil))))
def f__law_counted : Df := ⟨["_law_operation", "_law_one", "_law_other"], 3, c__law_counted, false⟩
def c__law_taken : Sts :=
    (.cons (.ifs (.val (.cmp .Eq (.var 0) (.lit (.str "down")))) (.cons (.ifs (.val (.isi (.var 1) .tuple)) (.cons (.ret (.tup (.cons (.lit (.bl false)) (.cons (.lit (.str "NoNumber")) .nil))))
    .nil) .nil)
    (.cons (.ret (.tup (.cons (.cmp .Gt (.var 1) (.lit (.int 0))) (.cons (.idx (.lst (.cons (.bin .Sub (.var 1) (.lit (.int 1))) (.cons (.lit (.str "NoDown")) .nil))) (.bi .int (.cmp .LtE (.var 1) (.lit (.int 0))))) .nil))))
    .nil)) .nil)
    (.cons (.ifs (.not (.val (.isi (.var 1) .tuple))) (.cons (.ret (.tup (.cons (.lit (.bl false)) (.cons (.lit (.str "NoList")) .nil))))
    .nil) .nil)
    (.cons (.ifs (.val (.cmp .Eq (.var 0) (.lit (.str "empty")))) (.cons (.ret (.tup (.cons (.lit (.bl true)) (.cons (.bi .int (.cmp .Eq (.bi .len (.var 1)) (.lit (.int 0)))) .nil))))
    .nil) .nil)
    (.cons (.ifs (.val (.cmp .Eq (.bi .len (.var 1)) (.lit (.int 0)))) (.cons (.ret (.tup (.cons (.lit (.bl false)) (.cons (.lit (.str "NoFirst")) .nil))))
    .nil) .nil)
    (.cons (.ifs (.val (.cmp .Eq (.var 0) (.lit (.str "first")))) (.cons (.ret (.tup (.cons (.lit (.bl true)) (.cons (.idx (.var 1) (.lit (.int 0))) .nil))))
    .nil) .nil)
    (.cons (.ret (.tup (.cons (.lit (.bl true)) (.cons (.slc (.var 1) (.some (.lit (.int 1))) .none) .nil))))
    .nil))))))
def f__law_taken : Df := ⟨["_law_operation", "_law_value_here"], 2, c__law_taken, false⟩
def c__law_done : Sts :=
    (.cons (.ifs (.val (.cmp .Eq (.var 0) (.lit (.str "list")))) (.cons (.ret (.call "_law_fit" (.cons (.bi .tuple (.var 1)) .nil)))
    .nil) .nil)
    (.cons (.ifs (.val (.cmp .Eq (.var 0) (.lit (.str "same")))) (.cons (.ret (.tup (.cons (.lit (.bl true)) (.cons (.bi .int (.cmp .Eq (.idx (.var 1) (.lit (.int 0))) (.idx (.var 1) (.lit (.int 1))))) .nil))))
    .nil) .nil)
    (.cons (.ifs (.val (.cmp .In (.var 0) (.tup (.cons (.lit (.str "first")) (.cons (.lit (.str "rest")) (.cons (.lit (.str "empty")) (.cons (.lit (.str "down")) .nil))))))) (.cons (.ret (.call "_law_taken" (.cons (.var 0) (.cons (.idx (.var 1) (.lit (.int 0))) .nil))))
    .nil) .nil)
    (.cons (.ifs (.val (.cmp .NotEq (.var 0) (.lit (.str "join")))) (.cons (.ret (.call "_law_counted" (.cons (.var 0) (.cons (.idx (.var 1) (.lit (.int 0))) (.cons (.idx (.var 1) (.lit (.int 1))) .nil)))))
    .nil) .nil)
    (.cons (.ifs (.not (.val (.isi (.idx (.var 1) (.lit (.int 1))) .tuple))) (.cons (.ret (.tup (.cons (.lit (.bl false)) (.cons (.lit (.str "NoList")) .nil))))
    .nil) .nil)
    (.cons (.ret (.call "_law_fit" (.cons (.bin .Add (.tup (.cons (.idx (.var 1) (.lit (.int 0))) .nil)) (.idx (.var 1) (.lit (.int 1)))) .nil)))
    .nil))))))
def f__law_done : Df := ⟨["_law_operation", "_law_values"], 2, c__law_done, false⟩
structure HasV0 (pg : Pg) : Prop where
  l_is_number : pg.fs.lookup ("is_number" : Str) = some f_is_number
  l_is_value : pg.fs.lookup ("is_value" : Str) = some f_is_value
  wf : pg.wf = 1000000
  g_B : pg.mo.gl "BOUND" = some (.int 1000000000000000000)
  g_M : pg.mo.gl "MOST_WEIGHT" = some (.int 50)
structure HasC (pg : Pg) : Prop where
  l__law_cell_at : pg.fs.lookup ("_law_cell_at" : Str) = some f__law_cell_at
  l__law_next : pg.fs.lookup ("_law_next" : Str) = some f__law_next
  l__law_value : pg.fs.lookup ("_law_value" : Str) = some f__law_value
structure HasV (pg : Pg) : Prop extends HasV0 pg, HasC pg where
  l_need_number : pg.fs.lookup ("need_number" : Str) = some f_need_number
  l_need_numbers : pg.fs.lookup ("need_numbers" : Str) = some f_need_numbers
  l_need_list : pg.fs.lookup ("need_list" : Str) = some f_need_list
  l_need_parts : pg.fs.lookup ("need_parts" : Str) = some f_need_parts
  l_plus : pg.fs.lookup ("plus" : Str) = some f_plus
  l_minus : pg.fs.lookup ("minus" : Str) = some f_minus
  l_times : pg.fs.lookup ("times" : Str) = some f_times
  l_over : pg.fs.lookup ("over" : Str) = some f_over
  l_less : pg.fs.lookup ("less" : Str) = some f_less
  l_down : pg.fs.lookup ("down" : Str) = some f_down
  l_first : pg.fs.lookup ("first" : Str) = some f_first
  l_rest : pg.fs.lookup ("rest" : Str) = some f_rest
  l_empty : pg.fs.lookup ("empty" : Str) = some f_empty
  l_same : pg.fs.lookup ("same" : Str) = some f_same
  l_joined : pg.fs.lookup ("joined" : Str) = some f_joined
  l_listed : pg.fs.lookup ("listed" : Str) = some f_listed
  l_done : pg.fs.lookup ("done" : Str) = some f_done
  l__law_same : pg.fs.lookup ("_law_same" : Str) = some f__law_same
  l__law_weight : pg.fs.lookup ("_law_weight" : Str) = some f__law_weight
  l__law_fit : pg.fs.lookup ("_law_fit" : Str) = some f__law_fit
  l__law_counted : pg.fs.lookup ("_law_counted" : Str) = some f__law_counted
  l__law_taken : pg.fs.lookup ("_law_taken" : Str) = some f__law_taken
  l__law_done : pg.fs.lookup ("_law_done" : Str) = some f__law_done
theorem cN {pg : Pg} {n : Nat} {f : Str} {df : Df} (h : pg.fs.lookup f = some df) (ds : List D) : callN pg (n + 1) f ds = runD (pg.tb n) pg.wf df ds := by
  show (match pg.fs.lookup f with | some df => runD (pg.tb n) pg.wf df ds | none => .fail) = _
  rw [h]
theorem tb_fn {pg : Pg} {n : Nat} : (pg.tb n).fn = callN pg n := rfl
theorem tb_fl {pg : Pg} {n : Nat} : (pg.tb (n + 1)).fl = callN pg n := rfl
theorem tb_gok {pg : Pg} {n : Nat} : (pg.tb (n + 1)).gok = true := decide_eq_true (Nat.succ_le_succ (Nat.zero_le n))
theorem tb_gl {pg : Pg} {n : Nat} : (pg.tb n).gl = pg.mo.gl := rfl
theorem tb_ar {pg : Pg} {n : Nat} : (pg.tb n).ar = arN pg.fs := rfl
theorem tb_ki {pg : Pg} {n : Nat} : (pg.tb n).ki = pg.mo.ki := rfl
theorem tb_sub {pg : Pg} {n : Nat} : (pg.tb n).sub = pg.mo.sub := rfl
theorem tb_hot {pg : Pg} {n : Nat} : (pg.tb n).hot = pg.hot := rfl
theorem sz (k : Nat) (h : k ≤ 1000 := by decide) : k ≤ sizeLine := by rw [sizeLine_eq]; omega
theorem lg (n : Nat) (h : n ≤ 1000 := by decide) : Nat.log2 n < 9000 := by
  have : Nat.log2 n ≤ n := Nat.log2_le_self n
  omega
theorem ix0 (n : Nat) : ixN (n + 1) 0 = some 0 := by
  simp [ixN]
theorem ixN_nat {n k : Nat} (h : k < n) : ixN n (k : Int) = some k := by
  simp [ixN, h]
theorem atI_nat {xs : List D} {k : Nat} (h : k < xs.length) : atI xs (k : Int) = some xs[k] := by
  simp [atI, ixN_nat h]
/-! ### == -/
theorem eqI (i j : Int) : D.eqD (.int i) (.int j) = .ok (decide (i = j)) := by
  simp [D.eqD, D.pl, D.toP, PyData.canLay0, PyData.depth, PyData.eqv]
  by_cases h : i = j <;> simp [h]
theorem eq_bl (i j : Bool) : D.eqD (.bl i) (.bl j) = .ok (decide (i = j)) := by
  cases i <;> cases j <;> simp [D.eqD, D.pl, D.toP, PyData.canLay0, PyData.depth, PyData.eqv]
theorem eq_str (x y : Str) (hx : PyData.strOk x = true) (hy : PyData.strOk y = true) : D.eqD (.str x) (.str y) = .ok (decide (x = y)) := by
  simp [D.eqD, D.pl, D.toP, PyData.canLay0, PyData.depth, PyData.eqv, hx, hy]
  try (by_cases h : x = y <;> simp [h])
/-! ### things: leaves and tuples of things -/
inductive Leaf : D → Prop
  | non : Leaf .non
  | bl (b : Bool) : Leaf (.bl b)
  | int (i : Int) : Leaf (.int i)
  | str (x : Str) (h : PyData.strOk x = true) : Leaf (.str x)
inductive Tr : D → Prop
  | leaf {d : D} (h : Leaf d) : Tr d
  | tup {xs : List D} (h : ∀ d ∈ xs, Tr d) : Tr (.tup xs)
def isNum : D → Bool
  | .int i => decide (-1000000000000000000 < i) && decide (i < 1000000000000000000)
  | _ => false
mutual
def wt : D → Nat
  | .tup xs => 1 + wts xs
  | _ => 1
def wts : List D → Nat
  | [] => 0
  | d :: ds => wt d + wts ds
end
mutual
def gd : D → Bool
  | .tup xs => gds xs
  | d => isNum d
def gds : List D → Bool
  | [] => true
  | d :: ds => gd d && gds ds
end
mutual
def dep : D → Nat
  | .tup xs => 1 + deps xs
  | _ => 0
def deps : List D → Nat
  | [] => 0
  | d :: ds => max (dep d) (deps ds)
end
theorem wts_app (a b : List D) : wts (a ++ b) = wts a + wts b := by
  induction a with
  | nil => simp [wts]
  | cons d r ih => simp [wts, ih]; omega
theorem gds_app (a b : List D) : gds (a ++ b) = (gds a && gds b) := by
  induction a with
  | nil => simp [gds]
  | cons d r ih => simp [gds, ih, Bool.and_assoc]
theorem deps_app (a b : List D) : deps (a ++ b) = max (deps a) (deps b) := by
  induction a with
  | nil => simp [deps]
  | cons d r ih => simp only [List.cons_append, deps, ih]; omega
theorem wt_pos (d : D) : 1 ≤ wt d := by cases d <;> simp [wt]
theorem wts_len (a : List D) : a.length ≤ wts a := by
  induction a with
  | nil => exact Nat.zero_le _
  | cons d r ih => have := wt_pos d; simp only [List.length_cons, wts]; omega
theorem wts_mem {xs : List D} {d : D} (h : d ∈ xs) : wt d ≤ wts xs := by
  induction xs with
  | nil => cases h
  | cons x r ih =>
    simp only [wts]
    rcases List.mem_cons.mp h with e | h
    · subst e; omega
    · have := ih h; omega
theorem deps_mem {xs : List D} {d : D} (h : d ∈ xs) : dep d ≤ deps xs := by
  induction xs with
  | nil => cases h
  | cons x r ih =>
    simp only [deps]
    rcases List.mem_cons.mp h with e | h
    · subst e; omega
    · have := ih h; omega
mutual
theorem dep_wt : ∀ d : D, dep d ≤ wt d
  | .tup xs => by have := deps_wts xs; simp only [dep, wt]; omega
  | .non => by simp [dep, wt]
  | .bl _ => by simp [dep, wt]
  | .int _ => by simp [dep, wt]
  | .str _ => by simp [dep, wt]
  | .lst _ => by simp [dep, wt]
  | .fn _ => by simp [dep, wt]
  | .exc _ => by simp [dep, wt]
  | .dct _ _ => by simp [dep, wt]
theorem deps_wts : ∀ ds : List D, deps ds ≤ wts ds
  | [] => by simp [deps, wts]
  | d :: r => by have := dep_wt d; have := deps_wts r; simp only [deps, wts]; omega
end
theorem last_of {W : List D} (h : W ≠ []) : ∃ W' p, W = W' ++ [p] := ⟨W.dropLast, W.getLast h, (List.dropLast_concat_getLast h).symm⟩
theorem leaf_of {d : D} (h : Tr d) : Leaf d ∨ ∃ xs, d = .tup xs ∧ ∀ x ∈ xs, Tr x := by
  cases h with
  | leaf h => exact .inl h
  | tup h => exact .inr ⟨_, rfl, h⟩
theorem leaf_wt {d : D} (h : Leaf d) : wt d = 1 ∧ gd d = isNum d ∧ dep d = 0 := by cases h <;> simp [wt, gd, dep]
theorem seq_assoc (r : Fl) (f g : En → Fl) : (r.seq f).seq g = r.seq fun ρ => (f ρ).seq g := by cases r <;> rfl
theorem compL_fm {f : D → Res (Option D)} {g : D → Option D} : ∀ {xs : List D}, (∀ d ∈ xs, f d = .ok (g d)) → compL f xs = .ok (xs.filterMap g)
  | [], _ => rfl
  | d :: xs, h => by
    rw [compL, h d List.mem_cons_self, compL_fm (xs := xs) fun d hd => h d (List.mem_cons_of_mem _ hd)]
    cases e : g d <;> simp [Res.bind, e]
theorem compL_map {f : D → Res (Option D)} {g : D → D} {xs : List D} (h : ∀ d ∈ xs, f d = .ok (some (g d))) : compL f xs = .ok (xs.map g) := by
  rw [compL_fm (g := fun d => some (g d)) h]
  simp
theorem ints_map {α : Type} (xs : List α) (f : α → Int) : intsOf (xs.map fun d => D.int (f d)) = some (xs.map f) := by
  induction xs with
  | nil => rfl
  | cons d r ih => simp [intsOf, ih]
theorem sum_wt (xs : List D) : (xs.map fun d => (wt d : Int)).sum = (wts xs : Int) := by
  induction xs with
  | nil => rfl
  | cons d r ih => simp only [List.map_cons, List.sum_cons, ih, wts]; omega
mutual
theorem tr_pl : ∀ {d : D}, Tr d → d.pl = true ∧ d.toP.canLay0 = true
  | _, .leaf h => by cases h <;> simp [D.pl, D.toP, PyData.canLay0, *]
  | .tup xs, .tup h => by
    have := trs_pl (xs := xs) h
    simpa [D.pl, D.toP, PyData.canLay0] using this
theorem trs_pl : ∀ {xs : List D}, (∀ d ∈ xs, Tr d) → D.pls xs = true ∧ PyData.canLayAll0 (D.toPs xs) = true
  | [], _ => by simp [D.pls, D.toPs, PyData.canLayAll0]
  | d :: r, h => by
    have h1 := tr_pl (h d (by simp))
    have h2 := trs_pl (xs := r) (fun x hx => h x (by simp [hx]))
    simp [D.pls, D.toPs, PyData.canLayAll0, h1, h2]
end
theorem tr_int (i : Int) : Tr (.int i) := .leaf (.int i)
theorem tr_bl (b : Bool) : Tr (.bl b) := .leaf (.bl b)
section
variable {pg : Pg} {n : Nat} (H : HasV0 pg)
include H
theorem v_num {d : D} (h : Leaf d) : callN pg (n + 1) "is_number" [d] = .ok (false, .bl (isNum d)) := by
  rw [cN H.l_is_number]
  cases h with
  | int i =>
    by_cases h1 : -1000000000000000000 < i <;>
    simp [runD, argsD, entE, exs, ex, evT, ev, evs, evo, evc, evi, bor, getO, getF, sndR, intR, Res.bind, onR, Fl.seq, fz, usT, us, ub, uss, uso, usc, usi, isiD, okB, D.tru, negD, cmpD, opD, idxD, slcD, biD, okF, endR, setE, bindT, itemsD, tb_fn, tb_fl, tb_gok, itemsW, m1T, m1D, lensetD, blR, tb_gl, tb_ar, tb_ki, tb_sub, tb_hot, f_is_number, c_is_number, tb_gl, H.g_B, isNum, h1]
  | _ => simp [runD, argsD, entE, exs, ex, evT, ev, evs, evo, evc, evi, bor, getO, getF, sndR, intR, Res.bind, onR, Fl.seq, fz, usT, us, ub, uss, uso, usc, usi, isiD, okB, D.tru, negD, cmpD, opD, idxD, slcD, biD, okF, endR, setE, bindT, itemsD, tb_fn, tb_fl, tb_gok, itemsW, m1T, m1D, lensetD, blR, tb_gl, tb_ar, tb_ki, tb_sub, tb_hot, f_is_number, c_is_number, tb_gl, H.g_B, isNum]
end
/-! ### the weighing -/
def cV : Te := .and (.val (.var 1)) (.val (.cmp .LtE (.var 2) (.gl "MOST_WEIGHT")))
def bV : Sts := (.cons (.pop (.one 3) 1)
    (.cons (.aug 2 .Add (.lit (.int 1)))
    (.cons (.ifs (.val (.isi (.var 3) .tuple)) (.cons (.ext 1 (.var 3))
    .nil) (.cons (.ifs (.not (.val (.call "is_number" (.cons (.var 3) .nil)))) (.cons (.ret (.lit (.bl false)))
    .nil) .nil)
    .nil))
    .nil)))
theorem bV_tup {T : Tb} {wf : Nat} {t : D} {W xs : List D} {k : Int} {x : Option (Bool × D)} (hz : W.length + xs.length ≤ sizeLine) :
    exs T wf bV [some (false, t), some (true, .lst (W ++ [.tup xs])), some (false, .int k), x] = .nx [some (false, t), some (true, .lst (W ++ xs)), some (false, .int (k + 1)), some (false, .tup xs)] := by
  simp [runD, argsD, entE, exs, ex, evT, ev, evs, evo, evc, evi, bor, getO, getF, sndR, intR, Res.bind, onR, Fl.seq, fz, usT, us, ub, uss, uso, usc, usi, isiD, okB, D.tru, negD, cmpD, opD, idxD, slcD, biD, okF, endR, setE, bindT, itemsD, tb_fn, tb_fl, tb_gok, itemsW, m1T, m1D, lensetD, blR, tb_gl, tb_ar, tb_ki, tb_sub, tb_hot, bV, iopD, hz]
theorem bV_leaf {T : Tb} {wf : Nat} {t d : D} {W : List D} {k : Int} {x : Option (Bool × D)} (hl : Leaf d) (hT : T.fn "is_number" [d] = .ok (false, .bl (isNum d))) :
    exs T wf bV [some (false, t), some (true, .lst (W ++ [d])), some (false, .int k), x] = if isNum d = true then .nx [some (false, t), some (true, .lst W), some (false, .int (k + 1)), some (false, d)] else .rt false (.bl false) := by
  cases hl with
  | int i => cases hb : isNum (.int i) <;> simp [runD, argsD, entE, exs, ex, evT, ev, evs, evo, evc, evi, bor, getO, getF, sndR, intR, Res.bind, onR, Fl.seq, fz, usT, us, ub, uss, uso, usc, usi, isiD, okB, D.tru, negD, cmpD, opD, idxD, slcD, biD, okF, endR, setE, bindT, itemsD, tb_fn, tb_fl, tb_gok, itemsW, m1T, m1D, lensetD, blR, tb_gl, tb_ar, tb_ki, tb_sub, tb_hot, bV, iopD, hT, hb]
  | _ => simp [runD, argsD, entE, exs, ex, evT, ev, evs, evo, evc, evi, bor, getO, getF, sndR, intR, Res.bind, onR, Fl.seq, fz, usT, us, ub, uss, uso, usc, usi, isiD, okB, D.tru, negD, cmpD, opD, idxD, slcD, biD, okF, endR, setE, bindT, itemsD, tb_fn, tb_fl, tb_gok, itemsW, m1T, m1D, lensetD, blR, tb_gl, tb_ar, tb_ki, tb_sub, tb_hot, bV, iopD, hT, isNum]
theorem cV_ok {T : Tb} {t : D} {W : List D} {k : Int} {x : Option (Bool × D)} (hg : T.gl "MOST_WEIGHT" = some (.int 50)) : evT T cV [some (false, t), some (true, .lst W), some (false, .int k), x] = .ok (!W.isEmpty && decide (k ≤ 50)) := by
  cases W <;> simp [runD, argsD, entE, exs, ex, evT, ev, evs, evo, evc, evi, bor, getO, getF, sndR, intR, Res.bind, onR, Fl.seq, fz, usT, us, ub, uss, uso, usc, usi, isiD, okB, D.tru, negD, cmpD, opD, idxD, slcD, biD, okF, endR, setE, bindT, itemsD, tb_fn, tb_fl, tb_gok, itemsW, m1T, m1D, lensetD, blR, tb_gl, tb_ar, tb_ki, tb_sub, tb_hot, cV, hg]
theorem fzV (ρ : En) : fz (usT cV) ρ = ρ := rfl
/-- the loop of is_value -/
theorem loopV {T : Tb} {wf : Nat} (hg : T.gl "MOST_WEIGHT" = some (.int 50)) (hT : ∀ d, Leaf d → T.fn "is_number" [d] = .ok (false, .bl (isNum d))) (t : D) : ∀ (m : Nat) (W : List D) (k : Nat) (x : Option (Bool × D)), (∀ d ∈ W, Tr d) → wts W ≤ 1000000 → k ≤ 51 → 52 ≤ m + k →
    endR ((whN (evT T cV) (fz (usT cV)) (exs T wf bV) m [some (false, t), some (true, .lst W), some (false, .int k), x]).seq (exs T wf (.cons (.ret (.cmp .LtE (.var 2) (.gl "MOST_WEIGHT"))) .nil))) = .ok (false, .bl (gds W && decide (k + wts W ≤ 50)))
  | 0, W, k, x, _, _, h1, h2 => by omega
  | m + 1, W, k, x, hW, hz, h1, h2 => by
    rw [whN]
    simp only [fzV]
    rw [cV_ok hg]
    by_cases hk : (k : Int) ≤ 50
    · by_cases hn : W = []
      · subst hn
        have hk' : k ≤ 50 := by omega
        simp [runD, argsD, entE, exs, ex, evT, ev, evs, evo, evc, evi, bor, getO, getF, sndR, intR, Res.bind, onR, Fl.seq, fz, usT, us, ub, uss, uso, usc, usi, isiD, okB, D.tru, negD, cmpD, opD, idxD, slcD, biD, okF, endR, setE, bindT, itemsD, tb_fn, tb_fl, tb_gok, itemsW, m1T, m1D, lensetD, blR, tb_gl, tb_ar, tb_ki, tb_sub, tb_hot, hg, gds, wts, hk, hk']
      · obtain ⟨W', p, rfl⟩ := last_of hn
        have hc : (!(W' ++ [p]).isEmpty && decide ((k : Int) ≤ 50)) = true := by simp [hk]
        have hp : Tr p := hW p (by simp)
        have hW' : ∀ d ∈ W', Tr d := fun d hd => hW d (by simp [hd])
        have ew : wts (W' ++ [p]) = wts W' + wt p := by rw [wts_app]; simp [wts]
        rw [hc]
        simp only [onR, if_true]
        rcases leaf_of hp with hl | ⟨xs, rfl, hx⟩
        · obtain ⟨w1, w2, _⟩ := leaf_wt hl
          rw [bV_leaf hl (hT p hl)]
          cases hb : isNum p with
          | true =>
            have ih := loopV (wf := wf) hg hT t m W' (k + 1) (some (false, p)) hW' (by omega) (by omega) (by omega)
            simp only [if_true]
            have e1 : ((k : Int) + 1) = ((k + 1 : Nat) : Int) := by omega
            have e4 : (k + 1 + wts W' ≤ 50) = (k + (wts W' + wt p) ≤ 50) := by rw [w1]; apply propext; omega
            rw [e1, ih, gds_app, ew]
            simp only [e4]
            simp [gds, w2, hb]
          | false =>
            simp [runD, argsD, entE, exs, ex, evT, ev, evs, evo, evc, evi, bor, getO, getF, sndR, intR, Res.bind, onR, Fl.seq, fz, usT, us, ub, uss, uso, usc, usi, isiD, okB, D.tru, negD, cmpD, opD, idxD, slcD, biD, okF, endR, setE, bindT, itemsD, tb_fn, tb_fl, tb_gok, itemsW, m1T, m1D, lensetD, blR, tb_gl, tb_ar, tb_ki, tb_sub, tb_hot, gds_app, gds, w2, hb]
        · have e2 : wt (.tup xs) = 1 + wts xs := by simp [wt]
          have l1 := wts_len W'
          have l2 := wts_len xs
          have hsz : W'.length + xs.length ≤ sizeLine := by rw [sizeLine_eq]; omega
          rw [bV_tup hsz]
          have ih := loopV (wf := wf) hg hT t m (W' ++ xs) (k + 1) (some (false, .tup xs)) (fun d hd => (List.mem_append.mp hd).elim (hW' d) (hx d)) (by rw [wts_app]; omega) (by omega) (by omega)
          have e1 : ((k : Int) + 1) = ((k + 1 : Nat) : Int) := by omega
          simp only []
          rw [e1, ih, gds_app, gds_app, wts_app, ew]
          have e3 : gds [D.tup xs] = gds xs := by simp [gds, gd]
          have e4 : (k + 1 + (wts W' + wts xs) ≤ 50) = (k + (wts W' + wt (.tup xs)) ≤ 50) := by rw [e2]; apply propext; omega
          rw [e3]
          simp only [e4]
    · have hc : (!W.isEmpty && decide ((k : Int) ≤ 50)) = false := by simp [hk]
      rw [hc]
      have e5 : (decide (k + wts W ≤ 50)) = false := decide_eq_false (by omega)
      have e6 : decide ((k : Int) ≤ 50) = false := decide_eq_false hk
      rw [e5]
      simp [runD, argsD, entE, exs, ex, evT, ev, evs, evo, evc, evi, bor, getO, getF, sndR, intR, Res.bind, onR, Fl.seq, fz, usT, us, ub, uss, uso, usc, usi, isiD, okB, D.tru, negD, cmpD, opD, idxD, slcD, biD, okF, endR, setE, bindT, itemsD, tb_fn, tb_fl, tb_gok, itemsW, m1T, m1D, lensetD, blR, tb_gl, tb_ar, tb_ki, tb_sub, tb_hot, hg, e6]
section
variable {pg : Pg} {n : Nat} (H : HasV0 pg)
include H
theorem v_value {d : D} (h : Tr d) (hw : wt d ≤ 1000000) : callN pg (n + 2) "is_value" [d] = .ok (false, .bl (gd d && decide (wt d ≤ 50))) := by
  rw [cN H.l_is_value]
  have L := loopV (T := pg.tb (n + 1)) (wf := pg.wf) H.g_M (fun d hd => v_num H hd) d pg.wf [d] 0 none (fun x hx => by simp at hx; subst hx; exact h) (by simpa [wts] using hw) (by omega) (by rw [H.wf]; omega)
  have e : runD (pg.tb (n + 1)) pg.wf f_is_value [d] = endR ((whN (evT (pg.tb (n + 1)) cV) (fz (usT cV)) (exs (pg.tb (n + 1)) pg.wf bV) pg.wf [some (false, d), some (true, .lst [d]), some (false, .int (0 : Nat)), none]).seq (exs (pg.tb (n + 1)) pg.wf (.cons (.ret (.cmp .LtE (.var 2) (.gl "MOST_WEIGHT"))) .nil))) := by
    rfl
  rw [e, L]
  simp [gds, wts]
end
section
variable {pg : Pg} {n : Nat} (H : HasV pg)
include H
theorem v_lweight : ∀ (n : Nat) (d : D), Tr d → dep d < n → wt d ≤ 1000000 → callN pg n "_law_weight" [d] = .ok (false, .int (wt d))
  | 0, d, _, h, _ => by omega
  | n + 1, d, ht, h, hw => by
    rw [cN H.l__law_weight]
    rcases leaf_of ht with hl | ⟨xs, rfl, hx⟩
    · cases hl <;> simp [runD, argsD, entE, exs, ex, evT, ev, evs, evo, evc, evi, bor, getO, getF, sndR, intR, Res.bind, onR, Fl.seq, fz, usT, us, ub, uss, uso, usc, usi, isiD, okB, D.tru, negD, cmpD, opD, idxD, slcD, biD, okF, endR, setE, bindT, itemsD, tb_fn, tb_fl, tb_gok, itemsW, m1T, m1D, lensetD, blR, tb_gl, tb_ar, tb_ki, tb_sub, tb_hot, f__law_weight, c__law_weight, wt]
    · have e2 : wt (.tup xs) = 1 + wts xs := by simp [wt]
      have e3 : dep (.tup xs) = 1 + deps xs := by simp [dep]
      have hi : ∀ d ∈ xs, callN pg n "_law_weight" [d] = .ok (false, .int (wt d)) := fun d hd => by
        have := wts_mem hd
        exact v_lweight n d (hx d hd) (by have := deps_mem hd; omega) (by omega)
      have l2 := wts_len xs
      have hsz : xs.length ≤ sizeLine := by rw [sizeLine_eq]; omega
      simp only [runD, f__law_weight, c__law_weight, exs, ex, ev, evi]
      have hb : ∀ T : Tb, evT T (.val (.isi (.var 0) .tuple)) [some (false, .tup xs), none] = .ok true := fun T => by simp [runD, argsD, entE, exs, ex, evT, ev, evs, evo, evc, evi, bor, getO, getF, sndR, intR, Res.bind, onR, Fl.seq, fz, usT, us, ub, uss, uso, usc, usi, isiD, okB, D.tru, negD, cmpD, opD, idxD, slcD, biD, okF, endR, setE, bindT, itemsD, tb_fn, tb_fl, tb_gok, itemsW, m1T, m1D, lensetD, blR, tb_gl, tb_ar, tb_ki, tb_sub, tb_hot]
      simp [runD, argsD, entE, exs, ex, evT, ev, evs, evo, evc, evi, bor, getO, getF, sndR, intR, Res.bind, onR, Fl.seq, fz, usT, us, ub, uss, uso, usc, usi, isiD, okB, D.tru, negD, cmpD, opD, idxD, slcD, biD, okF, endR, setE, bindT, itemsD, tb_fn, tb_fl, tb_gok, itemsW, m1T, m1D, lensetD, blR, tb_gl, tb_ar, tb_ki, tb_sub, tb_hot, hb, hsz]
      rw [compL_map (g := fun d => .int (wt d)) (fun d hd => by simp [runD, argsD, entE, exs, ex, evT, ev, evs, evo, evc, evi, bor, getO, getF, sndR, intR, Res.bind, onR, Fl.seq, fz, usT, us, ub, uss, uso, usc, usi, isiD, okB, D.tru, negD, cmpD, opD, idxD, slcD, biD, okF, endR, setE, bindT, itemsD, tb_fn, tb_fl, tb_gok, itemsW, m1T, m1D, lensetD, blR, tb_gl, tb_ar, tb_ki, tb_sub, tb_hot, wipeE, noX, tb_fn, hi d hd])]
      simp [runD, argsD, entE, exs, ex, evT, ev, evs, evo, evc, evi, bor, getO, getF, sndR, intR, Res.bind, onR, Fl.seq, fz, usT, us, ub, uss, uso, usc, usi, isiD, okB, D.tru, negD, cmpD, opD, idxD, slcD, biD, okF, endR, setE, bindT, itemsD, tb_fn, tb_fl, tb_gok, itemsW, m1T, m1D, lensetD, blR, tb_gl, tb_ar, tb_ki, tb_sub, tb_hot, ints_map, sum_wt, e2]
end

end Kv

namespace Kv
open PySem PySem.Spec PyProof.Rows L2 Hf
set_option autoImplicit false
/-! ### the code by what comes next -/
abbrev Rr := Res (Bool × D)
structure Kt where
  nx : En → Rr
  ct : En → Rr
  bk : En → Rr
def K0 : Kt := ⟨fun _ => okF .non, fun _ => .fail, fun _ => .fail⟩
def finK (r : Fl) (k : Kt) : Rr := match r with
  | .nx ρ => k.nx ρ
  | .rt b d => .ok (b, d)
  | .ex c _ => .exc c
  | .bk ρ => k.bk ρ
  | .ct ρ => k.ct ρ
  | .fail => .fail
theorem endR_fin (r : Fl) : endR r = finK r K0 := by cases r <;> rfl
def setEsK : List Nat → List D → En → (En → Rr) → Rr
  | [], ds, ρ, k => (match ds with
    | [] => k ρ
    | _ :: _ => .fail)
  | i :: is, ds, ρ, k => (match ds with
    | [] => .fail
    | d :: ds => setEsK is ds (setE ρ i d) k)
def bindK (t : Tg) (d : D) (ρ : En) (k : En → Rr) : Rr := match t with
  | .one i => k (setE ρ i d)
  | .tup is => (match d with
    | .tup ds => setEsK is ds ρ k
    | _ => .fail)
theorem setEsK_eq : ∀ (is : List Nat) (ds : List D) (ρ : En) (k : En → Rr), setEsK is ds ρ k = (match setEs is ds ρ with | .ok ρ' => k ρ' | _ => .fail)
  | [], [], _, _ => rfl
  | _ :: is, _ :: ds, _, _ => setEsK_eq is ds _ _
  | [], _ :: _, _, _ => rfl
  | _ :: _, [], _, _ => rfl
theorem bindK_eq (t : Tg) (d : D) (ρ : En) (k : En → Rr) : bindK t d ρ k = (match bindT t d ρ with | .ok ρ' => k ρ' | _ => .fail) := by
  cases t with
  | one i => rfl
  | tup is => cases d <;> first | exact setEsK_eq _ _ _ _ | rfl
def forK (t : Tg) (b : En → Kt → Rr) : List D → En → (En → Rr) → Rr
  | [], ρ, k => k ρ
  | d :: ds, ρ, k => bindK t d ρ fun ρ1 => b ρ1 ⟨fun ρ2 => forK t b ds ρ2 k, fun ρ2 => forK t b ds ρ2 k, k⟩
def whK (c : En → Res Bool) (z : En → En) (b : En → Kt → Rr) : Nat → En → (En → Rr) → Rr
  | 0, _, _ => .fail
  | n + 1, ρ, k => (c (z ρ)).bind fun t => if t = true then b (z ρ) ⟨fun ρ2 => whK c z b n ρ2 k, fun ρ2 => whK c z b n ρ2 k, k⟩ else k (z ρ)
/-- a pattern's parts -/
def ppK : List Pp → List D → En → (En → Rr) → Rr → Rr
  | [], ds, ρ, h, _ => (match ds with
    | [] => h ρ
    | _ :: _ => .fail)
  | p :: ps, ds, ρ, h, m => (match ds with
    | [] => .fail
    | d :: ds => (match p with
      | .any => ppK ps ds ρ h m
      | .nm i => ppK ps ds (setE ρ i d) h m
      | .lit x => (match D.eqD d (.str x) with
        | .ok true => ppK ps ds ρ h m
        | .ok false => m
        | _ => .fail)))
def paK (p : Pa) (d : D) (ρ : En) (h : En → Rr) (m : Rr) : Rr := match p with
  | .any => h ρ
  | .lit x => (match D.eqD d (.str x) with
    | .ok true => h ρ
    | .ok false => m
    | _ => .fail)
  | .seq ps => (match d with
    | .tup ds => if ds.length = ps.length then ppK ps ds ρ h m else m
    | .int _ => m
    | .str _ => m
    | _ => .fail)
theorem ppK_eq : ∀ (ps : List Pp) (ds : List D) (ρ : En) (h : En → Rr) (m : Rr), ds.length = ps.length → ppK ps ds ρ h m = (match ppD ps ds with | .ok (some bs) => h (binds bs ρ) | .ok none => m | _ => .fail)
  | [], [], _, _, _, _ => rfl
  | .any :: ps, _ :: ds, ρ, h, m, e => by
    simp only [ppK]
    rw [ppD]
    exact ppK_eq ps ds ρ h m (by simpa using e)
  | .nm i :: ps, d :: ds, ρ, h, m, e => by
    simp only [ppK]
    rw [ppD, ppK_eq ps ds _ h m (by simpa using e)]
    cases ppD ps ds with
    | ok o => cases o <;> rfl
    | exc c => rfl
    | fail => rfl
  | .lit x :: ps, d :: ds, ρ, h, m, e => by
    simp only [ppK]
    rw [ppD, ppK_eq ps ds _ h m (by simpa using e)]
    cases D.eqD d (.str x) with
    | ok t => cases t <;> rfl
    | exc c => rfl
    | fail => rfl
  | [], _ :: _, _, _, _, e => by simp at e
  | _ :: _, [], _, _, _, e => by simp at e
theorem paK_eq (p : Pa) (d : D) (ρ : En) (h : En → Rr) (m : Rr) : paK p d ρ h m = (match paD p d with | .ok (some bs) => h (binds bs ρ) | .ok none => m | _ => .fail) := by
  cases p with
  | any => rfl
  | lit x =>
    rw [paK, paD]
    cases D.eqD d (.str x) with
    | ok t => cases t <;> rfl
    | exc c => rfl
    | fail => rfl
  | seq ps =>
    cases d with
    | tup ds =>
      simp only [paK, paD]
      by_cases e : ds.length = ps.length
      · rw [if_pos e, if_pos e]; exact ppK_eq ps ds ρ h m e
      · rw [if_neg e, if_neg e]
    | _ => rfl
/-- one's own list -/
def ownK (ρ : En) (i : Nat) (k : List D → Rr) : Rr := match ρ[i]? with
  | some (some (true, .lst ds)) => k ds
  | _ => .fail
def getK (ρ : En) (i : Nat) (k : Bool × D → Rr) : Rr := match ρ[i]? with
  | some (some x) => k x
  | _ => .fail
mutual
def exK (T : Tb) (wf : Nat) : Hf.St → En → Kt → Rr
  | .pass, ρ, k => k.nx ρ
  | .brk, ρ, k => k.bk ρ
  | .cnt, ρ, k => k.ct ρ
  | .expr e, ρ, k => (ev T e (fz (us e) ρ)).bind fun _ => k.nx (fz (us e) ρ)
  | .set i e, ρ, k => (ev T e (fz (us e) ρ)).bind fun x => k.nx ((fz (us e) ρ).set i (some x))
  | .sets t e, ρ, k => (ev T e (fz (us e) ρ)).bind fun x => bindK t x.2 (fz (us e) ρ) k.nx
  | .aug i o e, ρ, k => getK ρ i fun a => (ev T e (fz (us e) ρ)).bind fun b => (iopD o a.2 b.2).bind fun x => k.nx ((fz (us e) ρ).set i (some x))
  | .app i e, ρ, k => ownK (fz (us e) ρ) i fun ds => (ev T e (fz (us e) ρ)).bind fun b => if ds.length < sizeLine then k.nx ((fz (us e) ρ).set i (some (true, .lst (ds ++ [b.2])))) else .fail
  | .ext i e, ρ, k => ownK (fz (us e) ρ) i fun ds => (ev T e (fz (us e) ρ)).bind fun b => (match b.2 with
      | .tup es => if ds.length + es.length ≤ sizeLine then k.nx ((fz (us e) ρ).set i (some (true, .lst (ds ++ es)))) else .fail
      | .lst es => if ds.length + es.length ≤ sizeLine then k.nx ((fz (us e) ρ).set i (some (true, .lst (ds ++ es)))) else .fail
      | _ => .fail)
  | .pop t i, ρ, k => ownK ρ i fun ds => (match ds[ds.length - 1]? with
      | some d => bindK t d (ρ.set i (some (true, .lst ds.dropLast))) k.nx
      | none => .fail)
  | .put i q e, ρ, k => ownK (fz (us e ++ us q) ρ) i fun ds => (ev T e (fz (us e ++ us q) ρ)).bind fun b => (ev T q (fz (us e ++ us q) ρ)).bind fun j => (match j.2 with
      | .int j => (match ixN ds.length j with
        | some n => k.nx ((fz (us e ++ us q) ρ).set i (some (true, .lst (ds.set n b.2))))
        | none => .fail)
      | _ => .fail)
  | .ret e, ρ, _ => (match e with
    | .var i => getK ρ i .ok
    | e => ev T e (fz (us e) ρ))
  | .retN, _, _ => okF .non
  | .ifs c a b, ρ, k => (evT T c (fz (usT c) ρ)).bind fun t => if t = true then exsK T wf a (fz (usT c) ρ) k else exsK T wf b (fz (usT c) ρ) k
  | .whl c b, ρ, k => whK (evT T c) (fz (usT c)) (exsK T wf b) wf ρ k.nx
  | .for_ t it b, ρ, k => (evi T it (fz (usi it) ρ)).bind fun ds => forK t (exsK T wf b) ds (fz (usi it) ρ) k.nx
  | .raise x, _, _ => .exc x
  | .tryW b cl i f, ρ, k => finK (ex T wf (.tryW b cl i f) ρ) k
  | .mtc i cs, ρ, k => (getF ρ i).bind fun x => excsK T wf cs x.2 ρ k
def exsK (T : Tb) (wf : Nat) : Sts → En → Kt → Rr
  | .nil, ρ, k => k.nx ρ
  | .cons s ss, ρ, k => exK T wf s ρ { k with nx := fun ρ' => exsK T wf ss ρ' k }
def excsK (T : Tb) (wf : Nat) : Css → D → En → Kt → Rr
  | .nil, _, ρ, k => k.nx ρ
  | .cons p b r, d, ρ, k => paK p d ρ (fun ρ' => exsK T wf b ρ' k) (excsK T wf r d ρ k)
end
theorem fin_on {α : Type} (r : Res α) (ρ : En) (f : α → Fl) (k : Kt) : finK (onR r ρ f) k = r.bind fun a => finK (f a) k := by cases r <;> rfl
theorem fin_seq (r : Fl) (f : En → Fl) (k : Kt) : finK (r.seq f) k = finK r { k with nx := fun ρ => finK (f ρ) k } := by cases r <;> rfl
theorem fin_for {t : Tg} {b : En → Fl} {b' : En → Kt → Rr} (h : ∀ ρ k, finK (b ρ) k = b' ρ k) : ∀ (ds : List D) (ρ : En) (k : Kt), finK (forN t b ds ρ) k = forK t b' ds ρ k.nx
  | [], _, _ => rfl
  | d :: ds, ρ, k => by
    rw [forN, forK, bindK_eq]
    cases bindT t d ρ with
    | ok ρ1 =>
      simp only []
      rw [← h]
      have ih := fun ρ2 => fin_for (t := t) h ds ρ2 k
      cases b ρ1 <;> first | rfl | exact ih _
    | exc c => rfl
    | fail => rfl
theorem fin_wh {c : En → Res Bool} {z : En → En} {b : En → Fl} {b' : En → Kt → Rr} (h : ∀ ρ k, finK (b ρ) k = b' ρ k) : ∀ (n : Nat) (ρ : En) (k : Kt), finK (whN c z b n ρ) k = whK c z b' n ρ k.nx
  | 0, _, _ => rfl
  | n + 1, ρ, k => by
    rw [whN, whK, fin_on]
    congr 1
    funext t
    cases t with
    | false => rfl
    | true =>
      simp only [if_true]
      rw [← h]
      have ih := fun ρ2 => fin_wh (c := c) (z := z) h n ρ2 k
      cases b (z ρ) <;> first | rfl | exact ih _
theorem own_get {ρ : En} {i : Nat} {ρ0 : En} {g : Bool × D → Fl} {f : List D → Rr} {k : Kt} (h : ∀ ds, finK (g (true, .lst ds)) k = f ds) (h2 : ∀ x, (∀ ds, x ≠ (true, .lst ds)) → g x = .fail) : finK (onR (getO ρ i) ρ0 g) k = ownK ρ i f := by
  unfold getO ownK
  have no : ∀ x, (∀ ds, x ≠ (true, .lst ds)) → finK (onR (.ok x) ρ0 g) k = .fail := fun x hx => by
    show finK (g x) k = .fail
    rw [h2 x hx]
    rfl
  cases ρ[i]? with
  | none => rfl
  | some o =>
    cases o with
    | none => rfl
    | some x =>
      obtain ⟨b, d⟩ := x
      cases b with
      | false => exact no _ fun ds e => by cases e
      | true =>
        cases d with
        | lst ds => exact h ds
        | _ => exact no _ fun ds e => by cases e
theorem no_own {g : List D → Fl} (x : Bool × D) (hx : ∀ ds, x ≠ (true, .lst ds)) : (match x with | (true, .lst ds) => g ds | _ => Fl.fail) = .fail := by
  obtain ⟨b, d⟩ := x
  cases b with
  | false => rfl
  | true =>
    cases d with
    | lst ds => exact absurd rfl (hx ds)
    | _ => rfl
theorem get_get (ρ : En) (i : Nat) (ρ0 : En) (f : Bool × D → Fl) (k : Kt) : finK (onR (getO ρ i) ρ0 f) k = getK ρ i fun x => finK (f x) k := by
  unfold getO getK
  cases ρ[i]? with
  | none => rfl
  | some o => cases o <;> rfl
mutual
theorem exK_eq (T : Tb) (wf : Nat) : ∀ (s : Hf.St) (ρ : En) (k : Kt), finK (ex T wf s ρ) k = exK T wf s ρ k
  | .pass, _, _ => rfl
  | .brk, _, _ => rfl
  | .cnt, _, _ => rfl
  | .expr e, _, _ => fin_on _ _ _ _
  | .set i e, _, _ => fin_on _ _ _ _
  | .sets t e, ρ, k => by
    rw [ex, exK, fin_on]
    congr 1
    funext x
    rw [bindK_eq]
    cases bindT t x.2 (fz (us e) ρ) <;> rfl
  | .aug i o e, ρ, k => by
    rw [ex, exK, get_get]
    congr 1
    funext a
    rw [fin_on]
    congr 1
    funext b
    exact fin_on _ _ _ _
  | .app i e, ρ, k => by
    rw [ex, exK]
    refine own_get (fun ds => ?_) fun x hx => no_own x hx
    show finK (onR _ _ _) k = _
    rw [fin_on]
    congr 1
    funext b
    split <;> rfl
  | .ext i e, ρ, k => by
    rw [ex, exK]
    refine own_get (fun ds => ?_) fun x hx => no_own x hx
    show finK (onR _ _ _) k = _
    rw [fin_on]
    congr 1
    funext b
    cases b.2 <;> first | rfl | (simp only []; split <;> rfl)
  | .pop t i, ρ, k => by
    rw [ex, exK]
    refine own_get (fun ds => ?_) fun x hx => no_own x hx
    simp only []
    cases ds[ds.length - 1]? with
    | none => rfl
    | some d =>
      simp only []
      rw [bindK_eq]
      cases bindT t d (ρ.set i (some (true, .lst ds.dropLast))) <;> rfl
  | .put i q e, ρ, k => by
    rw [ex, exK]
    refine own_get (fun ds => ?_) fun x hx => no_own x hx
    show finK (onR _ _ _) k = _
    rw [fin_on]
    congr 1
    funext b
    rw [fin_on]
    congr 1
    funext j
    cases j.2 <;> first | rfl | (simp only []; cases ixN ds.length _ <;> rfl)
  | .ret e, ρ, k => by
    have h : ∀ r : Res (Bool × D), ∀ ρ0, finK (onR r ρ0 fun x => .rt x.1 x.2) k = r := fun r ρ0 => by
      cases r <;> rfl
    cases e with
    | var i =>
      show finK (onR (getO ρ i) ρ fun x => .rt x.1 x.2) k = getK ρ i .ok
      rw [get_get]
      rfl
    | _ => rw [ex, exK] <;> first | exact h _ _ | (intro i z; cases z)
  | .retN, _, _ => rfl
  | .ifs c a b, ρ, k => by
    rw [ex, exK, fin_on]
    congr 1
    funext t
    cases t with
    | false =>
      rw [if_neg Bool.false_ne_true, if_neg Bool.false_ne_true]
      exact exsK_eq T wf b _ k
    | true =>
      rw [if_pos rfl, if_pos rfl]
      exact exsK_eq T wf a _ k
  | .whl c b, ρ, k => by
    rw [ex, exK]
    exact fin_wh (fun ρ k => exsK_eq T wf b ρ k) _ _ _
  | .for_ t it b, ρ, k => by
    rw [ex, exK, fin_on]
    congr 1
    funext ds
    exact fin_for (fun ρ k => exsK_eq T wf b ρ k) _ _ _
  | .raise x, _, _ => rfl
  | .tryW b cl i f, _, _ => by rw [exK]
  | .mtc i cs, ρ, k => by
    rw [ex, exK, fin_on]
    congr 1
    funext x
    exact excsK_eq T wf cs _ _ _
theorem exsK_eq (T : Tb) (wf : Nat) : ∀ (ss : Sts) (ρ : En) (k : Kt), finK (exs T wf ss ρ) k = exsK T wf ss ρ k
  | .nil, _, _ => rfl
  | .cons s ss, ρ, k => by
    rw [exs, exsK, fin_seq, exK_eq T wf s]
    congr 2
    funext ρ'
    exact exsK_eq T wf ss ρ' k
theorem excsK_eq (T : Tb) (wf : Nat) : ∀ (cs : Css) (d : D) (ρ : En) (k : Kt), finK (excs T wf cs d ρ) k = excsK T wf cs d ρ k
  | .nil, _, _, _ => rfl
  | .cons p b r, d, ρ, k => by
    rw [excs, excsK, paK_eq]
    cases paD p d with
    | ok o =>
      cases o with
      | none => exact excsK_eq T wf r d ρ k
      | some bs => exact exsK_eq T wf b _ k
    | exc c => rfl
    | fail => rfl
end
def entL (m : Nat) (ds : List D) : En := (ds.map fun d => some (false, d)) ++ List.replicate (m - ds.length) none
/-- a def's value by its code -/
theorem k_run {pg : Pg} {n : Nat} {f : Str} {m k : Nat} {c : Sts} {ds : List D} (h : ∃ N : List Str, N.length = m ∧ pg.fs.lookup f = some ⟨N, k, c, false⟩) : callN pg (n + 1) f ds = exsK (pg.tb n) pg.wf c (entL m ds) K0 := by
  obtain ⟨N, hN, h⟩ := h
  rw [cN h, runD, endR_fin, exsK_eq]
  rw [← hN]
  rfl
/-! ### helpers of the printed code -/
def glR (pg : Pg) (x : Str) : Rr := match pg.mo.gl x with
  | some d => okF d
  | none => .fail
theorem gl_R {pg : Pg} {x : Str} {d : D} (h : pg.mo.gl x = some d) : glR pg x = .ok (false, d) := by unfold glR; rw [h]; rfl
def tup2 (d : D) (g : D → D → Rr) : Rr := match d with
  | .tup ds => (match ds with
    | a :: ds => (match ds with
      | b :: ds => (match ds with
        | [] => g a b
        | _ :: _ => .fail)
      | [] => .fail)
    | [] => .fail)
  | _ => .fail
def tup3 (d : D) (g : D → D → D → Rr) : Rr := match d with
  | .tup ds => (match ds with
    | a :: ds => (match ds with
      | b :: ds => (match ds with
        | c :: ds => (match ds with
          | [] => g a b c
          | _ :: _ => .fail)
        | [] => .fail)
      | [] => .fail)
    | [] => .fail)
  | _ => .fail
def mtG (d : D) (k : Nat) (h : List D → Rr) (m : Rr) : Rr := match d with
  | .tup ds => if ds.length = k then h ds else m
  | .int _ => m
  | .str _ => m
  | _ => .fail
def eqM (d : D) (x : Str) (h m : Rr) : Rr := match D.eqD d (.str x) with
  | .ok true => h
  | .ok false => m
  | _ => .fail
def mtL (d : D) (x : Str) (h m : Rr) : Rr := eqM d x h m
def mt2 (d : D) (x : Str) (h : D → Rr) (m : Rr) : Rr := mtG d 2 (fun ds => match ds with
  | a :: ds => eqM a x (match ds with
    | v :: ds => (match ds with
      | [] => h v
      | _ :: _ => .fail)
    | [] => .fail) m
  | [] => .fail) m
def mt3 (d : D) (x : Str) (h : D → D → Rr) (m : Rr) : Rr := mtG d 3 (fun ds => match ds with
  | a :: ds => eqM a x (match ds with
    | v :: ds => (match ds with
      | w :: ds => (match ds with
        | [] => h v w
        | _ :: _ => .fail)
      | [] => .fail)
    | [] => .fail) m
  | [] => .fail) m
def mt4 (d : D) (x : Str) (h : D → D → D → Rr) (m : Rr) : Rr := mtG d 4 (fun ds => match ds with
  | a :: ds => eqM a x (match ds with
    | v :: ds => (match ds with
      | w :: ds => (match ds with
        | u :: ds => (match ds with
          | [] => h v w u
          | _ :: _ => .fail)
        | [] => .fail)
      | [] => .fail)
    | [] => .fail) m
  | [] => .fail) m
def mtA3 (d : D) (h : D → D → D → Rr) (m : Rr) : Rr := mtG d 3 (fun ds => match ds with
  | a :: ds => (match ds with
    | v :: ds => (match ds with
      | w :: ds => (match ds with
        | [] => h a v w
        | _ :: _ => .fail)
      | [] => .fail)
    | [] => .fail)
  | [] => .fail) m

end Kv

namespace Kv
open PySem PySem.Spec PyProof.Rows L2 Hf
set_option autoImplicit false
/-! ### equality -/
theorem pdep : ∀ (m : Nat) (d : D), wt d < m → Tr d → d.toP.depth ≤ dep d
  | 0, d, h, _ => by omega
  | m + 1, d, h, t => by
    rcases leaf_of t with hl | ⟨xs, rfl, hx⟩
    · cases hl <;> simp [D.toP, PyData.depth, dep]
    · have e2 : wt (.tup xs) = 1 + wts xs := by simp [wt]
      have key : ∀ ys : List D, (∀ y ∈ ys, y ∈ xs) → PyData.depthAll (D.toPs ys) ≤ deps ys := by
        intro ys
        induction ys with
        | nil => intro _; simp [D.toPs, PyData.depthAll, deps]
        | cons y r ih =>
          intro hm
          have h1 := pdep m y (by have := wts_mem (hm y (by simp)); omega) (hx y (hm y (by simp)))
          have h2 := ih fun z hz => hm z (by simp [hz])
          simp only [D.toPs, PyData.depthAll, deps]
          omega
      have := key xs fun _ h => h
      simp only [D.toP, PyData.depth, dep]
      omega
theorem pdeps (xs : List D) (h : ∀ x ∈ xs, Tr x) : PyData.depthAll (D.toPs xs) ≤ deps xs := by
  have := pdep (wt (.tup xs) + 1) (.tup xs) (by omega) (.tup h)
  simp only [D.toP, PyData.depth, dep] at this
  omega
mutual
theorem eqv_refl : ∀ (d : D), PyData.eqv d.toP d.toP = true
  | .non => by simp [D.toP, PyData.eqv]
  | .bl _ => by simp [D.toP, PyData.eqv]
  | .int _ => by simp [D.toP, PyData.eqv]
  | .str _ => by simp [D.toP, PyData.eqv]
  | .tup xs => by simpa [D.toP, PyData.eqv] using eqvs_refl xs
  | .lst xs => by simpa [D.toP, PyData.eqv] using eqvs_refl xs
  | .fn _ => by simp [D.toP, PyData.eqv]
  | .exc _ => by simp [D.toP, PyData.eqv]
  | .dct _ _ => by simp [D.toP, PyData.eqv]
theorem eqvs_refl : ∀ (xs : List D), PyData.eqvAll (D.toPs xs) (D.toPs xs) = true
  | [] => by simp [D.toPs, PyData.eqvAll]
  | x :: r => by simp [D.toPs, PyData.eqvAll, eqv_refl x, eqvs_refl r]
end
theorem eqD_of {a b : D} (h1 : a.pl = true) (h2 : b.pl = true) (h3 : a.toP.canLay0 = true) (h4 : b.toP.canLay0 = true) (h5 : min a.toP.depth b.toP.depth ≤ 150) : D.eqD a b = .ok (PyData.eqv a.toP b.toP) := if_pos ⟨h1, h2, h3, h4, h5⟩
theorem eq_self {d : D} (h : Tr d) (hd : dep d ≤ 140) : D.eqD d d = .ok true := by
  obtain ⟨h1, h2⟩ := tr_pl h
  have h3 := pdep (wt d + 1) d (by omega) h
  rw [eqD_of h1 h1 h2 h2 (by omega), eqv_refl]
theorem lst_pl {xs : List D} (h : ∀ d ∈ xs, Tr d) : (D.lst xs).pl = true ∧ (D.lst xs).toP.canLay0 = true ∧ (D.lst xs).toP.depth ≤ deps xs + 1 := by
  obtain ⟨h1, h2⟩ := trs_pl h
  have h3 := pdeps xs h
  refine ⟨by simpa [D.pl] using h1, by simpa [D.toP, PyData.canLay0] using h2, by simp only [D.toP, PyData.depth]; omega⟩
theorem eq_selfL {xs : List D} (h : ∀ d ∈ xs, Tr d) (hd : deps xs ≤ 140) : D.eqD (.lst xs) (.lst xs) = .ok true := by
  obtain ⟨h1, h2, h3⟩ := lst_pl h
  rw [eqD_of h1 h1 h2 h2 (by omega), eqv_refl]
/-- what has no truth values in it -/
inductive Sm : D → Prop
  | int (i : Int) : Sm (.int i)
  | str (x : Str) (h : PyData.strOk x = true) : Sm (.str x)
  | tup {xs : List D} (h : ∀ d ∈ xs, Sm d) : Sm (.tup xs)
theorem Sm.tr : ∀ {d : D}, Sm d → Tr d
  | _, .int i => tr_int i
  | _, .str x h => .leaf (.str x h)
  | _, .tup h => .tup fun d hd => (h d hd).tr
theorem eqv_sm : ∀ (m : Nat) (d e : D), wt d < m → Sm d → Sm e → PyData.eqv d.toP e.toP = true → d = e
  | 0, d, e, h, _, _, _ => by omega
  | m + 1, d, e, h, hd, he, q => by
    cases hd with
    | int i => cases he <;> simp [D.toP, PyData.eqv] at q ⊢ <;> exact q
    | str x _ => cases he <;> simp [D.toP, PyData.eqv] at q ⊢ <;> exact q
    | @tup xs hx =>
      cases he with
      | int _ => simp [D.toP, PyData.eqv] at q
      | str _ _ => simp [D.toP, PyData.eqv] at q
      | @tup ys hy =>
        have e2 : wt (.tup xs) = 1 + wts xs := by simp [wt]
        have key : ∀ (as bs : List D), wts as < m → (∀ a ∈ as, Sm a) → (∀ b ∈ bs, Sm b) → PyData.eqvAll (D.toPs as) (D.toPs bs) = true → as = bs := by
          intro as
          induction as with
          | nil => intro bs _ _ _ q; cases bs <;> simp [D.toPs, PyData.eqvAll] at q ⊢
          | cons a r ih =>
            intro bs hw ha hb q
            cases bs with
            | nil => simp [D.toPs, PyData.eqvAll] at q
            | cons b r2 =>
              simp only [wts] at hw
              simp only [D.toPs, PyData.eqvAll, Bool.and_eq_true] at q
              rw [eqv_sm m a b (by omega) (ha a (by simp)) (hb b (by simp)) q.1, ih r2 (by have := wt_pos a; omega) (fun x hx => ha x (by simp [hx])) (fun x hx => hb x (by simp [hx])) q.2]
        rw [key xs ys (by omega) hx hy (by simpa [D.toP, PyData.eqv] using q)]
theorem eqv_smb {d e : D} (hd : Sm d) (he : Sm e) [Decidable (d = e)] : PyData.eqv d.toP e.toP = decide (d = e) := by
  by_cases h : d = e
  · subst h; simp [eqv_refl]
  · rw [decide_eq_false h]
    cases q : PyData.eqv d.toP e.toP with
    | false => rfl
    | true => exact absurd (eqv_sm _ d e (Nat.lt_succ_self _) hd he q) h
theorem eq_sm {d e : D} (hd : Sm d) (he : Sm e) (h : dep d ≤ 140) [Decidable (d = e)] : D.eqD d e = .ok (decide (d = e)) := by
  obtain ⟨h1, h2⟩ := tr_pl hd.tr
  obtain ⟨k1, k2⟩ := tr_pl he.tr
  have h3 := pdep (wt d + 1) d (by omega) hd.tr
  rw [eqD_of h1 k1 h2 k2 (by omega), eqv_smb hd he]
theorem eq_smL {xs ys : List D} (hx : ∀ d ∈ xs, Sm d) (hy : ∀ d ∈ ys, Sm d) (h : deps xs ≤ 140) [Decidable (xs = ys)] : D.eqD (.lst xs) (.lst ys) = .ok (decide (xs = ys)) := by
  obtain ⟨h1, h2, h3⟩ := lst_pl fun d hd => (hx d hd).tr
  obtain ⟨k1, k2, k3⟩ := lst_pl fun d hd => (hy d hd).tr
  rw [eqD_of h1 k1 h2 k2 (by omega)]
  congr 1
  have e1 : PyData.eqv (D.toP (.lst xs)) (D.toP (.lst ys)) = PyData.eqv (D.toP (.tup xs)) (D.toP (.tup ys)) := by simp [PyData.eqv, D.toP]
  rw [e1]
  by_cases h : xs = ys
  · subst h; simp [eqv_refl]
  · rw [decide_eq_false h]
    cases q : PyData.eqv (D.toP (.tup xs)) (D.toP (.tup ys)) with
    | false => rfl
    | true => exact absurd (by simpa using eqv_sm _ _ _ (Nat.lt_succ_self _) (.tup hx) (.tup hy) q) h
/-! ### values -/
inductive Val where
  | int (i : Int) | tup (xs : List Val)
instance : Inhabited Val := ⟨.int 0⟩
mutual
def Val.d : Val → D
  | .int i => .int i
  | .tup xs => .tup (Val.ds xs)
def Val.ds : List Val → List D
  | [] => []
  | x :: r => x.d :: Val.ds r
end
theorem ds_map (xs : List Val) : Val.ds xs = xs.map Val.d := by
  induction xs with
  | nil => rfl
  | cons x r ih => rw [Val.ds, ih]; rfl
theorem ds_len (xs : List Val) : (Val.ds xs).length = xs.length := by rw [ds_map, List.length_map]
theorem ds_app (xs ys : List Val) : Val.ds (xs ++ ys) = Val.ds xs ++ Val.ds ys := by simp [ds_map]
mutual
def Val.beq : Val → Val → Bool
  | .int i, .int j => decide (i = j)
  | .tup xs, .tup ys => Val.beqs xs ys
  | .int _, .tup _ => false
  | .tup _, .int _ => false
def Val.beqs : List Val → List Val → Bool
  | [], [] => true
  | x :: r, y :: s => x.beq y && Val.beqs r s
  | [], _ :: _ => false
  | _ :: _, [] => false
end
mutual
theorem Val.beq_ok : ∀ (u v : Val), u.beq v = true ↔ u = v
  | .int i, .int j => by simp [Val.beq]
  | .tup xs, .tup ys => by simp [Val.beq, Val.beqs_ok xs ys]
  | .int _, .tup _ => by simp [Val.beq]
  | .tup _, .int _ => by simp [Val.beq]
theorem Val.beqs_ok : ∀ (u v : List Val), Val.beqs u v = true ↔ u = v
  | [], [] => by simp [Val.beqs]
  | x :: r, y :: s => by simp [Val.beqs, Val.beq_ok x y, Val.beqs_ok r s]
  | [], _ :: _ => by simp [Val.beqs]
  | _ :: _, [] => by simp [Val.beqs]
end
instance : DecidableEq Val := fun u v => decidable_of_iff _ (Val.beq_ok u v)
mutual
theorem d_inj : ∀ (u v : Val), u.d = v.d → u = v
  | .int i, .int j, h => by simpa [Val.d] using h
  | .tup xs, .tup ys, h => by simp only [Val.d, D.tup.injEq] at h; rw [ds_inj xs ys h]
  | .int _, .tup _, h => by simp [Val.d] at h
  | .tup _, .int _, h => by simp [Val.d] at h
theorem ds_inj : ∀ (u v : List Val), Val.ds u = Val.ds v → u = v
  | [], [], _ => rfl
  | x :: r, y :: s, h => by simp only [Val.ds, List.cons.injEq] at h; rw [d_inj x y h.1, ds_inj r s h.2]
  | [], _ :: _, h => by simp [Val.ds] at h
  | _ :: _, [], h => by simp [Val.ds] at h
end
mutual
def Val.ok : Val → Bool
  | .int i => decide (-1000000000000000000 < i) && decide (i < 1000000000000000000)
  | .tup xs => Val.oks xs
def Val.oks : List Val → Bool
  | [] => true
  | x :: r => x.ok && Val.oks r
end
mutual
def Val.wt : Val → Nat
  | .int _ => 1
  | .tup xs => 1 + Val.wts xs
def Val.wts : List Val → Nat
  | [] => 0
  | x :: r => x.wt + Val.wts r
end
mutual
theorem v_sm : ∀ (v : Val), Sm v.d
  | .int i => .int i
  | .tup xs => .tup (vs_sm xs)
theorem vs_sm : ∀ (xs : List Val), ∀ d ∈ Val.ds xs, Sm d
  | [], d, h => by cases h
  | x :: r, d, h => by
    rcases List.mem_cons.mp h with e | h
    · exact e ▸ v_sm x
    · exact vs_sm r d h
end
theorem v_tr (v : Val) : Tr v.d := (v_sm v).tr
theorem vs_tr (xs : List Val) : ∀ d ∈ Val.ds xs, Tr d := fun d h => (vs_sm xs d h).tr
mutual
theorem v_gd : ∀ (v : Val), gd v.d = v.ok
  | .int i => rfl
  | .tup xs => vs_gd xs
theorem vs_gd : ∀ (xs : List Val), gds (Val.ds xs) = Val.oks xs
  | [] => rfl
  | x :: r => by rw [Val.ds, gds, v_gd x, vs_gd r]; rfl
end
mutual
theorem v_wt : ∀ (v : Val), wt v.d = v.wt
  | .int i => rfl
  | .tup xs => by rw [Val.d, wt, vs_wt xs]; rfl
theorem vs_wt : ∀ (xs : List Val), wts (Val.ds xs) = Val.wts xs
  | [] => rfl
  | x :: r => by rw [Val.ds, wts, v_wt x, vs_wt r]; rfl
end
theorem Val.wt_pos (v : Val) : 1 ≤ v.wt := by rw [← v_wt]; exact Kv.wt_pos _
theorem Val.wts_len (xs : List Val) : xs.length ≤ Val.wts xs := by rw [← vs_wt, ← ds_len]; exact Kv.wts_len _
/-- what the document calls a value -/
def Val.isV (v : Val) : Bool := v.ok && decide (v.wt ≤ 50)
theorem isV_ok {v : Val} (h : v.isV = true) : v.ok = true ∧ v.wt ≤ 50 := by simpa [Val.isV] using h
theorem oks_mem {xs : List Val} (h : Val.oks xs = true) {x : Val} (hx : x ∈ xs) : x.ok = true := by
  induction xs with
  | nil => cases hx
  | cons y r ih =>
    simp only [Val.oks, Bool.and_eq_true] at h
    rcases List.mem_cons.mp hx with e | hx
    · exact e ▸ h.1
    · exact ih h.2 hx
theorem oks_of {xs : List Val} (h : ∀ x ∈ xs, x.ok = true) : Val.oks xs = true := by
  induction xs with
  | nil => rfl
  | cons y r ih => simp only [Val.oks, Bool.and_eq_true]; exact ⟨h y (by simp), ih fun x hx => h x (by simp [hx])⟩
theorem Val.wts_mem {xs : List Val} {x : Val} (hx : x ∈ xs) : x.wt ≤ Val.wts xs := by
  induction xs with
  | nil => cases hx
  | cons y r ih =>
    simp only [Val.wts]
    rcases List.mem_cons.mp hx with e | hx
    · subst e; omega
    · have := ih hx; omega
theorem v_dep (v : Val) : dep v.d ≤ v.wt := by have := dep_wt v.d; rw [v_wt] at this; exact this
theorem eq_val (u v : Val) (h : u.wt ≤ 140) : D.eqD u.d v.d = .ok (decide (u = v)) := by
  by_cases e : u = v
  · subst e
    rw [eq_self (v_tr u) (by have := v_dep u; omega)]
    simp
  · have n : ¬ u.d = v.d := fun q => e (d_inj _ _ q)
    obtain ⟨h1, h2⟩ := tr_pl (v_tr u)
    obtain ⟨k1, k2⟩ := tr_pl (v_tr v)
    have h3 := pdep (Kv.wt u.d + 1) u.d (by omega) (v_tr u)
    have h4 := v_dep u
    rw [eqD_of h1 k1 h2 k2 (by omega), decide_eq_false e]
    congr 1
    cases q : PyData.eqv u.d.toP v.d.toP with
    | false => rfl
    | true => exact absurd (eqv_sm _ _ _ (Nat.lt_succ_self _) (v_sm u) (v_sm v) q) n
/-! ### the twelve operations -/
inductive Op where
  | plus | minus | times | over | less | down | first | rest | empty | same | join | list
  deriving DecidableEq
def Op.s : Op → Str
  | .plus => "plus" | .minus => "minus" | .times => "times" | .over => "over" | .less => "less" | .down => "down" | .first => "first" | .rest => "rest" | .empty => "empty" | .same => "same" | .join => "join" | .list => "list"
theorem Op.ok (o : Op) : PyData.strOk o.s = true := by cases o <;> decide +kernel
/-- how many values it takes -/
def Op.takes (o : Op) (n : Nat) : Bool := match o with
  | .down | .first | .rest | .empty => decide (n = 1)
  | .list => decide (n ≤ 8)
  | _ => decide (n = 2)
/-- a value, or a refusal's word -/
inductive An where
  | ok (v : Val) | no (w : Str)
def fit (v : Val) : An := if v.isV = true then .ok v else .no "TooGreat"
def Op.do (o : Op) (vs : List Val) : An := match o, vs with
  | .plus, [.int a, .int b] => fit (.int (a + b))
  | .minus, [.int a, .int b] => fit (.int (a - b))
  | .times, [.int a, .int b] => fit (.int (a * b))
  | .over, [.int a, .int b] => if b = 0 then .no "ByNought" else fit (.int (a.fdiv b))
  | .less, [.int a, .int b] => .ok (.int (if a < b then 1 else 0))
  | .plus, [_, _] => .no "NoNumber"
  | .minus, [_, _] => .no "NoNumber"
  | .times, [_, _] => .no "NoNumber"
  | .over, [_, _] => .no "NoNumber"
  | .less, [_, _] => .no "NoNumber"
  | .down, [.int a] => if a ≤ 0 then .no "NoDown" else .ok (.int (a - 1))
  | .down, [_] => .no "NoNumber"
  | .first, [.int _] => .no "NoList"
  | .first, [.tup []] => .no "NoFirst"
  | .first, [.tup (x :: _)] => .ok x
  | .rest, [.int _] => .no "NoList"
  | .rest, [.tup []] => .no "NoFirst"
  | .rest, [.tup (_ :: r)] => .ok (.tup r)
  | .empty, [.int _] => .no "NoList"
  | .empty, [.tup xs] => .ok (.int (if xs = [] then 1 else 0))
  | .same, [a, b] => .ok (.int (if a = b then 1 else 0))
  | .join, [_, .int _] => .no "NoList"
  | .join, [a, .tup xs] => fit (.tup (a :: xs))
  | .list, xs => fit (.tup xs)
  | _, _ => .no "other"
def An.run : An → Res (Bool × D)
  | .ok v => .ok (false, v.d)
  | .no w => .exc w
/-- how the laws tell it -/
def An.pr : An → D
  | .ok v => .tup [.bl true, v.d]
  | .no w => .tup [.bl false, .str w]

end Kv

namespace Kv
open PySem PySem.Spec PyProof.Rows L2 Hf
set_option autoImplicit false
/-! ### steps -/
section
variable {T : Tb} {wf : Nat} {ρ ρ' ρ1 : En} {R : Fl} {ss a b : Sts} {c : Te} {e : Ex} {i : Nat}
theorem g_t (h : evT T c ρ = .ok true) (h2 : (exs T wf a ρ).seq (exs T wf ss) = R) (hz : fz (usT c) ρ = ρ := by rfl) : exs T wf (.cons (.ifs c a b) ss) ρ = R := by
  rw [exs, ex, hz, h]; simpa [onR] using h2
theorem g_f (h : evT T c ρ = .ok false) (h2 : (exs T wf b ρ).seq (exs T wf ss) = R) (hz : fz (usT c) ρ = ρ := by rfl) : exs T wf (.cons (.ifs c a b) ss) ρ = R := by
  rw [exs, ex, hz, h]; simpa [onR] using h2
/-- an if without another way, not taken -/
theorem g_fn (h : evT T c ρ = .ok false) (h2 : exs T wf ss ρ = R) (hz : fz (usT c) ρ = ρ := by rfl) : exs T wf (.cons (.ifs c a .nil) ss) ρ = R := by
  rw [exs, ex, hz, h]; simpa [onR, exs, Fl.seq] using h2
theorem g_set {x : Bool × D} (ρ' : En) (h : ev T e ρ = .ok x) (h2 : exs T wf ss ρ' = R) (hs : ρ.set i (some x) = ρ' := by rfl) (hz : fz (us e) ρ = ρ := by rfl) : exs T wf (.cons (.set i e) ss) ρ = R := by
  rw [exs, ex, hz, h]; simp only [onR, Fl.seq]; rw [hs]; exact h2
theorem g_sx {x : Bool × D} (h : ev T e ρ = .ok x) (h2 : exs T wf ss (ρ.set i (some x)) = R) (hz : fz (us e) ρ = ρ := by rfl) : exs T wf (.cons (.set i e) ss) ρ = R := by
  rw [exs, ex, hz, h]; simp only [onR, Fl.seq]; exact h2
theorem g_st {s : Hf.St} (ρ' : En) (h : ex T wf s ρ = .nx ρ') (h2 : exs T wf ss ρ' = R) : exs T wf (.cons s ss) ρ = R := by
  rw [exs, h]; exact h2
theorem g_end {s : Hf.St} {b : Bool} {d : D} (h : ex T wf s ρ = .rt b d) : exs T wf (.cons s ss) ρ = .rt b d := by
  rw [exs, h]; rfl
theorem g_ret {x : Bool × D} (h : ev T e ρ = .ok x) (hv : ∀ i, e ≠ .var i := by intro i z; cases z) (hz : fz (us e) ρ = ρ := by rfl) : exs T wf (.cons (.ret e) ss) ρ = .rt x.1 x.2 := by
  rw [exs, ex, hz, h]
  · rfl
  · exact fun i z => hv i z
theorem g_exc {s : Hf.St} {w : Str} (h : ex T wf s ρ = .ex w ρ') : exs T wf (.cons s ss) ρ = .ex w ρ' := by
  rw [exs, h]; rfl
theorem g_for {t : Tg} {it : Is} {ds : List D} (ρ1 : En) (h : evi T it ρ = .ok ds) (h1 : forN t (exs T wf b) ds ρ = .nx ρ1) (h2 : exs T wf ss ρ1 = R) (hz : fz (usi it) ρ = ρ := by rfl) : exs T wf (.cons (.for_ t it b) ss) ρ = R := by
  rw [exs, ex, hz, h]; simp only [onR]; rw [h1]; exact h2
theorem g_forS {t : Tg} {it : Is} {ds : List D} (h : evi T it ρ = .ok ds) (h2 : (forN t (exs T wf b) ds ρ).seq (exs T wf ss) = R) (hz : fz (usi it) ρ = ρ := by rfl) : exs T wf (.cons (.for_ t it b) ss) ρ = R := by
  rw [exs, ex, hz, h]; exact h2
theorem s_nx {r : Fl} {K : En → Fl} (h : r = .nx ρ') (h2 : K ρ' = R) : r.seq K = R := by rw [h]; exact h2
theorem s_rt {r : Fl} {K : En → Fl} {b : Bool} {d : D} (h : r = .rt b d) : r.seq K = .rt b d := by rw [h]; rfl
theorem s_ex {r : Fl} {K : En → Fl} {w : Str} (h : r = .ex w ρ') : r.seq K = .ex w ρ' := by rw [h]; rfl
theorem f_nil {t : Tg} {k : En → Fl} : forN t k [] ρ = .nx ρ := rfl
theorem f_nx {t : Tg} {k : En → Fl} {d : D} {ds : List D} {ρ2 : En} (h : bindT t d ρ = .ok ρ1) (h1 : k ρ1 = .nx ρ2) (h2 : forN t k ds ρ2 = R) : forN t k (d :: ds) ρ = R := by
  rw [forN, h]; simp only []; rw [h1]; exact h2
theorem f_rt {t : Tg} {k : En → Fl} {d : D} {ds : List D} {b : Bool} {r : D} (h : bindT t d ρ = .ok ρ1) (h1 : k ρ1 = .rt b r) : forN t k (d :: ds) ρ = .rt b r := by
  rw [forN, h]; simp only []; rw [h1]
theorem f_ex {t : Tg} {k : En → Fl} {d : D} {ds : List D} {w : Str} (h : bindT t d ρ = .ok ρ1) (h1 : k ρ1 = .ex w ρ') : forN t k (d :: ds) ρ = .ex w ρ' := by
  rw [forN, h]; simp only []; rw [h1]
theorem c_run {pg : Pg} {n : Nat} {f : Str} {df : Df} {ds : List D} (ρ : En) (h : pg.fs.lookup f = some df) {r : Res (Bool × D)} (h2 : exs (pg.tb n) pg.wf df.code ρ = R) (h3 : endR R = r) (hρ : entE df.N (argsD df ds) = ρ := by rfl) : callN pg (n + 1) f ds = r := by
  rw [cN h, runD, hρ, h2, h3]
end
/-- a for loop by an invariant of what is left -/
theorem forN_inv {t : Tg} {b : En → Fl} (I : List D → En → Prop) (h : ∀ d ds ρ, I (d :: ds) ρ → ∃ ρ1 ρ2, bindT t d ρ = .ok ρ1 ∧ b ρ1 = .nx ρ2 ∧ I ds ρ2) : ∀ (ds : List D) (ρ : En), I ds ρ → ∃ ρ', forN t b ds ρ = .nx ρ' ∧ I [] ρ'
  | [], ρ, i => ⟨ρ, rfl, i⟩
  | d :: ds, ρ, i => by
    obtain ⟨ρ1, ρ2, e1, e2, i2⟩ := h d ds ρ i
    obtain ⟨ρ', e3, i3⟩ := forN_inv I h ds ρ2 i2
    exact ⟨ρ', f_nx e1 e2 e3, i3⟩
theorem rng0 (k : Nat) (h : k < 2 ^ 62) : rngD 0 (k : Int) = .ok ((List.range k).map fun (i : Nat) => D.int (i : Int)) := by
  unfold rngD
  have h2 : (k : Int) < 2 ^ 62 := by omega
  rw [if_pos ⟨by decide, by decide, by omega, h2⟩]
  congr 1
  have : ((k : Int) - 0).toNat = k := by omega
  rw [this]
  apply List.map_congr_left
  intro i _
  simp
theorem evi_rng1 {T : Tb} {hi : Ex} {ρ : En} {k : Int} {r : Res (List D)} (h : bor hi ρ (ev T hi ρ) = .ok (.int k)) (h2 : rngD 0 k = r) : evi T (.rng1 hi) ρ = r := by
  rw [evi, h, ← h2]; rfl
theorem evi_rng2 {T : Tb} {lo hi : Ex} {ρ : En} {j k : Int} {r : Res (List D)} (h1 : bor lo ρ (ev T lo ρ) = .ok (.int j)) (h : bor hi ρ (ev T hi ρ) = .ok (.int k)) (h2 : rngD j k = r) : evi T (.rng2 lo hi) ρ = r := by
  rw [evi, h1, h, ← h2]; rfl
/-- a comprehension, item by item -/
def cF (T : Tb) (t : Tg) (vs : List Nat) (c : Tes) (e : Ex) (ρ : En) (d : D) : Res (Option D) := noX ((bindT t d (wipeE ρ vs)).bind fun ρ' => (evc T c ρ').bind fun k =>
      if k = true then (ev T e ρ').bind fun y => .ok (some y.2) else .ok none)
theorem ev_comp {T : Tb} {t : Tg} {vs : List Nat} {it : Is} {c : Tes} {e : Ex} {ρ : En} {ds ys : List D} (h : evi T it ρ = .ok ds) (hz : ds.length ≤ sizeLine) (hc : compL (cF T t vs c e ρ) ds = .ok ys) : ev T (.comp t vs it c e) ρ = .ok (true, .lst ys) := by
  have e1 : ev T (.comp t vs it c e) ρ = ((evi T it ρ).bind fun ds => if ds.length ≤ sizeLine then (compL (cF T t vs c e ρ) ds).bind fun ys => .ok (true, .lst ys) else .fail) := by rw [ev]; rfl
  rw [e1, h]
  simp only [Res.bind]
  rw [if_pos hz, hc]
theorem comp_ex {f : D → Res (Option D)} {α : Type} {g : α → D} {P : α → Prop} : ∀ {ds : List D}, (∀ d ∈ ds, ∃ v : α, P v ∧ f d = .ok (some (g v))) → ∃ vs : List α, vs.length = ds.length ∧ (∀ v ∈ vs, P v) ∧ compL f ds = .ok (vs.map g)
  | [], _ => ⟨[], rfl, by simp, rfl⟩
  | d :: ds, h => by
    obtain ⟨v, h1, h2⟩ := h d (by simp)
    obtain ⟨vs, h3, h4, h5⟩ := comp_ex (ds := ds) fun x hx => h x (by simp [hx])
    exact ⟨v :: vs, by simp [h3], fun u hu => (List.mem_cons.mp hu).elim (fun e => e ▸ h1) (h4 u), by rw [compL, h2, h5]; rfl⟩

/-! ### match -/
theorem x_hit {T : Tb} {wf : Nat} {p : Pa} {b : Sts} {r : Css} {d : D} {ρ : En} {bs : List (Nat × D)} {R : Fl} (h : paD p d = .ok (some bs)) (h2 : exs T wf b (binds bs ρ) = R) : excs T wf (.cons p b r) d ρ = R := by
  rw [excs, h]; exact h2
theorem x_miss {T : Tb} {wf : Nat} {p : Pa} {b : Sts} {r : Css} {d : D} {ρ : En} {R : Fl} (h : paD p d = .ok none) (h2 : excs T wf r d ρ = R) : excs T wf (.cons p b r) d ρ = R := by
  rw [excs, h]; exact h2
theorem x_any {T : Tb} {wf : Nat} {b : Sts} {r : Css} {d : D} {ρ : En} {R : Fl} (h2 : exs T wf b ρ = R) : excs T wf (.cons .any b r) d ρ = R := by
  rw [excs]; exact h2
theorem p_2 {a v : D} {x : Str} {i : Nat} {t : Bool} (h : D.eqD a (.str x) = .ok t) : paD (.seq [.lit x, .nm i]) (.tup [a, v]) = .ok (if t = true then some [(i, v)] else none) := by
  cases t <;> simp [paD, ppD, h]
theorem p_3 {a v w : D} {x : Str} {i j : Nat} {t : Bool} (h : D.eqD a (.str x) = .ok t) : paD (.seq [.lit x, .nm i, .nm j]) (.tup [a, v, w]) = .ok (if t = true then some [(i, v), (j, w)] else none) := by
  cases t <;> simp [paD, ppD, h]
theorem p_4 {a v w u : D} {x : Str} {i j k : Nat} {t : Bool} (h : D.eqD a (.str x) = .ok t) : paD (.seq [.lit x, .nm i, .nm j, .nm k]) (.tup [a, v, w, u]) = .ok (if t = true then some [(i, v), (j, w), (k, u)] else none) := by
  cases t <;> simp [paD, ppD, h]
theorem p_n {ps : List Pp} {xs : List D} (h : xs.length ≠ ps.length) : paD (.seq ps) (.tup xs) = .ok none := by
  simp [paD, h]
theorem g_mtc {T : Tb} {wf : Nat} {i : Nat} {cs : Css} {ss : Sts} {ρ : En} {d : D} {R : Fl} {b : Bool} {r : D} (hv : ρ[i]? = some (some (false, d))) (h : excs T wf cs d ρ = R) (hR : R = .rt b r) : exs T wf (.cons (.mtc i cs) ss) ρ = R := by
  have e : getF ρ i = .ok (false, d) := by simp [getF, hv]
  rw [exs, ex, e]
  simp only [onR]
  rw [h, hR]
  rfl

/-- a dict comprehension, item by item -/
def dF (T : Tb) (t : Tg) (vs : List Nat) (c : Tes) (k e : Ex) (ρ : En) (d : D) : Res (Option D) := noX ((bindT t d (wipeE ρ vs)).bind fun ρ' => (evc T c ρ').bind fun b =>
      if b = true then (ev T k ρ').bind fun x => (ev T e ρ').bind fun y => .ok (some (.tup [x.2, y.2])) else .ok none)
theorem ev_dcomp {T : Tb} {t : Tg} {vs : List Nat} {it : Is} {c : Tes} {k e : Ex} {ρ : En} {ds ys es : List D} {zs : List Str} (h : evi T it ρ = .ok ds) (hz : ds.length ≤ sizeLine) (hc : compL (dF T t vs c k e ρ) ds = .ok ys) (hp : Hf.pairsOf ys = some (zs, es)) (nd : zs.Nodup) : ev T (.dcomp t vs it c k e) ρ = .ok (false, .dct zs es) := by
  have e1 : ev T (.dcomp t vs it c k e) ρ = ((evi T it ρ).bind fun ds => if ds.length ≤ sizeLine then (compL (dF T t vs c k e ρ) ds).bind fun ys => dctOf ys else .fail) := by rw [ev]; rfl
  rw [e1, h]
  simp only [Res.bind]
  rw [if_pos hz, hc]
  simp only [dctOf]
  rw [hp]
  simp only []
  rw [if_pos nd]
  rfl
theorem pairs_map {α : Type} (f : α → Str) (g : α → D) (xs : List α) : Hf.pairsOf (xs.map fun a => .tup [.str (f a), g a]) = some (xs.map f, xs.map g) := by
  induction xs with
  | nil => rfl
  | cons x r ih => simp [Hf.pairsOf, ih]
theorem te_bl {T : Tb} {e : Ex} {ρ : En} {b k : Bool} (h : ev T e ρ = .ok (b, .bl k)) (hv : ∀ i, e ≠ .var i := by intro i z; cases z) : evT T (.val e) ρ = .ok k := by
  rw [evT]
  have e1 : bor e ρ (ev T e ρ) = sndR (ev T e ρ) := by
    cases e with
    | var i => exact absurd rfl (hv i)
    | _ => rfl
  rw [e1, h]
  rfl
theorem te_or {T : Tb} {a b : Te} {ρ : En} {k l : Bool} (h : evT T a ρ = .ok k) (h2 : k = false → evT T b ρ = .ok l) : evT T (.or a b) ρ = .ok (k || l) := by
  rw [evT, h]
  cases k with
  | true => rfl
  | false => simp only [Res.bind]; exact h2 rfl
theorem te_and {T : Tb} {a b : Te} {ρ : En} {k l : Bool} (h : evT T a ρ = .ok k) (h2 : k = true → evT T b ρ = .ok l) : evT T (.and a b) ρ = .ok (k && l) := by
  rw [evT, h]
  cases k with
  | false => rfl
  | true => simp only [Res.bind]; exact h2 rfl
theorem te_not {T : Tb} {a : Te} {ρ : En} {k : Bool} (h : evT T a ρ = .ok k) : evT T (.not a) ρ = .ok (!k) := by
  rw [evT, h]; rfl

/-! ### calls and appends by steps -/
theorem a_app {T : Tb} {wf i : Nat} {e : Ex} {ρ ρ' : En} {ds : List D} {x : Bool × D} (h0 : ρ[i]? = some (some (true, .lst ds))) (h : ev T e ρ = .ok x) (hl : ds.length < sizeLine) (hs : ρ.set i (some (true, .lst (ds ++ [x.2]))) = ρ') (hz : fz (us e) ρ = ρ := by rfl) : ex T wf (.app i e) ρ = .nx ρ' := by
  have g : getO ρ i = .ok (true, .lst ds) := by simp [getO, h0]
  rw [ex, hz, g]
  simp only [onR]
  rw [h]
  simp only []
  rw [if_pos hl, hs]
theorem e_call {T : Tb} {f : Str} {es : Exs} {ρ : En} {xs : List D} {r : Res (Bool × D)} (h : evs T es ρ = .ok xs) (h2 : T.fn f xs = r) : ev T (.call f es) ρ = r := by
  rw [ev, h]; exact h2
theorem e_cons {T : Tb} {e : Ex} {es : Exs} {ρ : En} {b : Bool} {d : D} {xs : List D} (h : ev T e ρ = .ok (b, d)) (h2 : evs T es ρ = .ok xs) : evs T (.cons e es) ρ = .ok (d :: xs) := by
  rw [evs, h]
  simp only [Res.bind]
  rw [h2]
theorem e_nil {T : Tb} {ρ : En} : evs T .nil ρ = .ok [] := by rw [evs]
theorem e_var {T : Tb} {i : Nat} {ρ : En} {d : D} (h : ρ[i]? = some (some (false, d)) := by rfl) : ev T (.var i) ρ = .ok (false, d) := by
  rw [ev]; simp [getF, h]
theorem e_lit {T : Tb} {ρ : En} {d : D} : ev T (.lit d) ρ = .ok (false, d) := by rw [ev]; rfl
theorem e_tup {T : Tb} {es : Exs} {ρ : En} {xs : List D} (h : evs T es ρ = .ok xs) (hz : xs.length ≤ sizeLine) : ev T (.tup es) ρ = .ok (false, .tup xs) := by
  rw [ev, h]; simp only [Res.bind]; rw [if_pos hz]; rfl
/-- a one-statement body -/
theorem b_one {T : Tb} {wf : Nat} {s : Hf.St} {ρ ρ' : En} (h : ex T wf s ρ = .nx ρ') : exs T wf (.cons s .nil) ρ = .nx ρ' := by
  rw [exs, h]
  simp only [Fl.seq]
  rw [exs]

theorem c_runN {pg : Pg} {n : Nat} {f : Str} {m k : Nat} {c : Sts} {ds : List D} {R : Fl} (ρ : En) (h : ∃ N : List Str, N.length = m ∧ pg.fs.lookup f = some ⟨N, k, c, false⟩) {r : Res (Bool × D)} (h2 : exs (pg.tb n) pg.wf c ρ = R) (h3 : endR R = r) (hρ : entL m ds = ρ := by rfl) : callN pg (n + 1) f ds = r := by
  obtain ⟨N, hN, h⟩ := h
  refine c_run (df := ⟨N, k, c, false⟩) ρ h h2 h3 ?_
  rw [← hρ, ← hN]
  rfl

end Kv

namespace Kv
open PySem PySem.Spec PyProof.Rows L2 Hf
set_option autoImplicit false
/-! ### reckoning with the printed code -/
section
variable {α β : Type}
theorem bo (a : α) (f : α → Res β) : (Res.ok a).bind f = f a := (rfl)
theorem bex (c : Str) (f : α → Res β) : (Res.exc c).bind f = .exc c := (rfl)
end
theorem so (x : Bool × D) : sndR (.ok x) = .ok x.2 := (rfl)
theorem sex (c : Str) : sndR (.exc c) = .exc c := (rfl)
theorem obk (b : Bool) : okB (.ok b) = .ok (false, .bl b) := (rfl)
theorem ik (i : Int) : intR (.ok (.int i)) = .ok i := (rfl)
theorem okf (d : D) : okF d = .ok (false, d) := (rfl)
theorem tst (r : Res Bool) : (sndR (okB r)).bind D.tru = r := by cases r <;> rfl
theorem blk (b k : Bool) : blR (.ok (b, .bl k)) = .ok k := (rfl)
theorem blo (r : Res Bool) : blR (okB r) = r := by cases r <;> rfl
theorem nok {α : Type} (a : α) : noX (.ok a) = .ok a := (rfl)
theorem tru_bl (b : Bool) : D.tru (.bl b) = .ok b := (rfl)
theorem tru_int (i : Int) : D.tru (.int i) = .ok (i != 0) := (rfl)
theorem tru_tup (xs : List D) : D.tru (.tup xs) = .ok (!xs.isEmpty) := (rfl)
theorem tru_lst (xs : List D) : D.tru (.lst xs) = .ok (!xs.isEmpty) := (rfl)
theorem add_i (i j : Int) : opD .Add (.int i) (.int j) = .ok (false, .int (i + j)) := (rfl)
theorem sub_i (i j : Int) : opD .Sub (.int i) (.int j) = .ok (false, .int (i - j)) := (rfl)
theorem fd_i {i j : Int} (h1 : 0 < j) (h2 : j ≤ 1000000000000000000) : opD .FloorDiv (.int i) (.int j) = .ok (false, .int (i / j)) := by
  have h : j.natAbs.log2 < 9000 := by
    have h3 : j.natAbs ≤ 1000000000000000000 := by omega
    have h4 : j.natAbs < 2 ^ 60 := by omega
    have h5 : j.natAbs ≠ 0 := by omega
    have := (Nat.log2_lt h5).mpr h4
    omega
  simp only [opD]
  rw [if_pos ⟨h1, h⟩]
  rfl
theorem md_i {i j : Int} (h1 : 0 < j) : opD .Mod (.int i) (.int j) = .ok (false, .int (i % j)) := by
  simp only [opD]
  rw [if_pos h1]
  rfl
theorem ml_i {i j : Int} (h1 : -18446744073709551616 < j) (h2 : j < 18446744073709551616) : opD .Mult (.int i) (.int j) = .ok (false, .int (i * j)) := by
  simp only [opD]
  rw [if_pos (.inl ⟨h1, h2⟩)]
  rfl
theorem add_l {xs ys : List D} (h : xs.length + ys.length ≤ 1000000) : opD .Add (.lst xs) (.lst ys) = .ok (true, .lst (xs ++ ys)) := by
  simp only [opD]
  rw [if_pos (by rw [sizeLine_eq]; omega)]
theorem add_t {xs ys : List D} (h : xs.length + ys.length ≤ 1000000) : opD .Add (.tup xs) (.tup ys) = .ok (false, .tup (xs ++ ys)) := by
  simp only [opD]
  rw [if_pos (by rw [sizeLine_eq]; omega)]
  rfl
theorem add_s {x y : Str} (h : x.length + y.length ≤ 1000000) : opD .Add (.str x) (.str y) = .ok (false, .str (x ++ y)) := by
  simp only [opD]
  rw [if_pos (by rw [sizeLine_eq]; omega)]
  rfl
theorem neg_i (i : Int) : negD (.int i) = .ok (false, .int (-i)) := (rfl)
theorem len_t (xs : List D) : biD .len (.tup xs) = .ok (false, .int xs.length) := (rfl)
theorem len_l (xs : List D) : biD .len (.lst xs) = .ok (false, .int xs.length) := (rfl)
theorem len_s {z : Str} (h : z.length ≤ 1000000) : biD .len (.str z) = .ok (false, .int z.length) := by
  simp only [biD]
  rw [if_pos (by rw [sizeLine_eq]; omega)]
  rfl
theorem tpl_l (xs : List D) : biD .tuple (.lst xs) = .ok (false, .tup xs) := (rfl)
theorem tpl_t (xs : List D) : biD .tuple (.tup xs) = .ok (false, .tup xs) := (rfl)
theorem lst_l (xs : List D) : biD .list (.lst xs) = .ok (true, .lst xs) := (rfl)
theorem lst_t (xs : List D) : biD .list (.tup xs) = .ok (true, .lst xs) := (rfl)
theorem int_b (k : Bool) : biD .int (.bl k) = .ok (false, .int (if k then 1 else 0)) := (rfl)
theorem cm_eq (a b : D) : cmpD .Eq a b = D.eqD a b := by cases a <;> rfl
theorem cm_ne (a b : D) : cmpD .NotEq a b = (D.eqD a b).bind fun c => .ok (!c) := by
  have e : cmpD .NotEq a b = (match D.eqD a b with | .ok c => .ok (!c) | .exc c => .exc c | .fail => .fail) := by cases a <;> rfl
  rw [e]
  cases D.eqD a b <;> rfl
theorem cm_lt (i j : Int) : cmpD .Lt (.int i) (.int j) = .ok (decide (i < j)) := (rfl)
theorem cm_le (i j : Int) : cmpD .LtE (.int i) (.int j) = .ok (decide (i ≤ j)) := (rfl)
theorem cm_gt (i j : Int) : cmpD .Gt (.int i) (.int j) = .ok (decide (j < i)) := (rfl)
theorem cm_ge (i j : Int) : cmpD .GtE (.int i) (.int j) = .ok (decide (j ≤ i)) := (rfl)
theorem cm_in (a b : D) : cmpD .In a b = inD a b := by cases a <;> rfl
theorem cm_nin (a b : D) : cmpD .NotIn a b = (inD a b).bind fun c => .ok (!c) := by
  have e : cmpD .NotIn a b = (match inD a b with | .ok c => .ok (!c) | .exc c => .exc c | .fail => .fail) := by cases a <;> rfl
  rw [e]
  cases inD a b <;> rfl
theorem cm_is (a b : Bool) : cmpD .Is (.bl a) (.bl b) = .ok (decide (a = b)) := (rfl)
theorem cm_isn (a b : Bool) : cmpD .IsNot (.bl a) (.bl b) = .ok (!decide (a = b)) := (rfl)
theorem it_0 (a : D) (r : List D) : idxD (.tup (a :: r)) (.int 0) = .ok (false, a) := by simp [idxD, atI, ixN, okF]
theorem it_1 (a b : D) (r : List D) : idxD (.tup (a :: b :: r)) (.int 1) = .ok (false, b) := by
  have h : (1 : Int) < (r.length : Int) + 1 + 1 := by omega
  simp [idxD, atI, ixN, okF, h]
theorem it_2 (a b c : D) (r : List D) : idxD (.tup (a :: b :: c :: r)) (.int 2) = .ok (false, c) := by
  have h : (2 : Int) < (r.length : Int) + 1 + 1 + 1 := by omega
  simp [idxD, atI, ixN, okF, h]
theorem it_n {xs : List D} {k : Nat} (h : k < xs.length) : idxD (.tup xs) (.int k) = .ok (false, xs[k]) := by
  simp [idxD, atI_nat h, okF]
theorem il_n {xs : List D} {k : Nat} (h : k < xs.length) : idxD (.lst xs) (.int k) = .ok (false, xs[k]) := by
  simp [idxD, atI_nat h, okF]
theorem sl_1 (a : D) (r : List D) : slcD (.tup (a :: r)) (some 1) none = .ok (false, .tup r) := by
  have e : HT.sIx (a :: r).length 0 (some 1) = 1 := by
    have h : (1 : Int) ≤ (r.length : Int) + 1 := by omega
    simp [HT.sIx]
  have e2 : HT.sIx (a :: r).length (a :: r).length none = r.length + 1 := by simp [HT.sIx]
  simp only [slcD, Hf.cutD, e, e2, okF]
  simp
theorem tup2_e (a b : D) (g : D → D → Rr) : tup2 (.tup [a, b]) g = g a b := (rfl)
theorem tup3_e (a b c : D) (g : D → D → D → Rr) : tup3 (.tup [a, b, c]) g = g a b c := (rfl)
theorem iw_l (xs : List D) : itemsW (.lst xs) = .ok xs := (rfl)
theorem iw_t (xs : List D) : itemsW (.tup xs) = .ok xs := (rfl)
theorem id_l (xs : List D) : itemsD (.lst xs) = .ok xs := (rfl)
theorem id_t (xs : List D) : itemsD (.tup xs) = .ok xs := (rfl)
theorem isi_tt (xs : List D) : isiD (.tup xs) .tuple = .ok true := (rfl)
theorem isi_ti (i : Int) : isiD (.int i) .tuple = .ok false := (rfl)
theorem isi_bb (b : Bool) : isiD (.bl b) .bool = .ok true := (rfl)
theorem if_len {xs : List D} (h : xs.length ≤ 1000000) {α : Type} (a b : α) : (if xs.length ≤ sizeLine then a else b) = a := if_pos (by rw [sizeLine_eq]; omega)
theorem if_lt {xs : List D} (h : xs.length < 1000000) {α : Type} (a b : α) : (if xs.length < sizeLine then a else b) = a := if_pos (by rw [sizeLine_eq]; omega)
theorem ifT {α : Type} (a b : α) : (if true = true then a else b) = a := (rfl)
theorem ifF {α : Type} (a b : α) : (if false = true then a else b) = b := (rfl)
/-- a match's pattern by the tag -/
theorem eqM_t {d : D} {x : Str} {h m : Rr} {t : Bool} (e : D.eqD d (.str x) = .ok t) : eqM d x h m = if t = true then h else m := by unfold eqM; rw [e]; cases t <;> rfl
theorem mt2_2 (a v : D) (x : Str) (h : D → Rr) (m : Rr) : mt2 (.tup [a, v]) x h m = eqM a x (h v) m := (rfl)
theorem mt3_3 (a v w : D) (x : Str) (h : D → D → Rr) (m : Rr) : mt3 (.tup [a, v, w]) x h m = eqM a x (h v w) m := (rfl)
theorem mt4_4 (a v w u : D) (x : Str) (h : D → D → D → Rr) (m : Rr) : mt4 (.tup [a, v, w, u]) x h m = eqM a x (h v w u) m := (rfl)
theorem mtA3_3 (a v w : D) (h : D → D → D → Rr) (m : Rr) : mtA3 (.tup [a, v, w]) h m = h a v w := (rfl)
theorem mt2_n {xs : List D} (e : xs.length ≠ 2) (x : Str) (h : D → Rr) (m : Rr) : mt2 (.tup xs) x h m = m := if_neg e
theorem mt3_n {xs : List D} (e : xs.length ≠ 3) (x : Str) (h : D → D → Rr) (m : Rr) : mt3 (.tup xs) x h m = m := if_neg e
theorem mt4_n {xs : List D} (e : xs.length ≠ 4) (x : Str) (h : D → D → D → Rr) (m : Rr) : mt4 (.tup xs) x h m = m := if_neg e
theorem mtA3_n {xs : List D} (e : xs.length ≠ 3) (h : D → D → D → Rr) (m : Rr) : mtA3 (.tup xs) h m = m := if_neg e
/-- a loop that was gone through -/
theorem lp_of {T : Tb} {wf : Nat} {t : Tg} {b : Sts} {ds : List D} {ρ ρ' : En} (h : forN t (exs T wf b) ds ρ = .nx ρ') (kk : En → Rr) : forK t (exsK T wf b) ds ρ kk = kk ρ' := by
  have e := fin_for (t := t) (b := exs T wf b) (b' := exsK T wf b) (fun ρ k => exsK_eq T wf b ρ k) ds ρ ⟨kk, fun _ => .fail, fun _ => .fail⟩
  rw [h] at e
  exact e.symm
theorem tg_value_value : D.eqD (.str "value") (.str "value") = .ok true := by kernel_rfl
theorem tg_value_name : D.eqD (.str "value") (.str "name") = .ok false := by kernel_rfl
theorem tg_value_refuse : D.eqD (.str "value") (.str "refuse") = .ok false := by kernel_rfl
theorem tg_value_if : D.eqD (.str "value") (.str "if") = .ok false := by kernel_rfl
theorem tg_value_do : D.eqD (.str "value") (.str "do") = .ok false := by kernel_rfl
theorem tg_value_call : D.eqD (.str "value") (.str "call") = .ok false := by kernel_rfl
theorem tg_name_value : D.eqD (.str "name") (.str "value") = .ok false := by kernel_rfl
theorem tg_name_name : D.eqD (.str "name") (.str "name") = .ok true := by kernel_rfl
theorem tg_name_refuse : D.eqD (.str "name") (.str "refuse") = .ok false := by kernel_rfl
theorem tg_name_if : D.eqD (.str "name") (.str "if") = .ok false := by kernel_rfl
theorem tg_name_do : D.eqD (.str "name") (.str "do") = .ok false := by kernel_rfl
theorem tg_name_call : D.eqD (.str "name") (.str "call") = .ok false := by kernel_rfl
theorem tg_refuse_value : D.eqD (.str "refuse") (.str "value") = .ok false := by kernel_rfl
theorem tg_refuse_name : D.eqD (.str "refuse") (.str "name") = .ok false := by kernel_rfl
theorem tg_refuse_refuse : D.eqD (.str "refuse") (.str "refuse") = .ok true := by kernel_rfl
theorem tg_refuse_if : D.eqD (.str "refuse") (.str "if") = .ok false := by kernel_rfl
theorem tg_refuse_do : D.eqD (.str "refuse") (.str "do") = .ok false := by kernel_rfl
theorem tg_refuse_call : D.eqD (.str "refuse") (.str "call") = .ok false := by kernel_rfl
theorem tg_if_value : D.eqD (.str "if") (.str "value") = .ok false := by kernel_rfl
theorem tg_if_name : D.eqD (.str "if") (.str "name") = .ok false := by kernel_rfl
theorem tg_if_refuse : D.eqD (.str "if") (.str "refuse") = .ok false := by kernel_rfl
theorem tg_if_if : D.eqD (.str "if") (.str "if") = .ok true := by kernel_rfl
theorem tg_if_do : D.eqD (.str "if") (.str "do") = .ok false := by kernel_rfl
theorem tg_if_call : D.eqD (.str "if") (.str "call") = .ok false := by kernel_rfl
theorem tg_do_value : D.eqD (.str "do") (.str "value") = .ok false := by kernel_rfl
theorem tg_do_name : D.eqD (.str "do") (.str "name") = .ok false := by kernel_rfl
theorem tg_do_refuse : D.eqD (.str "do") (.str "refuse") = .ok false := by kernel_rfl
theorem tg_do_if : D.eqD (.str "do") (.str "if") = .ok false := by kernel_rfl
theorem tg_do_do : D.eqD (.str "do") (.str "do") = .ok true := by kernel_rfl
theorem tg_do_call : D.eqD (.str "do") (.str "call") = .ok false := by kernel_rfl
theorem tg_call_value : D.eqD (.str "call") (.str "value") = .ok false := by kernel_rfl
theorem tg_call_name : D.eqD (.str "call") (.str "name") = .ok false := by kernel_rfl
theorem tg_call_refuse : D.eqD (.str "call") (.str "refuse") = .ok false := by kernel_rfl
theorem tg_call_if : D.eqD (.str "call") (.str "if") = .ok false := by kernel_rfl
theorem tg_call_do : D.eqD (.str "call") (.str "do") = .ok false := by kernel_rfl
theorem tg_call_call : D.eqD (.str "call") (.str "call") = .ok true := by kernel_rfl

end Kv

namespace Kv
open PySem PySem.Spec PyProof.Rows L2 Hf
set_option autoImplicit false
def c_is_operation : Sts :=
    (.cons (.ret (.cmp .In (.var 0) (.gl "TAKEN")))
    .nil)
def f_is_operation : Df := ⟨["text"], 1, c_is_operation, false⟩
def c_takes : Sts :=
    (.cons (.sets (.tup [2, 3]) (.idx (.gl "TAKEN") (.var 0)))
    (.cons (.ret (.chn .LtE .LtE (.var 2) (.var 1) (.var 3)))
    .nil))
def f_takes : Df := ⟨["operation", "many", "fewest", "most"], 2, c_takes, false⟩
def c_is_name : Sts :=
    (.cons (.ifs (.or (.not (.val (.chn .LtE .LtE (.lit (.int 1)) (.bi .len (.var 0)) (.gl "MOST_SIGNS")))) (.val (.cmp .NotIn (.idx (.var 0) (.lit (.int 0))) (.gl "LETTERS")))) (.cons (.ret (.lit (.bl false)))
    .nil) .nil)
    (.cons (.ifs (.or (.val (.call "is_operation" (.cons (.var 0) .nil))) (.val (.cmp .In (.var 0) (.tup (.cons (.lit (.str "if")) (.cons (.lit (.str "refuse")) .nil)))))) (.cons (.ret (.lit (.bl false)))
    .nil) .nil)
    (.cons (.ret (.gen true (.one 1) [1] (.seq (.var 0)) (.or (.cmp .In (.var 1) (.gl "LETTERS")) (.cmp .In (.var 1) (.gl "FIGURES")))))
    .nil)))
def f_is_name : Df := ⟨["text", "sign"], 1, c_is_name, false⟩
def c_are_unlike : Sts :=
    (.cons (.ret (.cmp .Eq (.lenset (.var 0)) (.bi .len (.var 0))))
    .nil)
def f_are_unlike : Df := ⟨["names"], 1, c_are_unlike, false⟩
def c_is_body : Sts :=
    (.cons (.ifs (.or (.val (.cmp .Eq (.var 1) (.lit (.int 0)))) (.not (.val (.isi (.var 0) .tuple)))) (.cons (.ret (.lit (.bl false)))
    .nil) .nil)
    (.cons (.mtc 0 (.cons (.seq [(.lit "value"), (.nm 4)]) (.cons (.ret (.call "is_value" (.cons (.var 4) .nil)))
    .nil)
    (.cons (.seq [(.lit "name"), (.nm 5)]) (.cons (.ret (.cmp .In (.var 5) (.var 2)))
    .nil)
    (.cons (.seq [(.lit "refuse"), (.nm 6)]) (.cons (.ret (.cmp .In (.var 6) (.gl "WORDS")))
    .nil)
    (.cons (.seq [(.lit "if"), (.nm 7), (.nm 8), (.nm 9)]) (.cons (.ret (.call "are_bodies" (.cons (.tup (.cons (.var 7) (.cons (.var 8) (.cons (.var 9) .nil)))) (.cons (.bin .Sub (.var 1) (.lit (.int 1))) (.cons (.var 2) (.cons (.var 3) .nil))))))
    .nil)
    (.cons (.seq [(.lit "do"), (.nm 10), (.nm 11)]) (.cons (.ret (.and (.call "can_do" (.cons (.var 10) (.cons (.var 11) .nil))) (.call "are_bodies" (.cons (.var 11) (.cons (.bin .Sub (.var 1) (.lit (.int 1))) (.cons (.var 2) (.cons (.var 3) .nil)))))))
    .nil)
    (.cons (.seq [(.lit "call"), (.nm 5), (.nm 11)]) (.cons (.ret (.and (.call "can_call" (.cons (.var 5) (.cons (.var 11) (.cons (.var 3) .nil)))) (.call "are_bodies" (.cons (.var 11) (.cons (.bin .Sub (.var 1) (.lit (.int 1))) (.cons (.var 2) (.cons (.var 3) .nil)))))))
    .nil)
    (.cons .any (.cons (.ret (.lit (.bl false)))
    .nil)
    .nil))))))))
    .nil))
def f_is_body : Df := ⟨["expression", "depth", "parameters", "counts", "value", "name", "word", "test", "one", "other", "operation", "parts"], 4, c_is_body, false⟩
def c_are_bodies : Sts :=
    (.cons (.ret (.gen true (.one 4) [4] (.seq (.var 0)) (.callL "is_body" (.cons (.var 4) (.cons (.var 1) (.cons (.var 2) (.cons (.var 3) .nil)))))))
    .nil)
def f_are_bodies : Df := ⟨["expressions", "depth", "parameters", "counts", "part"], 4, c_are_bodies, false⟩
def c_can_do : Sts :=
    (.cons (.ifs (.or (.not (.val (.isi (.var 0) .str))) (.not (.val (.isi (.var 1) .tuple)))) (.cons (.ret (.lit (.bl false)))
    .nil) .nil)
    (.cons (.ret (.and (.call "is_operation" (.cons (.var 0) .nil)) (.call "takes" (.cons (.var 0) (.cons (.bi .len (.var 1)) .nil)))))
    .nil))
def f_can_do : Df := ⟨["operation", "parts"], 2, c_can_do, false⟩
def c_can_call : Sts :=
    (.cons (.ifs (.or (.not (.val (.isi (.var 0) .str))) (.not (.val (.isi (.var 1) .tuple)))) (.cons (.ret (.lit (.bl false)))
    .nil) .nil)
    (.cons (.ret (.and (.cmp .In (.var 0) (.var 2)) (.cmp .Eq (.idx (.var 2) (.var 0)) (.bi .len (.var 1)))))
    .nil))
def f_can_call : Df := ⟨["name", "parts", "counts"], 3, c_can_call, false⟩
def c_is_function : Sts :=
    (.cons (.sets (.tup [2, 3, 4]) (.var 0))
    (.cons (.ifs (.or (.not (.val (.call "is_name" (.cons (.var 2) .nil)))) (.val (.cmp .Gt (.bi .len (.var 3)) (.gl "MOST_PARAMETERS")))) (.cons (.ret (.lit (.bl false)))
    .nil) .nil)
    (.cons (.ifs (.or (.not (.val (.gen true (.one 5) [5] (.seq (.var 3)) (.callL "is_name" (.cons (.var 5) .nil))))) (.not (.val (.call "are_unlike" (.cons (.var 3) .nil))))) (.cons (.ret (.lit (.bl false)))
    .nil) .nil)
    (.cons (.ret (.call "is_body" (.cons (.var 4) (.cons (.gl "MOST_DEPTH") (.cons (.var 3) (.cons (.var 1) .nil))))))
    .nil))))
def f_is_function : Df := ⟨["function", "counts", "name", "parameters", "body", "text"], 2, c_is_function, false⟩
def c_is_good : Sts :=
    (.cons (.ifs (.or (.not (.val (.var 0))) (.not (.val (.call "are_unlike" (.cons (.comp (.one 5) [5] (.seq (.var 0)) .nil (.idx (.var 5) (.lit (.int 0)))) .nil))))) (.cons (.ret (.lit (.bl false)))
    .nil) .nil)
    (.cons (.set 1 (.dcomp (.tup [2, 3, 4]) [2, 3, 4] (.seq (.var 0)) .nil (.var 2) (.bi .len (.var 3))))
    (.cons (.ret (.gen true (.one 5) [5] (.seq (.var 0)) (.callL "is_function" (.cons (.var 5) (.cons (.var 1) .nil)))))
    .nil)))
def f_is_good : Df := ⟨["program", "counts", "name", "parameters", "_", "function"], 1, c_is_good, false⟩
structure HasP (pg : Pg) : Prop where
  l_is_operation : pg.fs.lookup ("is_operation" : Str) = some f_is_operation
  l_takes : pg.fs.lookup ("takes" : Str) = some f_takes
  l_is_name : pg.fs.lookup ("is_name" : Str) = some f_is_name
  l_are_unlike : pg.fs.lookup ("are_unlike" : Str) = some f_are_unlike
  l_is_body : pg.fs.lookup ("is_body" : Str) = some f_is_body
  l_are_bodies : pg.fs.lookup ("are_bodies" : Str) = some f_are_bodies
  l_can_do : pg.fs.lookup ("can_do" : Str) = some f_can_do
  l_can_call : pg.fs.lookup ("can_call" : Str) = some f_can_call
  l_is_function : pg.fs.lookup ("is_function" : Str) = some f_is_function
  l_is_good : pg.fs.lookup ("is_good" : Str) = some f_is_good
def TK : List Str := ["plus", "minus", "times", "over", "less", "down", "first", "rest", "empty", "same", "join", "list"]
def TV : List D := [(.tup [(.int (2)), (.int (2))]), (.tup [(.int (2)), (.int (2))]), (.tup [(.int (2)), (.int (2))]), (.tup [(.int (2)), (.int (2))]), (.tup [(.int (2)), (.int (2))]), (.tup [(.int (1)), (.int (1))]), (.tup [(.int (1)), (.int (1))]), (.tup [(.int (1)), (.int (1))]), (.tup [(.int (1)), (.int (1))]), (.tup [(.int (2)), (.int (2))]), (.tup [(.int (2)), (.int (2))]), (.tup [(.int (0)), (.int (8))])]
def WD6 : List Str := ["NoNumber", "NoList", "NoFirst", "NoDown", "ByNought", "TooGreat"]
def LET : Str := "abcdefghijklmnopqrstuvwxyz"
def FIG : Str := "0123456789"
structure HasQ (pg : Pg) : Prop extends HasP pg, HasV0 pg where
  g_T : pg.mo.gl "TAKEN" = some (.dct TK TV)
  g_W : pg.mo.gl "WORDS" = some (.tup (WD6.map .str))
  g_L : pg.mo.gl "LETTERS" = some (.str LET)
  g_F : pg.mo.gl "FIGURES" = some (.str FIG)
  g_S : pg.mo.gl "MOST_SIGNS" = some (.int 8)
  g_P : pg.mo.gl "MOST_PARAMETERS" = some (.int 6)
  g_D : pg.mo.gl "MOST_DEPTH" = some (.int 20)
/-! ### all, any -/
def gF (T : Tb) (t : Tg) (vs : List Nat) (e : Ex) (ρ : En) (d : D) : Res Bool := noX ((bindT t d (wipeE ρ vs)).bind fun ρ' => blR (ev T e ρ'))
theorem genL_all {f : D → Res Bool} {g : D → Bool} : ∀ {ds : List D}, (∀ d ∈ ds, f d = .ok (g d)) → genL true f ds = .ok (ds.all g)
  | [], _ => rfl
  | d :: ds, h => by
    rw [genL, h d (by simp)]
    have ih := genL_all (ds := ds) fun x hx => h x (by simp [hx])
    cases e : g d <;> simp [Res.bind, e, ih]
theorem genL_any {f : D → Res Bool} {g : D → Bool} : ∀ {ds : List D}, (∀ d ∈ ds, f d = .ok (g d)) → genL false f ds = .ok (ds.any g)
  | [], _ => rfl
  | d :: ds, h => by
    rw [genL, h d (by simp)]
    have ih := genL_any (ds := ds) fun x hx => h x (by simp [hx])
    cases e : g d <;> simp [Res.bind, e, ih]
theorem ev_all {T : Tb} {t : Tg} {vs : List Nat} {it : Is} {e : Ex} {ρ : En} {ds : List D} {g : D → Bool} (hk : T.gok = true) (h : evi T it ρ = .ok ds) (hg : ∀ d ∈ ds, gF T t vs e ρ d = .ok (g d)) : ev T (.gen true t vs it e) ρ = .ok (false, .bl (ds.all g)) := by
  have e1 : ev T (.gen true t vs it e) ρ = (if T.gok = true then (evi T it ρ).bind fun ds => okB (genL true (gF T t vs e ρ) ds) else .fail) := by rw [ev]; rfl
  rw [e1, if_pos hk, h]
  simp only [Res.bind]
  rw [genL_all hg]
  rfl
theorem ev_any {T : Tb} {t : Tg} {vs : List Nat} {it : Is} {e : Ex} {ρ : En} {ds : List D} {g : D → Bool} (hk : T.gok = true) (h : evi T it ρ = .ok ds) (hg : ∀ d ∈ ds, gF T t vs e ρ d = .ok (g d)) : ev T (.gen false t vs it e) ρ = .ok (false, .bl (ds.any g)) := by
  have e1 : ev T (.gen false t vs it e) ρ = (if T.gok = true then (evi T it ρ).bind fun ds => okB (genL false (gF T t vs e ρ) ds) else .fail) := by rw [ev]; rfl
  rw [e1, if_pos hk, h]
  simp only [Res.bind]
  rw [genL_any hg]
  rfl
/-! ### texts -/
def isS (d : D) (x : Str) : Bool := match d with
  | .str y => decide (y = x)
  | _ => false
theorem eqS {d : D} (h : Tr d) {x : Str} (hx : PyData.strOk x = true) : D.eqD d (.str x) = .ok (isS d x) := by
  rcases leaf_of h with hl | ⟨xs, rfl, hs⟩
  · cases hl with
    | str y hy => exact eq_str y x hy hx
    | non => simp [D.eqD, D.pl, D.toP, PyData.canLay0, PyData.depth, PyData.eqv, isS, hx]
    | bl b => simp [D.eqD, D.pl, D.toP, PyData.canLay0, PyData.depth, PyData.eqv, isS, hx]
    | int i => simp [D.eqD, D.pl, D.toP, PyData.canLay0, PyData.depth, PyData.eqv, isS, hx]
  · obtain ⟨h1, h2⟩ := tr_pl h
    have e : min (D.toP (.tup xs)).depth (D.toP (.str x)).depth ≤ 150 := by simp [D.toP, PyData.depth]
    rw [D.eqD, if_pos ⟨h1, rfl, h2, by simpa [D.toP, PyData.canLay0] using hx, e⟩]
    simp [D.toP, PyData.eqv, isS]
theorem pls_strs (zs : List Str) : D.pls (zs.map D.str) = true := by
  induction zs with
  | nil => rfl
  | cons z r ih => simp [D.pls, D.pl, ih]
theorem lay_strs (zs : List Str) (h : ∀ z ∈ zs, PyData.strOk z = true) : PyData.canLayAll0 (D.toPs (zs.map D.str)) = true := by
  induction zs with
  | nil => rfl
  | cons z r ih => simp [D.toPs, D.toP, PyData.canLayAll0, PyData.canLay0, h z (by simp), ih fun x hx => h x (by simp [hx])]
theorem dep_strs (zs : List Str) : PyData.depthAll (D.toPs (zs.map D.str)) = 0 := by
  induction zs with
  | nil => rfl
  | cons z r ih => simp [D.toPs, D.toP, PyData.depthAll, PyData.depth, ih]
theorem eqv_S {d : D} (h : Tr d) (x : Str) : PyData.eqv (.str x) d.toP = isS d x := by
  rcases leaf_of h with hl | ⟨xs, rfl, hs⟩
  · cases hl with
    | str y hy => simp [D.toP, PyData.eqv, isS, Bool.beq_eq_decide_eq, eq_comm]
    | non => simp [D.toP, PyData.eqv, isS]
    | bl b => simp [D.toP, PyData.eqv, isS]
    | int i => simp [D.toP, PyData.eqv, isS]
  · simp [D.toP, PyData.eqv, isS]
theorem inS_strs {d : D} (h : Tr d) {zs : List Str} (hz : ∀ z ∈ zs, PyData.strOk z = true) : inS d (zs.map D.str) = .ok (zs.any fun z => isS d z) := by
  obtain ⟨h1, h2⟩ := tr_pl h
  rw [inS, if_pos ⟨h1, pls_strs zs, h2, lay_strs zs hz, by rw [dep_strs]; simp⟩]
  congr 1
  clear hz
  induction zs with
  | nil => rfl
  | cons z r ih => simp only [List.map_cons, D.toPs, D.toP, List.any_cons, ih, eqv_S h]

end Kv

namespace Kv
open PySem PySem.Spec PyProof.Rows L2 Hf
set_option autoImplicit false
def opLk (o : Str) : Option D := lkD TK TV o
def isOp (o : Str) : Bool := (opLk o).isSome
theorem lkD_mem {α : Type} : ∀ (ks : List Str) (xs : List α) (z : Str) (d : α), lkD ks xs z = some d → d ∈ xs
  | k :: ks, x :: xs, z, d, h => by
    rw [lkD] at h
    by_cases e : k = z
    · rw [if_pos e] at h; cases h; exact List.mem_cons_self
    · rw [if_neg e] at h; exact List.mem_cons_of_mem _ (lkD_mem ks xs z d h)
  | [], _, _, _, h => by cases h
  | _ :: _, [], _, _, h => by cases h
theorem opLk_ok {o : Str} {d : D} (h : opLk o = some d) : ∃ a b : Int, d = .tup [.int a, .int b] := by
  have m := lkD_mem TK TV o d h
  simp only [TV, List.mem_cons, List.not_mem_nil, or_false] at m
  rcases m with e | e | e | e | e | e | e | e | e | e | e | e <;> exact ⟨_, _, e⟩
/-- the operation takes so many -/
def opB (o : Str) (k : Nat) : Bool := match opLk o with
  | some (.tup [.int a, .int b]) => decide (a ≤ (k : Int)) && decide ((k : Int) ≤ b)
  | _ => false
def inT (y : Str) (c : Nat) : Bool := !(Builtin.Str.occurrences y ⟨#[c]⟩ 0 y.length 1).isEmpty
def nameB (z : Str) : Bool := decide (1 ≤ z.length) && (decide (z.length ≤ 8) && (inT LET (z.cps.getD 0 0) && (!isOp z && (!decide (z = "if") && (!decide (z = "refuse") && z.cps.toList.all fun c => inT LET c || inT FIG c)))))
section
variable {pg : Pg} {n : Nat} (H : HasQ pg)
include H
theorem v_isop (z : Str) : callN pg (n + 1) "is_operation" [.str z] = .ok (false, .bl (isOp z)) := by
  rw [cN H.l_is_operation]
  simp [runD, argsD, entE, exs, ex, evT, ev, evs, evo, evc, evi, bor, getO, getF, sndR, intR, Res.bind, onR, Fl.seq, fz, usT, us, ub, uss, uso, usc, usi, isiD, okB, D.tru, negD, cmpD, opD, idxD, slcD, biD, okF, endR, setE, bindT, itemsD, tb_fn, tb_fl, tb_gok, itemsW, m1T, m1D, lensetD, blR, tb_gl, tb_ar, tb_ki, tb_sub, tb_hot, f_is_operation, c_is_operation, H.g_T, inD, isOp, opLk]
theorem v_takes {z : Str} (h : isOp z = true) (k : Nat) : callN pg (n + 1) "takes" [.str z, .int k] = .ok (false, .bl (opB z k)) := by
  rw [cN H.l_takes]
  obtain ⟨d, hd⟩ := Option.isSome_iff_exists.mp h
  obtain ⟨a, b, rfl⟩ := opLk_ok hd
  have hd' : lkD TK TV z = some (.tup [.int a, .int b]) := hd
  have e : opB z k = (decide (a ≤ (k : Int)) && decide ((k : Int) ≤ b)) := by unfold opB; rw [hd]
  rw [e]
  by_cases h1 : a ≤ (k : Int) <;> by_cases h2 : (k : Int) ≤ b <;> simp [runD, argsD, entE, exs, ex, evT, ev, evs, evo, evc, evi, bor, getO, getF, sndR, intR, Res.bind, onR, Fl.seq, fz, usT, us, ub, uss, uso, usc, usi, isiD, okB, D.tru, negD, cmpD, opD, idxD, slcD, biD, okF, endR, setE, bindT, itemsD, tb_fn, tb_fl, tb_gok, itemsW, m1T, m1D, lensetD, blR, tb_gl, tb_ar, tb_ki, tb_sub, tb_hot, f_takes, c_takes, H.g_T, hd', setEs, h1, h2]
theorem v_name {z : Str} (hz : PyData.strOk z = true) (hl : z.length ≤ 1000) : callN pg (n + 2) "is_name" [.str z] = .ok (false, .bl (nameB z)) := by
  rw [cN H.l_is_name]
  have hs : z.length ≤ sizeLine := by rw [sizeLine_eq]; omega
  have hop := v_isop (n := n) H z
  by_cases h1 : 1 ≤ z.length
  · have h1' : (1 : Int) ≤ (z.length : Int) := by omega
    by_cases h2 : z.length ≤ 8
    · have h2' : (z.length : Int) ≤ 8 := by omega
      have hc : atI z.cps.toList 0 = some (z.cps.getD 0 0) := by
        have h0 : 0 < z.cps.toList.length := by rw [Array.length_toList]; exact h1
        have h0' : 0 < z.cps.size := h1
        simp [atI, ixN, Array.getD, h0']
      have hg : (pg.tb (n + 1)).gok = true := tb_gok
      have hL : ∀ c, inD (.str ⟨#[c]⟩) (.str LET) = .ok (inT LET c) := fun c => rfl
      have hF : ∀ c, inD (.str ⟨#[c]⟩) (.str FIG) = .ok (inT FIG c) := fun c => rfl
      have hi : inD (.str z) (.tup [.str "if", .str "refuse"]) = .ok (decide (z = "if") || decide (z = "refuse")) := by
        have := inS_strs (d := .str z) (.leaf (.str z hz)) (zs := ["if", "refuse"]) (by decide +kernel)
        simpa [inD, isS] using this
      have hev : ev (pg.tb (n + 1)) (.gen true (.one 1) [1] (.seq (.var 0)) (.or (.cmp .In (.var 1) (.gl "LETTERS")) (.cmp .In (.var 1) (.gl "FIGURES")))) [some (false, .str z), none] = .ok (false, .bl ((z.cps.toList.map fun c => D.str ⟨#[c]⟩).all fun d => match d with | .str y => inT LET (y.cps.getD 0 0) || inT FIG (y.cps.getD 0 0) | _ => false)) := by
        refine ev_all hg ?_ fun d hd => ?_
        · simp [runD, argsD, entE, exs, ex, evT, ev, evs, evo, evc, evi, bor, getO, getF, sndR, intR, Res.bind, onR, Fl.seq, fz, usT, us, ub, uss, uso, usc, usi, isiD, okB, D.tru, negD, cmpD, opD, idxD, slcD, biD, okF, endR, setE, bindT, itemsD, tb_fn, tb_fl, tb_gok, itemsW, m1T, m1D, lensetD, blR, tb_gl, tb_ar, tb_ki, tb_sub, tb_hot, hs]
        · obtain ⟨c, hc, rfl⟩ := List.mem_map.mp hd
          cases e : inT LET c <;> simp [gF, runD, argsD, entE, exs, ex, evT, ev, evs, evo, evc, evi, bor, getO, getF, sndR, intR, Res.bind, onR, Fl.seq, fz, usT, us, ub, uss, uso, usc, usi, isiD, okB, D.tru, negD, cmpD, opD, idxD, slcD, biD, okF, endR, setE, bindT, itemsD, tb_fn, tb_fl, tb_gok, itemsW, m1T, m1D, lensetD, blR, tb_gl, tb_ar, tb_ki, tb_sub, tb_hot, wipeE, H.g_L, H.g_F, hL, hF, e, noX]
      have hall : ((z.cps.toList.map fun c => D.str ⟨#[c]⟩).all fun d => match d with | .str y => inT LET (y.cps.getD 0 0) || inT FIG (y.cps.getD 0 0) | _ => false) = z.cps.toList.all fun c => inT LET c || inT FIG c := by
        rw [List.all_map]
        rfl
      rw [hall] at hev
      have en : nameB z = (decide (1 ≤ z.length) && (decide (z.length ≤ 8) && (inT LET (z.cps.getD 0 0) && (!isOp z && (!decide (z = "if") && (!decide (z = "refuse") && z.cps.toList.all fun c => inT LET c || inT FIG c)))))) := rfl
      rw [en]
      clear en hall
      generalize z.cps.getD 0 0 = c0 at *
      have s2 := sz 2
      cases e1 : inT LET c0 with
      | false => simp [runD, argsD, entE, exs, ex, evT, ev, evs, evo, evc, evi, bor, getO, getF, sndR, intR, Res.bind, onR, Fl.seq, fz, usT, us, ub, uss, uso, usc, usi, isiD, okB, D.tru, negD, cmpD, opD, idxD, slcD, biD, okF, endR, setE, bindT, itemsD, tb_fn, tb_fl, tb_gok, itemsW, m1T, m1D, lensetD, blR, tb_gl, tb_ar, tb_ki, tb_sub, tb_hot, f_is_name, c_is_name, H.g_S, hs, h1', h2', h2, h1, hc, H.g_L, hL, e1, s2]
      | true =>
        cases e2 : isOp z with
        | true => simp [runD, argsD, entE, exs, ex, evT, ev, evs, evo, evc, evi, bor, getO, getF, sndR, intR, Res.bind, onR, Fl.seq, fz, usT, us, ub, uss, uso, usc, usi, isiD, okB, D.tru, negD, cmpD, opD, idxD, slcD, biD, okF, endR, setE, bindT, itemsD, tb_fn, tb_fl, tb_gok, itemsW, m1T, m1D, lensetD, blR, tb_gl, tb_ar, tb_ki, tb_sub, tb_hot, f_is_name, c_is_name, H.g_S, hs, h1', h2', h2, h1, hc, H.g_L, hL, e1, s2, hop, e2]
        | false =>
          by_cases e34 : z = "if" ∨ z = "refuse"
          · have ef : (!decide (z = "if") && (!decide (z = "refuse") && z.cps.toList.all fun c => inT LET c || inT FIG c)) = false := by
              rcases e34 with e | e <;> simp [e]
            have hi2 : inD (.str z) (.tup [.str "if", .str "refuse"]) = .ok true := by
              rw [hi]
              rcases e34 with e | e <;> simp [e]
            rw [ef]
            simp [runD, argsD, entE, exs, ex, evT, ev, evs, evo, evc, evi, bor, getO, getF, sndR, intR, Res.bind, onR, Fl.seq, fz, usT, us, ub, uss, uso, usc, usi, isiD, okB, D.tru, negD, cmpD, opD, idxD, slcD, biD, okF, endR, setE, bindT, itemsD, tb_fn, tb_fl, tb_gok, itemsW, m1T, m1D, lensetD, blR, tb_gl, tb_ar, tb_ki, tb_sub, tb_hot, f_is_name, c_is_name, H.g_S, hs, h1', h2', hc, H.g_L, hL, e1, s2, hop, e2, hi2]
          · have e3 : ¬ z = "if" := fun e => e34 (.inl e)
            have e4 : ¬ z = "refuse" := fun e => e34 (.inr e)
            have k1 : evT (pg.tb (n + 1)) (.or (.val (.call "is_operation" (.cons (.var 0) .nil))) (.val (.cmp .In (.var 0) (.tup (.cons (.lit (.str "if")) (.cons (.lit (.str "refuse")) .nil)))))) [some (false, .str z), none] = .ok false := by
              simp [runD, argsD, entE, exs, ex, evT, ev, evs, evo, evc, evi, bor, getO, getF, sndR, intR, Res.bind, onR, Fl.seq, fz, usT, us, ub, uss, uso, usc, usi, isiD, okB, D.tru, negD, cmpD, opD, idxD, slcD, biD, okF, endR, setE, bindT, itemsD, tb_fn, tb_fl, tb_gok, itemsW, m1T, m1D, lensetD, blR, tb_gl, tb_ar, tb_ki, tb_sub, tb_hot, hop, e2, hi, e3, e4, s2]
            have k0 : evT (pg.tb (n + 1)) (.or (.not (.val (.chn .LtE .LtE (.lit (.int 1)) (.bi .len (.var 0)) (.gl "MOST_SIGNS")))) (.val (.cmp .NotIn (.idx (.var 0) (.lit (.int 0))) (.gl "LETTERS")))) [some (false, .str z), none] = .ok false := by
              simp [runD, argsD, entE, exs, ex, evT, ev, evs, evo, evc, evi, bor, getO, getF, sndR, intR, Res.bind, onR, Fl.seq, fz, usT, us, ub, uss, uso, usc, usi, isiD, okB, D.tru, negD, cmpD, opD, idxD, slcD, biD, okF, endR, setE, bindT, itemsD, tb_fn, tb_fl, tb_gok, itemsW, m1T, m1D, lensetD, blR, tb_gl, tb_ar, tb_ki, tb_sub, tb_hot, H.g_S, hs, h1', h2', hc, H.g_L, hL, e1]
            rw [← cN H.l_is_name]
            exact c_run (ρ := [some (false, .str z), none]) (R := .rt false (.bl (z.cps.toList.all fun c => inT LET c || inT FIG c))) H.l_is_name (g_fn k0 (g_fn k1 (g_ret hev))) (by simp [endR, h1, h2, e1, e2, e3, e4])
    · have h2' : ¬ (z.length : Int) ≤ 8 := by omega
      simp [runD, argsD, entE, exs, ex, evT, ev, evs, evo, evc, evi, bor, getO, getF, sndR, intR, Res.bind, onR, Fl.seq, fz, usT, us, ub, uss, uso, usc, usi, isiD, okB, D.tru, negD, cmpD, opD, idxD, slcD, biD, okF, endR, setE, bindT, itemsD, tb_fn, tb_fl, tb_gok, itemsW, m1T, m1D, lensetD, blR, tb_gl, tb_ar, tb_ki, tb_sub, tb_hot, f_is_name, c_is_name, H.g_S, hs, h1', h2', nameB, h2]
  · have h1' : ¬ (1 : Int) ≤ (z.length : Int) := by omega
    simp [runD, argsD, entE, exs, ex, evT, ev, evs, evo, evc, evi, bor, getO, getF, sndR, intR, Res.bind, onR, Fl.seq, fz, usT, us, ub, uss, uso, usc, usi, isiD, okB, D.tru, negD, cmpD, opD, idxD, slcD, biD, okF, endR, setE, bindT, itemsD, tb_fn, tb_fl, tb_gok, itemsW, m1T, m1D, lensetD, blR, tb_gl, tb_ar, tb_ki, tb_sub, tb_hot, f_is_name, c_is_name, H.g_S, hs, h1', nameB, h1]
end

end Kv

namespace Kv
open PySem PySem.Spec PyProof.Rows L2 Hf
set_option autoImplicit false
section
variable {pg : Pg} {n : Nat} (H : HasQ pg)
include H
theorem isi_str {d : D} (h : Tr d) : isiD d .str = .ok (match d with | .str _ => true | _ => false) := by
  rcases leaf_of h with hl | ⟨xs, rfl, hs⟩
  · cases hl <;> rfl
  · rfl
theorem isi_tup {d : D} (h : Tr d) : isiD d .tuple = .ok (match d with | .tup _ => true | _ => false) := by
  rcases leaf_of h with hl | ⟨xs, rfl, hs⟩
  · cases hl <;> rfl
  · rfl
/-- an operation of so many parts -/
def canDo (o p : D) : Bool := match o, p with
  | .str z, .tup xs => isOp z && opB z xs.length
  | _, _ => false
theorem v_can_do {o p : D} (ho : Tr o) (hp : Tr p) : callN pg (n + 2) "can_do" [o, p] = .ok (false, .bl (canDo o p)) := by
  rw [cN H.l_can_do]
  have i1 := isi_str H ho
  have i2 := isi_tup H hp
  cases o with
  | str z =>
    cases p with
    | tup xs =>
      have hop := v_isop (n := n) H z
      cases e : isOp z with
      | false =>
        rw [e] at hop
        simp [runD, argsD, entE, exs, ex, evT, ev, evs, evo, evc, evi, bor, getO, getF, sndR, intR, Res.bind, onR, Fl.seq, fz, usT, us, ub, uss, uso, usc, usi, isiD, okB, D.tru, negD, cmpD, opD, idxD, slcD, biD, okF, endR, setE, bindT, itemsD, tb_fn, tb_fl, tb_gok, itemsW, m1T, m1D, lensetD, blR, tb_gl, tb_ar, tb_ki, tb_sub, tb_hot, f_can_do, c_can_do, hop, canDo, e]
      | true =>
        rw [e] at hop
        have ht := v_takes (n := n) H e xs.length
        simp [runD, argsD, entE, exs, ex, evT, ev, evs, evo, evc, evi, bor, getO, getF, sndR, intR, Res.bind, onR, Fl.seq, fz, usT, us, ub, uss, uso, usc, usi, isiD, okB, D.tru, negD, cmpD, opD, idxD, slcD, biD, okF, endR, setE, bindT, itemsD, tb_fn, tb_fl, tb_gok, itemsW, m1T, m1D, lensetD, blR, tb_gl, tb_ar, tb_ki, tb_sub, tb_hot, f_can_do, c_can_do, hop, canDo, e, ht]
    | _ => simp [runD, argsD, entE, exs, ex, evT, ev, evs, evo, evc, evi, bor, getO, getF, sndR, intR, Res.bind, onR, Fl.seq, fz, usT, us, ub, uss, uso, usc, usi, isiD, okB, D.tru, negD, cmpD, opD, idxD, slcD, biD, okF, endR, setE, bindT, itemsD, tb_fn, tb_fl, tb_gok, itemsW, m1T, m1D, lensetD, blR, tb_gl, tb_ar, tb_ki, tb_sub, tb_hot, f_can_do, c_can_do, canDo] at i2 ⊢ <;> simp [i2]
  | _ => simp [runD, argsD, entE, exs, ex, evT, ev, evs, evo, evc, evi, bor, getO, getF, sndR, intR, Res.bind, onR, Fl.seq, fz, usT, us, ub, uss, uso, usc, usi, isiD, okB, D.tru, negD, cmpD, opD, idxD, slcD, biD, okF, endR, setE, bindT, itemsD, tb_fn, tb_fl, tb_gok, itemsW, m1T, m1D, lensetD, blR, tb_gl, tb_ar, tb_ki, tb_sub, tb_hot, f_can_do, c_can_do, canDo] at i1 ⊢ <;> simp [i1]
/-- the counts of the functions -/
def cntD (cs : List (Str × Nat)) : D := .dct (cs.map (·.1)) (cs.map fun p => .int p.2)
def cntB (cs : List (Str × Nat)) (z : Str) (k : Nat) : Bool := match lkD (cs.map (·.1)) (cs.map (·.2)) z with
  | some m => decide (m = k)
  | none => false
theorem lk_cnt (cs : List (Str × Nat)) (z : Str) : lkD (cs.map (·.1)) (cs.map fun p => D.int p.2) z = (lkD (cs.map (·.1)) (cs.map (·.2)) z).map fun (m : Nat) => D.int (m : Int) := by
  induction cs with
  | nil => rfl
  | cons p r ih =>
    simp only [List.map_cons, lkD]
    by_cases e : p.1 = z
    · simp [e]
    · simp [e, ih]
def canCall (cs : List (Str × Nat)) (o p : D) : Bool := match o, p with
  | .str z, .tup xs => cntB cs z xs.length
  | _, _ => false
theorem v_can_call {o p : D} (ho : Tr o) (hp : Tr p) (cs : List (Str × Nat)) : callN pg (n + 1) "can_call" [o, p, cntD cs] = .ok (false, .bl (canCall cs o p)) := by
  rw [cN H.l_can_call]
  have i1 := isi_str H ho
  have i2 := isi_tup H hp
  cases o with
  | str z =>
    cases p with
    | tup xs =>
      have e1 := lk_cnt H cs z
      cases e : lkD (cs.map (·.1)) (cs.map (·.2)) z with
      | none =>
        rw [e] at e1
        simp [runD, argsD, entE, exs, ex, evT, ev, evs, evo, evc, evi, bor, getO, getF, sndR, intR, Res.bind, onR, Fl.seq, fz, usT, us, ub, uss, uso, usc, usi, isiD, okB, D.tru, negD, cmpD, opD, idxD, slcD, biD, okF, endR, setE, bindT, itemsD, tb_fn, tb_fl, tb_gok, itemsW, m1T, m1D, lensetD, blR, tb_gl, tb_ar, tb_ki, tb_sub, tb_hot, f_can_call, c_can_call, canCall, cntB, cntD, e, e1, inD]
      | some m =>
        rw [e] at e1
        have e2 : D.eqD (.int (m : Int)) (.int (xs.length : Int)) = .ok (decide (m = xs.length)) := by
          rw [eqI]
          congr 1
          exact decide_eq_decide.mpr (by omega)
        simp [runD, argsD, entE, exs, ex, evT, ev, evs, evo, evc, evi, bor, getO, getF, sndR, intR, Res.bind, onR, Fl.seq, fz, usT, us, ub, uss, uso, usc, usi, isiD, okB, D.tru, negD, cmpD, opD, idxD, slcD, biD, okF, endR, setE, bindT, itemsD, tb_fn, tb_fl, tb_gok, itemsW, m1T, m1D, lensetD, blR, tb_gl, tb_ar, tb_ki, tb_sub, tb_hot, f_can_call, c_can_call, canCall, cntB, cntD, e, e1, inD, e2]
    | _ => simp [runD, argsD, entE, exs, ex, evT, ev, evs, evo, evc, evi, bor, getO, getF, sndR, intR, Res.bind, onR, Fl.seq, fz, usT, us, ub, uss, uso, usc, usi, isiD, okB, D.tru, negD, cmpD, opD, idxD, slcD, biD, okF, endR, setE, bindT, itemsD, tb_fn, tb_fl, tb_gok, itemsW, m1T, m1D, lensetD, blR, tb_gl, tb_ar, tb_ki, tb_sub, tb_hot, f_can_call, c_can_call, canCall] at i2 ⊢ <;> simp [i2]
  | _ => simp [runD, argsD, entE, exs, ex, evT, ev, evs, evo, evc, evi, bor, getO, getF, sndR, intR, Res.bind, onR, Fl.seq, fz, usT, us, ub, uss, uso, usc, usi, isiD, okB, D.tru, negD, cmpD, opD, idxD, slcD, biD, okF, endR, setE, bindT, itemsD, tb_fn, tb_fl, tb_gok, itemsW, m1T, m1D, lensetD, blR, tb_gl, tb_ar, tb_ki, tb_sub, tb_hot, f_can_call, c_can_call, canCall] at i1 ⊢ <;> simp [i1]
end
def allT (f : D → Bool) (d : D) : Bool := match d with
  | .tup xs => xs.all f
  | _ => false
/-- what is_body tells, so deep -/
def bodyB (ps : List Str) (cs : List (Str × Nat)) : Nat → D → Bool
  | 0, _ => false
  | k + 1, .tup [a, v] => if isS a "value" then gd v && decide (wt v ≤ 50) else if isS a "name" then ps.any fun z => isS v z else if isS a "refuse" then WD6.any fun z => isS v z else false
  | k + 1, .tup [a, b, c] => if isS a "do" then canDo b c && allT (bodyB ps cs k) c else if isS a "call" then canCall cs b c && allT (bodyB ps cs k) c else false
  | k + 1, .tup [a, x, y, z] => if isS a "if" then [x, y, z].all (bodyB ps cs k) else false
  | _, _ => false
section
variable {pg : Pg} (H : HasQ pg) {ps : List Str} {cs : List (Str × Nat)} (hps : ∀ z ∈ ps, PyData.strOk z = true)
include H hps
theorem v_bodies (k : Nat) {n : Nat} (ih : ∀ e, Tr e → wt e ≤ 1000000 → callN pg n "is_body" [e, .int k, .tup (ps.map .str), cntD cs] = .ok (false, .bl (bodyB ps cs k e))) {xs : List D} (hx : ∀ d ∈ xs, Tr d) (hw : wts xs ≤ 1000000) :
    callN pg (n + 2) "are_bodies" [.tup xs, .int k, .tup (ps.map .str), cntD cs] = .ok (false, .bl (xs.all (bodyB ps cs k))) := by
  refine c_run (ρ := [some (false, .tup xs), some (false, .int k), some (false, .tup (ps.map .str)), some (false, cntD cs), none]) (R := .rt false (.bl (xs.all (bodyB ps cs k)))) H.l_are_bodies (g_ret (ev_all tb_gok (ds := xs) ?_ fun d hd => ?_)) rfl
  · simp [runD, argsD, entE, exs, ex, evT, ev, evs, evo, evc, evi, bor, getO, getF, sndR, intR, Res.bind, onR, Fl.seq, fz, usT, us, ub, uss, uso, usc, usi, isiD, okB, D.tru, negD, cmpD, opD, idxD, slcD, biD, okF, endR, setE, bindT, itemsD, tb_fn, tb_fl, tb_gok, itemsW, m1T, m1D, lensetD, blR, tb_gl, tb_ar, tb_ki, tb_sub, tb_hot]
  · simp [gF, runD, argsD, entE, exs, ex, evT, ev, evs, evo, evc, evi, bor, getO, getF, sndR, intR, Res.bind, onR, Fl.seq, fz, usT, us, ub, uss, uso, usc, usi, isiD, okB, D.tru, negD, cmpD, opD, idxD, slcD, biD, okF, endR, setE, bindT, itemsD, tb_fn, tb_fl, tb_gok, itemsW, m1T, m1D, lensetD, blR, tb_gl, tb_ar, tb_ki, tb_sub, tb_hot, wipeE, noX, ih d (hx d hd) (Nat.le_trans (wts_mem hd) hw)]
theorem eqL {a : D} (h : Tr a) (x : Str) (hx : PyData.strOk x = true := by decide +kernel) : D.eqD a (.str x) = .ok (isS a x) := eqS h hx
theorem v_body : ∀ (k n : Nat), 3 * k + 5 ≤ n → ∀ e, Tr e → wt e ≤ 1000000 → callN pg n "is_body" [e, .int k, .tup (ps.map .str), cntD cs] = .ok (false, .bl (bodyB ps cs k e))
  | 0, n, hn, e, he, hw => by
    obtain ⟨m, rfl⟩ : ∃ m, n = m + 1 := ⟨n - 1, by omega⟩
    have z : (D.eqD (.int ((0 : Nat) : Int)) (.int 0)) = .ok true := by rw [eqI]; rfl
    rw [cN H.l_is_body]
    simp [runD, argsD, entE, exs, ex, evT, ev, evs, evo, evc, evi, bor, getO, getF, sndR, intR, Res.bind, onR, Fl.seq, fz, usT, us, ub, uss, uso, usc, usi, isiD, okB, D.tru, negD, cmpD, opD, idxD, slcD, biD, okF, endR, setE, bindT, itemsD, tb_fn, tb_fl, tb_gok, itemsW, m1T, m1D, lensetD, blR, tb_gl, tb_ar, tb_ki, tb_sub, tb_hot, f_is_body, c_is_body, eqI, bodyB]
  | k + 1, n, hn, e, he, hw => by
    obtain ⟨m, rfl⟩ : ∃ m, n = m + 3 := ⟨n - 3, by omega⟩
    have i2 := isi_tup H he
    have k1 : (((k + 1 : Nat) : Int) - 1) = (k : Int) := by omega
    have z : (D.eqD (.int ((k + 1 : Nat) : Int)) (.int 0)) = .ok false := by
      rw [eqI, decide_eq_false (by omega)]
    generalize ((k + 1 : Nat) : Int) = dk at *
    have iB := fun {xs : List D} hx hw => v_bodies (n := m) H hps k (fun e he hw => v_body k m (by omega) e he hw) (xs := xs) hx hw
    have vV := fun {v : D} hv hw => v_value (n := m) H.toHasV0 (d := v) hv hw
    rcases leaf_of he with hl | ⟨xs, rfl, hx⟩
    · rw [cN H.l_is_body]
      cases hl <;> simp [runD, argsD, entE, exs, ex, evT, ev, evs, evo, evc, evi, bor, getO, getF, sndR, intR, Res.bind, onR, Fl.seq, fz, usT, us, ub, uss, uso, usc, usi, isiD, okB, D.tru, negD, cmpD, opD, idxD, slcD, biD, okF, endR, setE, bindT, itemsD, tb_fn, tb_fl, tb_gok, itemsW, m1T, m1D, lensetD, blR, tb_gl, tb_ar, tb_ki, tb_sub, tb_hot, f_is_body, c_is_body, z, bodyB]
    have hws : ∀ d ∈ xs, wt d ≤ 1000000 := fun d hd => by
      have := wts_mem hd
      have e2 : wt (.tup xs) = 1 + wts xs := by simp [wt]
      omega
    have hdep : evT (pg.tb (m + 2)) (.or (.val (.cmp .Eq (.var 1) (.lit (.int 0)))) (.not (.val (.isi (.var 0) .tuple)))) [some (false, .tup xs), some (false, .int dk), some (false, .tup (ps.map .str)), some (false, cntD cs), none, none, none, none, none, none, none, none] = .ok false := by
      simp [runD, argsD, entE, exs, ex, evT, ev, evs, evo, evc, evi, bor, getO, getF, sndR, intR, Res.bind, onR, Fl.seq, fz, usT, us, ub, uss, uso, usc, usi, isiD, okB, D.tru, negD, cmpD, opD, idxD, slcD, biD, okF, endR, setE, bindT, itemsD, tb_fn, tb_fl, tb_gok, itemsW, m1T, m1D, lensetD, blR, tb_gl, tb_ar, tb_ki, tb_sub, tb_hot, z]
    have fin : ∀ {b : Bool}, b = bodyB ps cs (k + 1) (.tup xs) → endR (.rt false (.bl b)) = .ok (false, .bl (bodyB ps cs (k + 1) (.tup xs))) := fun e => by rw [e]; rfl
    have no : ∀ (ρ : En) (l : List Nat), xs.length ≠ 2 → xs.length ≠ 3 → xs.length ≠ 4 → bodyB ps cs (k + 1) (.tup xs) = false := fun _ _ h2 h3 h4 => by
      match xs, h2, h3, h4 with
      | [], _, _, _ => rfl
      | [_], _, _, _ => rfl
      | [_, _], h, _, _ => exact absurd rfl h
      | [_, _, _], _, h, _ => exact absurd rfl h
      | [_, _, _, _], _, _, h => exact absurd rfl h
      | _ :: _ :: _ :: _ :: _ :: _, _, _, _ => rfl
    by_cases l2 : xs.length = 2
    · obtain ⟨a, v, rfl⟩ : ∃ a v, xs = [a, v] := by
        match xs, l2 with
        | [a, v], _ => exact ⟨a, v, rfl⟩
      have ha := hx a (by simp)
      have hv := hx v (by simp)
      have wv := hws v (by simp)
      have e1 := eqL H hps ha "value"
      have e2 := eqL H hps ha "name"
      have e3 := eqL H hps ha "refuse"
      cases t1 : isS a "value" with
      | true =>
        rw [t1] at e1
        refine c_run (ρ := _) H.l_is_body (g_fn hdep (g_mtc (i := 0) rfl (x_hit (p_2 e1) (g_ret (x := (false, .bl (gd v && decide (wt v ≤ 50)))) ?_)) rfl)) (fin (by simp [bodyB, t1]))
        simp [runD, argsD, entE, exs, ex, evT, ev, evs, evo, evc, evi, bor, getO, getF, sndR, intR, Res.bind, onR, Fl.seq, fz, usT, us, ub, uss, uso, usc, usi, isiD, okB, D.tru, negD, cmpD, opD, idxD, slcD, biD, okF, endR, setE, bindT, itemsD, tb_fn, tb_fl, tb_gok, itemsW, m1T, m1D, lensetD, blR, tb_gl, tb_ar, tb_ki, tb_sub, tb_hot, binds, vV hv wv]
      | false =>
        rw [t1] at e1
        cases t2 : isS a "name" with
        | true =>
          rw [t2] at e2
          refine c_run (ρ := _) H.l_is_body (g_fn hdep (g_mtc (i := 0) rfl (x_miss (p_2 e1) (x_hit (p_2 e2) (g_ret (x := (false, .bl (ps.any fun z => isS v z))) ?_))) rfl)) (fin (by simp [bodyB, t1, t2]))
          simp [runD, argsD, entE, exs, ex, evT, ev, evs, evo, evc, evi, bor, getO, getF, sndR, intR, Res.bind, onR, Fl.seq, fz, usT, us, ub, uss, uso, usc, usi, isiD, okB, D.tru, negD, cmpD, opD, idxD, slcD, biD, okF, endR, setE, bindT, itemsD, tb_fn, tb_fl, tb_gok, itemsW, m1T, m1D, lensetD, blR, tb_gl, tb_ar, tb_ki, tb_sub, tb_hot, binds, inD, inS_strs hv hps]
        | false =>
          rw [t2] at e2
          cases t3 : isS a "refuse" with
          | true =>
            rw [t3] at e3
            refine c_run (ρ := _) H.l_is_body (g_fn hdep (g_mtc (i := 0) rfl (x_miss (p_2 e1) (x_miss (p_2 e2) (x_hit (p_2 e3) (g_ret (x := (false, .bl (WD6.any fun z => isS v z))) ?_)))) rfl)) (fin (by simp [bodyB, t1, t2, t3]))
            have hw6 := inS_strs hv (zs := WD6) (by decide +kernel)
            simp [runD, argsD, entE, exs, ex, evT, ev, evs, evo, evc, evi, bor, getO, getF, sndR, intR, Res.bind, onR, Fl.seq, fz, usT, us, ub, uss, uso, usc, usi, isiD, okB, D.tru, negD, cmpD, opD, idxD, slcD, biD, okF, endR, setE, bindT, itemsD, tb_fn, tb_fl, tb_gok, itemsW, m1T, m1D, lensetD, blR, tb_gl, tb_ar, tb_ki, tb_sub, tb_hot, binds, inD, H.g_W, hw6]
          | false =>
            rw [t3] at e3
            exact c_run (ρ := _) H.l_is_body (g_fn hdep (g_mtc (i := 0) rfl (x_miss (p_2 e1) (x_miss (p_2 e2) (x_miss (p_2 e3) (x_miss (p_n (by simp)) (x_miss (p_n (by simp)) (x_miss (p_n (by simp)) (x_any (g_ret (x := (false, .bl false)) rfl)))))))) rfl)) (fin (by simp [bodyB, t1, t2, t3]))
    · by_cases l3 : xs.length = 3
      · obtain ⟨a, b, c, rfl⟩ : ∃ a b c, xs = [a, b, c] := by
          match xs, l3 with
          | [a, b, c], _ => exact ⟨a, b, c, rfl⟩
        have ha := hx a (by simp)
        have hb := hx b (by simp)
        have hc := hx c (by simp)
        have wc := hws c (by simp)
        have e1 := eqL H hps ha "do"
        have e2 := eqL H hps ha "call"
        have parts : ∀ {g : Bool}, (g = true → ∃ ys, c = .tup ys) → ∀ {ea : Ex}, (∀ i, ea ≠ .var i) → ∀ ρ, ev (pg.tb (m + 2)) ea ρ = .ok (false, .bl g) → ρ[11]? = some (some (false, c)) → ρ[1]? = some (some (false, .int dk)) → ρ[2]? = some (some (false, .tup (ps.map .str))) → ρ[3]? = some (some (false, cntD cs)) →
            ev (pg.tb (m + 2)) (.and ea (.call "are_bodies" (.cons (.var 11) (.cons (.bin .Sub (.var 1) (.lit (.int 1))) (.cons (.var 2) (.cons (.var 3) .nil)))))) ρ = .ok (false, .bl (g && allT (bodyB ps cs k) c)) := by
          intro g hg ea hea ρ h0 h1 h2 h3 h4
          cases g with
          | false => simp [ev, h0, Res.bind, D.tru]
          | true =>
            obtain ⟨ys, rfl⟩ := hg rfl
            have hy : ∀ d ∈ ys, Tr d := fun d hd => by
              rcases leaf_of hc with h | ⟨zs, e, hz⟩
              · cases h
              · cases e; exact hz d hd
            have wy : wts ys ≤ 1000000 := by simp [wt] at wc; omega
            have := iB hy wy
            have e5 : ev (pg.tb (m + 2)) (.call "are_bodies" (.cons (.var 11) (.cons (.bin .Sub (.var 1) (.lit (.int 1))) (.cons (.var 2) (.cons (.var 3) .nil))))) ρ = .ok (false, .bl (allT (bodyB ps cs k) (.tup ys))) := by
              simp [runD, argsD, entE, exs, ex, evT, ev, evs, evo, evc, evi, bor, getO, getF, sndR, intR, Res.bind, onR, Fl.seq, fz, usT, us, ub, uss, uso, usc, usi, isiD, okB, D.tru, negD, cmpD, opD, idxD, slcD, biD, okF, endR, setE, bindT, itemsD, tb_fn, tb_fl, tb_gok, itemsW, m1T, m1D, lensetD, blR, tb_gl, tb_ar, tb_ki, tb_sub, tb_hot, h1, h2, h3, h4, k1, this, allT]
            simp [ev, h0, Res.bind, D.tru] at e5 ⊢
            simp [e5]
        have dd : canDo b c = true → ∃ ys, c = .tup ys := fun h => by
          cases b <;> cases c <;> first | exact ⟨_, rfl⟩ | cases h
        have dc : canCall cs b c = true → ∃ ys, c = .tup ys := fun h => by
          cases b <;> cases c <;> first | exact ⟨_, rfl⟩ | cases h
        cases t1 : isS a "do" with
        | true =>
          rw [t1] at e1
          refine c_run (ρ := _) H.l_is_body (g_fn hdep (g_mtc (i := 0) rfl (x_miss (p_n (by simp)) (x_miss (p_n (by simp)) (x_miss (p_n (by simp)) (x_miss (p_n (by simp)) (x_hit (p_3 e1) (g_ret (parts dd (fun i z => by cases z) _ ?_ rfl rfl rfl rfl))))))) rfl)) (fin (by simp [bodyB, t1]))
          have := v_can_do (n := m) H hb hc
          simp [runD, argsD, entE, exs, ex, evT, ev, evs, evo, evc, evi, bor, getO, getF, sndR, intR, Res.bind, onR, Fl.seq, fz, usT, us, ub, uss, uso, usc, usi, isiD, okB, D.tru, negD, cmpD, opD, idxD, slcD, biD, okF, endR, setE, bindT, itemsD, tb_fn, tb_fl, tb_gok, itemsW, m1T, m1D, lensetD, blR, tb_gl, tb_ar, tb_ki, tb_sub, tb_hot, binds, this]
        | false =>
          rw [t1] at e1
          cases t2 : isS a "call" with
          | true =>
            rw [t2] at e2
            refine c_run (ρ := _) H.l_is_body (g_fn hdep (g_mtc (i := 0) rfl (x_miss (p_n (by simp)) (x_miss (p_n (by simp)) (x_miss (p_n (by simp)) (x_miss (p_n (by simp)) (x_miss (p_3 e1) (x_hit (p_3 e2) (g_ret (parts dc (fun i z => by cases z) _ ?_ rfl rfl rfl rfl)))))))) rfl)) (fin (by simp [bodyB, t1, t2]))
            have := v_can_call (n := m + 1) H hb hc cs
            simp [runD, argsD, entE, exs, ex, evT, ev, evs, evo, evc, evi, bor, getO, getF, sndR, intR, Res.bind, onR, Fl.seq, fz, usT, us, ub, uss, uso, usc, usi, isiD, okB, D.tru, negD, cmpD, opD, idxD, slcD, biD, okF, endR, setE, bindT, itemsD, tb_fn, tb_fl, tb_gok, itemsW, m1T, m1D, lensetD, blR, tb_gl, tb_ar, tb_ki, tb_sub, tb_hot, binds, this]
          | false =>
            rw [t2] at e2
            exact c_run (ρ := _) H.l_is_body (g_fn hdep (g_mtc (i := 0) rfl (x_miss (p_n (by simp)) (x_miss (p_n (by simp)) (x_miss (p_n (by simp)) (x_miss (p_n (by simp)) (x_miss (p_3 e1) (x_miss (p_3 e2) (x_any (g_ret (x := (false, .bl false)) rfl)))))))) rfl)) (fin (by simp [bodyB, t1, t2]))
      · by_cases l4 : xs.length = 4
        · obtain ⟨a, b, c, d, rfl⟩ : ∃ a b c d, xs = [a, b, c, d] := by
            match xs, l4 with
            | [a, b, c, d], _ => exact ⟨a, b, c, d, rfl⟩
          have ha := hx a (by simp)
          have e1 := eqL H hps ha "if"
          cases t1 : isS a "if" with
          | true =>
            rw [t1] at e1
            refine c_run (ρ := _) H.l_is_body (g_fn hdep (g_mtc (i := 0) rfl (x_miss (p_n (by simp)) (x_miss (p_n (by simp)) (x_miss (p_n (by simp)) (x_hit (p_4 e1) (g_ret (x := (false, .bl ([b, c, d].all (bodyB ps cs k)))) ?_))))) rfl)) (fin (by simp [bodyB, t1]))
            have w4 : wts [b, c, d] ≤ 1000000 := by
              simp only [wt, wts] at hw ⊢
              omega
            have := iB (xs := [b, c, d]) (fun x hm => hx x (List.mem_cons_of_mem _ hm)) w4
            have s3 := sz 3
            simp [runD, argsD, entE, exs, ex, evT, ev, evs, evo, evc, evi, bor, getO, getF, sndR, intR, Res.bind, onR, Fl.seq, fz, usT, us, ub, uss, uso, usc, usi, isiD, okB, D.tru, negD, cmpD, opD, idxD, slcD, biD, okF, endR, setE, bindT, itemsD, tb_fn, tb_fl, tb_gok, itemsW, m1T, m1D, lensetD, blR, tb_gl, tb_ar, tb_ki, tb_sub, tb_hot, binds, this, k1, s3]
          | false =>
            rw [t1] at e1
            exact c_run (ρ := _) H.l_is_body (g_fn hdep (g_mtc (i := 0) rfl (x_miss (p_n (by simp)) (x_miss (p_n (by simp)) (x_miss (p_n (by simp)) (x_miss (p_4 e1) (x_miss (p_n (by simp)) (x_miss (p_n (by simp)) (x_any (g_ret (x := (false, .bl false)) rfl)))))))) rfl)) (fin (by simp [bodyB, t1]))
        · exact c_run (ρ := _) H.l_is_body (g_fn hdep (g_mtc (i := 0) rfl (x_miss (p_n l2) (x_miss (p_n l2) (x_miss (p_n l2) (x_miss (p_n l4) (x_miss (p_n l3) (x_miss (p_n l3) (x_any (g_ret (x := (false, .bl false)) rfl)))))))) rfl)) (fin (no [] [] l2 l3 l4).symm)
end

end Kv

namespace Kv
open PySem PySem.Spec PyProof.Rows L2 Hf
set_option autoImplicit false
/-! ### unlike, functions, programs -/
theorem newIn_nodup : ∀ (zs seen : List Str), newIn seen zs = zs.length ↔ (zs.Nodup ∧ ∀ z ∈ zs, z ∉ seen)
  | [], _ => by simp [newIn]
  | z :: r, seen => by
    have ih := newIn_nodup r (seen ++ [z])
    have le := Hg.newIn_le r (seen ++ [z])
    rw [newIn, List.length_cons, List.nodup_cons]
    by_cases h : z ∈ seen
    · rw [if_pos h]
      constructor
      · intro e; omega
      · intro ⟨_, e⟩; exact absurd h (e z List.mem_cons_self)
    · rw [if_neg h]
      constructor
      · intro e
        obtain ⟨h1, h2⟩ := ih.mp (by omega)
        refine ⟨⟨fun m => (h2 z m) (by simp), h1⟩, fun x hx => ?_⟩
        rcases List.mem_cons.mp hx with e | hx
        · rw [e]; exact h
        · exact fun m => h2 x hx (by simp [m])
      · intro ⟨⟨h1, h2⟩, h3⟩
        have := ih.mpr ⟨h2, fun x hx m => by
          rcases List.mem_append.mp m with m | m
          · exact h3 x (List.mem_cons_of_mem _ hx) m
          · simp at m; subst m; exact h1 hx⟩
        omega
theorem strsOf_map (zs : List Str) : strsOf (zs.map .str) = some zs := by
  induction zs with
  | nil => rfl
  | cons z r ih => simp [strsOf, ih]
section
variable {pg : Pg} {n : Nat} (H : HasQ pg)
include H
theorem v_unlike (zs : List Str) (hz : zs.length ≤ 1000) (d : D) (hd : d = .tup (zs.map .str) ∨ d = .lst (zs.map .str)) : callN pg (n + 1) "are_unlike" [d] = .ok (false, .bl (decide zs.Nodup)) := by
  rw [cN H.l_are_unlike]
  have e : D.eqD (.int ((newIn [] zs : Nat) : Int)) (.int (zs.length : Int)) = .ok (decide zs.Nodup) := by
    rw [eqI]
    congr 1
    have := newIn_nodup zs []
    exact decide_eq_decide.mpr ⟨fun h => (this.mp (by omega)).1, fun h => by have := this.mpr ⟨h, fun _ _ => List.not_mem_nil⟩; omega⟩
  rcases hd with rfl | rfl <;> simp [runD, argsD, entE, exs, ex, evT, ev, evs, evo, evc, evi, bor, getO, getF, sndR, intR, Res.bind, onR, Fl.seq, fz, usT, us, ub, uss, uso, usc, usi, isiD, okB, D.tru, negD, cmpD, opD, idxD, slcD, biD, okF, endR, setE, bindT, itemsD, tb_fn, tb_fl, tb_gok, itemsW, m1T, m1D, lensetD, blR, tb_gl, tb_ar, tb_ki, tb_sub, tb_hot, f_are_unlike, c_are_unlike, strsOf_map, hz, e]
end
/-- a function's row -/
structure Fn where
  nm : Str
  ps : List Str
  bd : D
def Fn.d (f : Fn) : D := .tup [.str f.nm, .tup (f.ps.map .str), f.bd]
structure Fn.Ok (f : Fn) : Prop where
  nm : PyData.strOk f.nm = true
  nl : f.nm.length ≤ 1000
  ps : ∀ z ∈ f.ps, PyData.strOk z = true ∧ z.length ≤ 1000
  pl : f.ps.length ≤ 1000
  bd : Tr f.bd
  bw : wt f.bd ≤ 1000000
def fnB (cs : List (Str × Nat)) (f : Fn) : Bool := nameB f.nm && (decide (f.ps.length ≤ 6) && (f.ps.all nameB && (decide f.ps.Nodup && bodyB f.ps cs 20 f.bd)))
theorem fnB_eq (cs : List (Str × Nat)) (f : Fn) : fnB cs f = ((nameB f.nm && decide (f.ps.length ≤ 6)) && ((f.ps.all nameB && decide f.ps.Nodup) && bodyB f.ps cs 20 f.bd)) := by unfold fnB; simp only [Bool.and_assoc]
def cnts (fs : List Fn) : List (Str × Nat) := fs.map fun f => (f.nm, f.ps.length)
def goodB (fs : List Fn) : Bool := !fs.isEmpty && (decide (fs.map (·.nm)).Nodup && fs.all (fnB (cnts fs)))
section
variable {pg : Pg} (H : HasQ pg)
include H
theorem v_function {n : Nat} (hn : 70 ≤ n) {f : Fn} (hf : f.Ok) (cs : List (Str × Nat)) : callN pg n "is_function" [f.d, cntD cs] = .ok (false, .bl (fnB cs f)) := by
  obtain ⟨m, rfl⟩ : ∃ m, n = m + 4 := ⟨n - 4, by omega⟩
  have hname := v_name (n := m + 1) H hf.nm hf.nl
  have hgen : ev (pg.tb (m + 3)) (.gen true (.one 5) [5] (.seq (.var 3)) (.callL "is_name" (.cons (.var 5) .nil))) [some (false, f.d), some (false, cntD cs), some (false, .str f.nm), some (false, .tup (f.ps.map .str)), some (false, f.bd), none] = .ok (false, .bl ((f.ps.map D.str).all fun d => match d with | .str z => nameB z | _ => false)) := by
    refine ev_all tb_gok (by simp [runD, argsD, entE, exs, ex, evT, ev, evs, evo, evc, evi, bor, getO, getF, sndR, intR, Res.bind, onR, Fl.seq, fz, usT, us, ub, uss, uso, usc, usi, isiD, okB, D.tru, negD, cmpD, opD, idxD, slcD, biD, okF, endR, setE, bindT, itemsD, tb_fn, tb_fl, tb_gok, itemsW, m1T, m1D, lensetD, blR, tb_gl, tb_ar, tb_ki, tb_sub, tb_hot]) fun d hd => ?_
    obtain ⟨z, hz, rfl⟩ := List.mem_map.mp hd
    have := v_name (n := m) H (hf.ps z hz).1 (hf.ps z hz).2
    simp [gF, runD, argsD, entE, exs, ex, evT, ev, evs, evo, evc, evi, bor, getO, getF, sndR, intR, Res.bind, onR, Fl.seq, fz, usT, us, ub, uss, uso, usc, usi, isiD, okB, D.tru, negD, cmpD, opD, idxD, slcD, biD, okF, endR, setE, bindT, itemsD, tb_fn, tb_fl, tb_gok, itemsW, m1T, m1D, lensetD, blR, tb_gl, tb_ar, tb_ki, tb_sub, tb_hot, wipeE, noX, this]
  have hall : ((f.ps.map D.str).all fun d => match d with | .str z => nameB z | _ => false) = f.ps.all nameB := by rw [List.all_map]; rfl
  rw [hall] at hgen
  have hun := v_unlike (n := m + 2) H f.ps hf.pl _ (.inl rfl)
  have hbody := v_body H (ps := f.ps) (cs := cs) (fun z hz => (hf.ps z hz).1) 20 (m + 3) (by omega) f.bd hf.bd hf.bw
  have hset : ex (pg.tb (m + 3)) pg.wf (.sets (.tup [2, 3, 4]) (.var 0)) [some (false, f.d), some (false, cntD cs), none, none, none, none] = .nx [some (false, f.d), some (false, cntD cs), some (false, .str f.nm), some (false, .tup (f.ps.map .str)), some (false, f.bd), none] := by
    simp [runD, argsD, entE, exs, ex, evT, ev, evs, evo, evc, evi, bor, getO, getF, sndR, intR, Res.bind, onR, Fl.seq, fz, usT, us, ub, uss, uso, usc, usi, isiD, okB, D.tru, negD, cmpD, opD, idxD, slcD, biD, okF, endR, setE, bindT, itemsD, tb_fn, tb_fl, tb_gok, itemsW, m1T, m1D, lensetD, blR, tb_gl, tb_ar, tb_ki, tb_sub, tb_hot, Fn.d, setEs]
  generalize hρ : [some (false, f.d), some (false, cntD cs), some (false, D.str f.nm), some (false, .tup (f.ps.map .str)), some (false, f.bd), none] = ρ at *
  have g2 : ρ[2]? = some (some (false, D.str f.nm)) := by rw [← hρ]; rfl
  have g3 : ρ[3]? = some (some (false, D.tup (f.ps.map .str))) := by rw [← hρ]; rfl
  have g4 : ρ[4]? = some (some (false, f.bd)) := by rw [← hρ]; rfl
  have g1 : ρ[1]? = some (some (false, cntD cs)) := by rw [← hρ]; rfl
  have t1 : evT (pg.tb (m + 3)) (.or (.not (.val (.call "is_name" (.cons (.var 2) .nil)))) (.val (.cmp .Gt (.bi .len (.var 3)) (.gl "MOST_PARAMETERS")))) ρ = .ok (!(nameB f.nm && decide (f.ps.length ≤ 6))) := by
    by_cases h6 : f.ps.length ≤ 6
    · have h6' : ¬ (6 : Int) < (f.ps.length : Int) := by omega
      cases e : nameB f.nm <;> simp [runD, argsD, entE, exs, ex, evT, ev, evs, evo, evc, evi, bor, getO, getF, sndR, intR, Res.bind, onR, Fl.seq, fz, usT, us, ub, uss, uso, usc, usi, isiD, okB, D.tru, negD, cmpD, opD, idxD, slcD, biD, okF, endR, setE, bindT, itemsD, tb_fn, tb_fl, tb_gok, itemsW, m1T, m1D, lensetD, blR, tb_gl, tb_ar, tb_ki, tb_sub, tb_hot, g2, g3, hname, e, H.g_P, h6, h6']
    · have h6' : (6 : Int) < (f.ps.length : Int) := by omega
      cases e : nameB f.nm <;> simp [runD, argsD, entE, exs, ex, evT, ev, evs, evo, evc, evi, bor, getO, getF, sndR, intR, Res.bind, onR, Fl.seq, fz, usT, us, ub, uss, uso, usc, usi, isiD, okB, D.tru, negD, cmpD, opD, idxD, slcD, biD, okF, endR, setE, bindT, itemsD, tb_fn, tb_fl, tb_gok, itemsW, m1T, m1D, lensetD, blR, tb_gl, tb_ar, tb_ki, tb_sub, tb_hot, g2, g3, hname, e, H.g_P, h6, h6']
  have t2 : evT (pg.tb (m + 3)) (.or (.not (.val (.gen true (.one 5) [5] (.seq (.var 3)) (.callL "is_name" (.cons (.var 5) .nil))))) (.not (.val (.call "are_unlike" (.cons (.var 3) .nil))))) ρ = .ok (!(f.ps.all nameB && decide f.ps.Nodup)) := by
    rw [evT, evT, evT]
    rw [show bor (.gen true (.one 5) [5] (.seq (.var 3)) (.callL "is_name" (.cons (.var 5) .nil))) ρ (ev (pg.tb (m + 3)) (.gen true (.one 5) [5] (.seq (.var 3)) (.callL "is_name" (.cons (.var 5) .nil))) ρ) = sndR (ev (pg.tb (m + 3)) (.gen true (.one 5) [5] (.seq (.var 3)) (.callL "is_name" (.cons (.var 5) .nil))) ρ) from rfl, hgen]
    cases e : f.ps.all nameB with
    | false => simp [sndR, Res.bind, D.tru]
    | true =>
      by_cases e2 : f.ps.Nodup <;> simp [runD, argsD, entE, exs, ex, evT, ev, evs, evo, evc, evi, bor, getO, getF, sndR, intR, Res.bind, onR, Fl.seq, fz, usT, us, ub, uss, uso, usc, usi, isiD, okB, D.tru, negD, cmpD, opD, idxD, slcD, biD, okF, endR, setE, bindT, itemsD, tb_fn, tb_fl, tb_gok, itemsW, m1T, m1D, lensetD, blR, tb_gl, tb_ar, tb_ki, tb_sub, tb_hot, g3, hun, e2]
  have t3 : ev (pg.tb (m + 3)) (.call "is_body" (.cons (.var 4) (.cons (.gl "MOST_DEPTH") (.cons (.var 3) (.cons (.var 1) .nil))))) ρ = .ok (false, .bl (bodyB f.ps cs 20 f.bd)) := by
    simp [runD, argsD, entE, exs, ex, evT, ev, evs, evo, evc, evi, bor, getO, getF, sndR, intR, Res.bind, onR, Fl.seq, fz, usT, us, ub, uss, uso, usc, usi, isiD, okB, D.tru, negD, cmpD, opD, idxD, slcD, biD, okF, endR, setE, bindT, itemsD, tb_fn, tb_fl, tb_gok, itemsW, m1T, m1D, lensetD, blR, tb_gl, tb_ar, tb_ki, tb_sub, tb_hot, g1, g3, g4, H.g_D]
    exact hbody
  have z1 : fz (usT (.or (.not (.val (.call "is_name" (.cons (.var 2) .nil)))) (.val (.cmp .Gt (.bi .len (.var 3)) (.gl "MOST_PARAMETERS"))))) ρ = ρ := by rw [← hρ]; rfl
  have z2 : fz (usT (.or (.not (.val (.gen true (.one 5) [5] (.seq (.var 3)) (.callL "is_name" (.cons (.var 5) .nil))))) (.not (.val (.call "are_unlike" (.cons (.var 3) .nil)))))) ρ = ρ := by rw [← hρ]; rfl
  have z3 : fz (us (.call "is_body" (.cons (.var 4) (.cons (.gl "MOST_DEPTH") (.cons (.var 3) (.cons (.var 1) .nil)))))) ρ = ρ := by rw [← hρ]; rfl
  have fin : ∀ {b : Bool}, b = fnB cs f → endR (.rt false (.bl b)) = .ok (false, .bl (fnB cs f)) := fun e => by rw [e]; rfl
  cases c1 : (nameB f.nm && decide (f.ps.length ≤ 6)) with
  | false =>
    rw [c1] at t1
    exact c_run (ρ := _) H.l_is_function (g_st ρ hset (g_t t1 (s_rt (g_ret (x := (false, .bl false)) rfl)) z1)) (fin (by rw [fnB_eq, c1]; rfl))
  | true =>
    rw [c1] at t1
    cases c2 : (f.ps.all nameB && decide f.ps.Nodup) with
    | false =>
      rw [c2] at t2
      exact c_run (ρ := _) H.l_is_function (g_st ρ hset (g_fn t1 (g_t t2 (s_rt (g_ret (x := (false, .bl false)) rfl)) z2) z1)) (fin (by rw [fnB_eq, c1, c2]; simp))
    | true =>
      rw [c2] at t2
      exact c_run (ρ := _) H.l_is_function (g_st ρ hset (g_fn t1 (g_fn t2 (g_ret t3 (hz := z3)) z2) z1)) (fin (by rw [fnB_eq, c1, c2]; simp))
theorem v_good {n : Nat} (hn : 74 ≤ n) {fs : List Fn} (hf : ∀ f ∈ fs, f.Ok) (hl : fs.length ≤ 1000) : callN pg n "is_good" [.tup (fs.map Fn.d)] = .ok (false, .bl (goodB fs)) := by
  obtain ⟨m, rfl⟩ : ∃ m, n = m + 3 := ⟨n - 3, by omega⟩
  have hun := v_unlike (n := m + 1) H (fs.map (·.nm)) (by simpa using hl) _ (.inr rfl)
  have hs := sz fs.length hl
  have hcomp : ev (pg.tb (m + 2)) (.comp (.one 5) [5] (.seq (.var 0)) .nil (.idx (.var 5) (.lit (.int 0)))) [some (false, .tup (fs.map Fn.d)), none, none, none, none, none] = .ok (true, .lst ((fs.map (·.nm)).map .str)) := by
    refine ev_comp (ds := fs.map Fn.d) (by simp [runD, argsD, entE, exs, ex, evT, ev, evs, evo, evc, evi, bor, getO, getF, sndR, intR, Res.bind, onR, Fl.seq, fz, usT, us, ub, uss, uso, usc, usi, isiD, okB, D.tru, negD, cmpD, opD, idxD, slcD, biD, okF, endR, setE, bindT, itemsD, tb_fn, tb_fl, tb_gok, itemsW, m1T, m1D, lensetD, blR, tb_gl, tb_ar, tb_ki, tb_sub, tb_hot]) (by simpa using hs) ?_
    rw [compL_map (g := fun d => match d with | .tup (a :: _) => a | _ => .non) fun d hd => ?_]
    · rw [List.map_map, List.map_map]
      rfl
    · obtain ⟨f, hf2, rfl⟩ := List.mem_map.mp hd
      simp [cF, runD, argsD, entE, exs, ex, evT, ev, evs, evo, evc, evi, bor, getO, getF, sndR, intR, Res.bind, onR, Fl.seq, fz, usT, us, ub, uss, uso, usc, usi, isiD, okB, D.tru, negD, cmpD, opD, idxD, slcD, biD, okF, endR, setE, bindT, itemsD, tb_fn, tb_fl, tb_gok, itemsW, m1T, m1D, lensetD, blR, tb_gl, tb_ar, tb_ki, tb_sub, tb_hot, wipeE, noX, Fn.d, atI, ixN]
  have hdc : (fs.map (·.nm)).Nodup → ev (pg.tb (m + 2)) (.dcomp (.tup [2, 3, 4]) [2, 3, 4] (.seq (.var 0)) .nil (.var 2) (.bi .len (.var 3))) [some (false, .tup (fs.map Fn.d)), none, none, none, none, none] = .ok (false, cntD (cnts fs)) := fun nd => by
    have e : cntD (cnts fs) = .dct (fs.map (·.nm)) (fs.map fun f => .int (f.ps.length : Nat)) := by
      unfold cntD cnts
      rw [List.map_map, List.map_map]
      rfl
    rw [e]
    refine ev_dcomp (ds := fs.map Fn.d) (ys := fs.map fun f => .tup [.str f.nm, .int (f.ps.length : Nat)]) (by simp [runD, argsD, entE, exs, ex, evT, ev, evs, evo, evc, evi, bor, getO, getF, sndR, intR, Res.bind, onR, Fl.seq, fz, usT, us, ub, uss, uso, usc, usi, isiD, okB, D.tru, negD, cmpD, opD, idxD, slcD, biD, okF, endR, setE, bindT, itemsD, tb_fn, tb_fl, tb_gok, itemsW, m1T, m1D, lensetD, blR, tb_gl, tb_ar, tb_ki, tb_sub, tb_hot]) (by simpa using hs) ?_ (pairs_map (fun f : Fn => f.nm) (fun f => .int (f.ps.length : Nat)) fs) nd
    rw [compL_map (g := fun d => match d with | .tup [.str z, .tup ps, _] => .tup [.str z, .int (ps.length : Nat)] | _ => .non) fun d hd => ?_]
    · rw [List.map_map]
      congr 1
      exact List.map_congr_left fun f _ => by simp [Fn.d]
    · obtain ⟨f, hf2, rfl⟩ := List.mem_map.mp hd
      simp [dF, runD, argsD, entE, exs, ex, evT, ev, evs, evo, evc, evi, bor, getO, getF, sndR, intR, Res.bind, onR, Fl.seq, fz, usT, us, ub, uss, uso, usc, usi, isiD, okB, D.tru, negD, cmpD, opD, idxD, slcD, biD, okF, endR, setE, bindT, itemsD, tb_fn, tb_fl, tb_gok, itemsW, m1T, m1D, lensetD, blR, tb_gl, tb_ar, tb_ki, tb_sub, tb_hot, wipeE, noX, Fn.d, setEs]
  have hgen : ev (pg.tb (m + 2)) (.gen true (.one 5) [5] (.seq (.var 0)) (.callL "is_function" (.cons (.var 5) (.cons (.var 1) .nil)))) [some (false, .tup (fs.map Fn.d)), some (false, cntD (cnts fs)), none, none, none, none] = .ok (false, .bl (fs.all (fnB (cnts fs)))) := by
    have hall : ((fs.map Fn.d).all fun d => match d with | .tup [.str z, .tup ps, b] => (match strsOf ps with | some ps => fnB (cnts fs) ⟨z, ps, b⟩ | none => false) | _ => false) = fs.all (fnB (cnts fs)) := by
      rw [List.all_map]
      congr 1
      funext f
      simp [Fn.d, strsOf_map]
    rw [← hall]
    refine ev_all tb_gok (by simp [runD, argsD, entE, exs, ex, evT, ev, evs, evo, evc, evi, bor, getO, getF, sndR, intR, Res.bind, onR, Fl.seq, fz, usT, us, ub, uss, uso, usc, usi, isiD, okB, D.tru, negD, cmpD, opD, idxD, slcD, biD, okF, endR, setE, bindT, itemsD, tb_fn, tb_fl, tb_gok, itemsW, m1T, m1D, lensetD, blR, tb_gl, tb_ar, tb_ki, tb_sub, tb_hot]) fun d hd => ?_
    obtain ⟨f, hf2, rfl⟩ := List.mem_map.mp hd
    have := v_function (n := m + 1) H (by omega) (hf f hf2) (cnts fs)
    simp [gF, runD, argsD, entE, exs, ex, evT, ev, evs, evo, evc, evi, bor, getO, getF, sndR, intR, Res.bind, onR, Fl.seq, fz, usT, us, ub, uss, uso, usc, usi, isiD, okB, D.tru, negD, cmpD, opD, idxD, slcD, biD, okF, endR, setE, bindT, itemsD, tb_fn, tb_fl, tb_gok, itemsW, m1T, m1D, lensetD, blR, tb_gl, tb_ar, tb_ki, tb_sub, tb_hot, wipeE, noX, this]
    simp [Fn.d, strsOf_map]
  have t1 : evT (pg.tb (m + 2)) (.or (.not (.val (.var 0))) (.not (.val (.call "are_unlike" (.cons (.comp (.one 5) [5] (.seq (.var 0)) .nil (.idx (.var 5) (.lit (.int 0)))) .nil))))) [some (false, .tup (fs.map Fn.d)), none, none, none, none, none] = .ok (!(!fs.isEmpty && decide (fs.map (·.nm)).Nodup)) := by
    have a1 : evT (pg.tb (m + 2)) (.val (.var 0)) [some (false, .tup (fs.map Fn.d)), none, none, none, none, none] = .ok (!fs.isEmpty) := by
      cases fs <;> simp [runD, argsD, entE, exs, ex, evT, ev, evs, evo, evc, evi, bor, getO, getF, sndR, intR, Res.bind, onR, Fl.seq, fz, usT, us, ub, uss, uso, usc, usi, isiD, okB, D.tru, negD, cmpD, opD, idxD, slcD, biD, okF, endR, setE, bindT, itemsD, tb_fn, tb_fl, tb_gok, itemsW, m1T, m1D, lensetD, blR, tb_gl, tb_ar, tb_ki, tb_sub, tb_hot]
    have hc : ev (pg.tb (m + 2)) (.call "are_unlike" (.cons (.comp (.one 5) [5] (.seq (.var 0)) .nil (.idx (.var 5) (.lit (.int 0)))) .nil)) [some (false, .tup (fs.map Fn.d)), none, none, none, none, none] = .ok (false, .bl (decide (fs.map (·.nm)).Nodup)) := by
      rw [ev, evs, hcomp, evs]
      simp only [Res.bind]
      exact hun
    rw [Bool.not_and]
    exact te_or (te_not a1) fun _ => te_not (te_bl hc)
  have fin : ∀ {b : Bool}, b = goodB fs → endR (.rt false (.bl b)) = .ok (false, .bl (goodB fs)) := fun e => by rw [e]; rfl
  cases c1 : (!fs.isEmpty && decide (fs.map (·.nm)).Nodup) with
  | false =>
    rw [c1] at t1
    exact c_run (ρ := _) H.l_is_good (g_t t1 (s_rt (g_ret (x := (false, .bl false)) rfl))) (fin (by unfold goodB; rw [← Bool.and_assoc, c1]; rfl))
  | true =>
    rw [c1] at t1
    have nd : (fs.map (·.nm)).Nodup := by simpa using (Bool.and_eq_true_iff.mp c1).2
    exact c_run (ρ := _) H.l_is_good (g_fn t1 (g_set _ (hdc nd) (g_ret hgen))) (fin (by unfold goodB; rw [← Bool.and_assoc, c1]; rfl))
end

end Kv

namespace Kv
open PySem PySem.Spec PyProof.Rows L2 Hf
set_option autoImplicit false
theorem atI_ds {vs : List Val} {k : Nat} (h : k < vs.length) : atI (Val.ds vs) (k : Int) = some vs[k].d := by
  have h2 : k < (Val.ds vs).length := by rw [ds_len]; exact h
  rw [atI_nat h2]
  congr 1
  have : ∀ (xs : List D) (e : xs = vs.map Val.d) (q : k < xs.length), xs[k] = vs[k].d := by
    intro xs e q
    subst e
    simp
  exact this _ (ds_map vs) h2
theorem wtsI (xs : List Int) : Val.wts (xs.map Val.int) = xs.length := by
  induction xs with
  | nil => rfl
  | cons x r ih => simp only [List.map_cons, Val.wts, Val.wt, ih, List.length_cons]; omega
theorem dsI (xs : List Int) : Val.ds (xs.map Val.int) = xs.map D.int := by
  induction xs with
  | nil => rfl
  | cons x r ih => simp only [List.map_cons, Val.ds, Val.d, ih]
theorem isV_ints {xs : List Int} (h : ∀ x ∈ xs, -1000000000000000000 < x ∧ x < 1000000000000000000) (hl : xs.length ≤ 49) : (Val.tup (xs.map Val.int)).isV = true := by
  simp only [Val.isV, Bool.and_eq_true, decide_eq_true_eq, Val.ok, Val.wt, wtsI]
  refine ⟨oks_of fun v hv => ?_, by omega⟩
  obtain ⟨x, hx, rfl⟩ := List.mem_map.mp hv
  simpa [Val.ok] using h x hx
def vSome : List Val := [.int 0, .int 1, .int 2, .int 3, .int 5, .int (-1), .int (-4), .tup [], .tup [.int 1], .tup [.int 2, .int 0], .tup [.int 1, .int 2, .int 3], .tup [.tup [], .int 1], .tup [.tup [.int 1, .int 2], .tup [.int 3]], .tup [.int 4, .tup [.int 5, .tup [.int 6]]]]
theorem vSome_ok : ∀ v ∈ vSome, v.isV = true := by decide +kernel
def nextI (p : Int) : Int := (p * 48271 + 11) % 2147483647 * ((p * 48271 + 11) % 2147483647) % 2147483629
theorem nextI_lt (p : Int) : 0 ≤ nextI p ∧ nextI p < 2147483629 := ⟨Int.emod_nonneg _ (by decide), Int.emod_lt_of_pos _ (by decide)⟩
section
variable {pg : Pg} (H : HasC pg)
include H
theorem v_cell (ns : List Int) (k : Nat) : ∃ c : Int, ∀ n, callN pg (n + 1) "_law_cell_at" [.lst (ns.map D.int), .int k] = .ok (false, .int c) := by
  by_cases h : k < ns.length
  · refine ⟨ns[k], fun n => ?_⟩
    rw [cN H.l__law_cell_at]
    have h2 : k < (ns.map D.int).length := by simpa using h
    have h3 : (k : Int) < (ns.length : Int) := by omega
    have e := atI_nat h2
    simp only [List.getElem_map] at e
    simp [runD, argsD, entE, exs, ex, evT, ev, evs, evo, evc, evi, bor, getO, getF, sndR, intR, Res.bind, onR, Fl.seq, fz, usT, us, ub, uss, uso, usc, usi, isiD, okB, D.tru, negD, cmpD, opD, idxD, slcD, biD, okF, endR, setE, bindT, itemsD, tb_fn, tb_fl, tb_gok, itemsW, m1T, m1D, lensetD, blR, tb_gl, tb_ar, tb_ki, tb_sub, tb_hot, f__law_cell_at, c__law_cell_at, h3, e]
  · refine ⟨0, fun n => ?_⟩
    rw [cN H.l__law_cell_at]
    have h3 : ¬ (k : Int) < (ns.length : Int) := by omega
    simp [runD, argsD, entE, exs, ex, evT, ev, evs, evo, evc, evi, bor, getO, getF, sndR, intR, Res.bind, onR, Fl.seq, fz, usT, us, ub, uss, uso, usc, usi, isiD, okB, D.tru, negD, cmpD, opD, idxD, slcD, biD, okF, endR, setE, bindT, itemsD, tb_fn, tb_fl, tb_gok, itemsW, m1T, m1D, lensetD, blR, tb_gl, tb_ar, tb_ki, tb_sub, tb_hot, f__law_cell_at, c__law_cell_at, h3]
theorem v_next (n : Nat) (p : Int) : callN pg (n + 1) "_law_next" [.int p] = .ok (false, .int (nextI p)) := by
  rw [cN H.l__law_next]
  have h1 := Int.emod_nonneg (p * 48271 + 11) (b := 2147483647) (by decide)
  have h2 := Int.emod_lt_of_pos (p * 48271 + 11) (b := 2147483647) (by decide)
  have m : Hf.MulOk ((p * 48271 + 11) % 2147483647) ((p * 48271 + 11) % 2147483647) := .inl (by omega)
  have m2 : Hf.MulOk p 48271 := .inl ⟨by decide, by decide⟩
  simp [runD, argsD, entE, exs, ex, evT, ev, evs, evo, evc, evi, bor, getO, getF, sndR, intR, Res.bind, onR, Fl.seq, fz, usT, us, ub, uss, uso, usc, usi, isiD, okB, D.tru, negD, cmpD, opD, idxD, slcD, biD, okF, endR, setE, bindT, itemsD, tb_fn, tb_fl, tb_gok, itemsW, m1T, m1D, lensetD, blR, tb_gl, tb_ar, tb_ki, tb_sub, tb_hot, f__law_next, c__law_next, m, m2, nextI]
theorem v_lvalue (c : Int) : ∃ v : Val, v.isV = true ∧ ∀ n, callN pg (n + 1) "_law_value" [.int c] = .ok (false, v.d) := by
  have z := sz 14
  have z0 := sz 0
  have z1 := sz 1
  have z2 := sz 2
  have z3 := sz 3
  have l16 := lg 16
  have l9 := lg 9
  by_cases h14 : c % 16 = 14
  · refine ⟨.int (c / 16 % 1999999999999999999 - 1000000000000000000 + 1), ?_, fun n => ?_⟩
    · have := Int.emod_nonneg (c / 16) (b := 1999999999999999999) (by decide)
      have := Int.emod_lt_of_pos (c / 16) (b := 1999999999999999999) (by decide)
      have : (Val.int (c / 16 % 1999999999999999999 - 1000000000000000000 + 1)).wt = 1 := by simp [Val.wt]
      simp only [Val.isV, Val.ok, this, Bool.and_eq_true, decide_eq_true_eq]
      omega
    · rw [cN H.l__law_value]
      simp [runD, argsD, entE, exs, ex, evT, ev, evs, evo, evc, evi, bor, getO, getF, sndR, intR, Res.bind, onR, Fl.seq, fz, usT, us, ub, uss, uso, usc, usi, isiD, okB, D.tru, negD, cmpD, opD, idxD, slcD, biD, okF, endR, setE, bindT, itemsD, tb_fn, tb_fl, tb_gok, itemsW, m1T, m1D, lensetD, blR, tb_gl, tb_ar, tb_ki, tb_sub, tb_hot, f__law_value, c__law_value, z, z0, z1, z2, z3, l16, eqI, h14, Hf.MulOk, Val.d]
  by_cases h15 : c % 16 = 15
  · obtain ⟨m, hm⟩ : ∃ m : Nat, c / 16 % 9 = m := ⟨(c / 16 % 9).toNat, by omega⟩
    have hm9 : m < 9 := by omega
    refine ⟨.tup (((List.range m).map fun (k : Nat) => c / 16 % ((k : Int) + 2)).map Val.int), isV_ints (fun x hx => ?_) (by simp; omega), fun n => ?_⟩
    · obtain ⟨k, hk, rfl⟩ := List.mem_map.mp hx
      have := List.mem_range.mp hk
      have := Int.emod_nonneg (c / 16) (b := (k : Int) + 2) (by omega)
      have := Int.emod_lt_of_pos (c / 16) (b := (k : Int) + 2) (by omega)
      omega
    · rw [cN H.l__law_value]
      have r := rng0 m (by omega)
      have hz : m ≤ sizeLine := by rw [sizeLine_eq]; omega
      simp [runD, argsD, entE, exs, ex, evT, ev, evs, evo, evc, evi, bor, getO, getF, sndR, intR, Res.bind, onR, Fl.seq, fz, usT, us, ub, uss, uso, usc, usi, isiD, okB, D.tru, negD, cmpD, opD, idxD, slcD, biD, okF, endR, setE, bindT, itemsD, tb_fn, tb_fl, tb_gok, itemsW, m1T, m1D, lensetD, blR, tb_gl, tb_ar, tb_ki, tb_sub, tb_hot, f__law_value, c__law_value, z, z0, z1, z2, z3, l16, eqI, h14, h15, Hf.MulOk, Val.d, hm, r, hz]
      rw [compL_map (g := fun d => match d with | .int k => .int (c / 16 % (k + 2)) | d => d)]
      · simp only [dsI]
        simp [runD, argsD, entE, exs, ex, evT, ev, evs, evo, evc, evi, bor, getO, getF, sndR, intR, Res.bind, onR, Fl.seq, fz, usT, us, ub, uss, uso, usc, usi, isiD, okB, D.tru, negD, cmpD, opD, idxD, slcD, biD, okF, endR, setE, bindT, itemsD, tb_fn, tb_fl, tb_gok, itemsW, m1T, m1D, lensetD, blR, tb_gl, tb_ar, tb_ki, tb_sub, tb_hot]
        rw [ds_map, List.map_map]
        exact List.map_congr_left fun _ _ => rfl
      · intro d hd
        obtain ⟨k, hk, rfl⟩ := List.mem_map.mp hd
        have : (0 : Int) < (k : Int) + 2 := by omega
        simp [runD, argsD, entE, exs, ex, evT, ev, evs, evo, evc, evi, bor, getO, getF, sndR, intR, Res.bind, onR, Fl.seq, fz, usT, us, ub, uss, uso, usc, usi, isiD, okB, D.tru, negD, cmpD, opD, idxD, slcD, biD, okF, endR, setE, bindT, itemsD, tb_fn, tb_fl, tb_gok, itemsW, m1T, m1D, lensetD, blR, tb_gl, tb_ar, tb_ki, tb_sub, tb_hot, wipeE, noX, l16, this]
  · obtain ⟨k, hk⟩ : ∃ k : Nat, c % 16 = k := ⟨(c % 16).toNat, by omega⟩
    have hk2 : k < vSome.length := by show k < 14; omega
    refine ⟨vSome[k], vSome_ok _ (List.getElem_mem _), fun n => ?_⟩
    rw [cN H.l__law_value]
    have e := atI_ds hk2
    rw [← hk] at e
    simp only [vSome, Val.ds, Val.d] at e
    simp [runD, argsD, entE, exs, ex, evT, ev, evs, evo, evc, evi, bor, getO, getF, sndR, intR, Res.bind, onR, Fl.seq, fz, usT, us, ub, uss, uso, usc, usi, isiD, okB, D.tru, negD, cmpD, opD, idxD, slcD, biD, okF, endR, setE, bindT, itemsD, tb_fn, tb_fl, tb_gok, itemsW, m1T, m1D, lensetD, blR, tb_gl, tb_ar, tb_ki, tb_sub, tb_hot, f__law_value, c__law_value, z, z0, z1, z2, z3, l16, eqI, h14, h15]
    rw [e]
    simp only [vSome]
end

end Kv

namespace Kv
open PySem PySem.Spec PyProof.Rows L2 Hf
set_option autoImplicit false
def c__law_names : Sts :=
    (.cons (.ifs (.val (.cmp .Eq (.bin .Mod (.var 0) (.lit (.int 9))) (.lit (.int 8)))) (.cons (.set 3 (.lst (.cons (.lit (.str "ifs")) (.cons (.lit (.str "listx")) (.cons (.lit (.str "plus2")) (.cons (.lit (.str "refuses")) (.cons (.lit (.str "rested")) (.cons (.lit (.str "downs")) (.cons (.lit (.str "same1")) (.cons (.lit (.str "joins")) (.cons (.lit (.str "overs")) (.cons (.lit (.str "firsts")) .nil))))))))))))
    (.cons (.set 3 (.bin .Add (.var 3) (.lst (.cons (.lit (.str "emptyx")) (.cons (.lit (.str "a9")) .nil)))))
    (.cons (.ret (.comp (.one 5) [5] (.rng1 (.lit (.int 12))) .nil (.idx (.var 3) (.bin .Mod (.bin .Add (.bin .FloorDiv (.var 0) (.lit (.int 9))) (.var 5)) (.lit (.int 12))))))
    .nil))) .nil)
    (.cons (.set 1 (.bin .Add (.lit (.int 1)) (.bin .Mod (.var 0) (.lit (.int 8)))))
    (.cons (.set 2 (.bin .Mod (.bin .FloorDiv (.var 0) (.lit (.int 8))) (.var 1)))
    (.cons (.set 3 (.lit (.str "abcdefghijklmnopqrstuvwxyz0123456789")))
    (.cons (.set 4 (.lst .nil))
    (.cons (.for_ (.one 5) (.rng1 (.lit (.int 12))) (.cons (.set 6 (.idx (.var 3) (.bin .Mod (.bin .Add (.bin .FloorDiv (.var 0) (.lit (.int 64))) (.var 5)) (.idx (.lst (.cons (.lit (.int 26)) (.cons (.lit (.int 36)) .nil))) (.bi .int (.cmp .Gt (.var 2) (.lit (.int 0))))))))
    (.cons (.app 4 (.bin .Add (.bin .Add (.bin .Mult (.lit (.str "m")) (.var 2)) (.var 6)) (.bin .Mult (.lit (.str "m")) (.bin .Sub (.bin .Sub (.var 1) (.lit (.int 1))) (.var 2)))))
    .nil)))
    (.cons (.ret (.var 4))
    .nil)))))))
def c__law_tame : Sts :=
    (.cons (.set 3 (.bin .Mod (.bin .FloorDiv (.var 0) (.lit (.int 5))) (.lit (.int 8))))
    (.cons (.set 4 (.call "_law_next" (.cons (.var 0) .nil)))
    (.cons (.ifs (.or (.val (.cmp .Eq (.var 1) (.lst .nil))) (.val (.cmp .Eq (.var 3) (.lit (.int 0))))) (.cons (.ret (.tup (.cons (.lit (.str "value")) (.cons (.call "_law_few" (.cons (.var 4) (.cons (.bin .Mod (.bi .len (.var 2)) (.lit (.int 3))) .nil))) .nil))))
    .nil) .nil)
    (.cons (.set 5 (.tup (.cons (.lit (.str "name")) (.cons (.idx (.var 1) (.bin .Mod (.var 4) (.bi .len (.var 1)))) .nil))))
    (.cons (.ifs (.val (.cmp .Lt (.var 3) (.lit (.int 3)))) (.cons (.ret (.var 5))
    .nil) .nil)
    (.cons (.set 6 (.idx (.lst (.cons (.lit (.str "down")) (.cons (.lit (.str "first")) (.cons (.lit (.str "rest")) (.cons (.lit (.str "rest")) (.cons (.lit (.str "down")) .nil)))))) (.bin .Sub (.var 3) (.lit (.int 3)))))
    (.cons (.ifs (.and (.val (.cmp .Eq (.var 3) (.lit (.int 7)))) (.val (.cmp .Eq (.bin .Mod (.bin .FloorDiv (.var 4) (.lit (.int 7))) (.lit (.int 3))) (.lit (.int 0))))) (.cons (.ret (.tup (.cons (.lit (.str "do")) (.cons (.lit (.str "rest")) (.cons (.tup (.cons (.tup (.cons (.lit (.str "do")) (.cons (.lit (.str "rest")) (.cons (.tup (.cons (.var 5) .nil)) .nil)))) .nil)) .nil)))))
    .nil) .nil)
    (.cons (.ret (.tup (.cons (.lit (.str "do")) (.cons (.var 6) (.cons (.tup (.cons (.var 5) .nil)) .nil)))))
    .nil))))))))
def c__law_parts : Sts :=
    (.cons (.set 6 (.lst .nil))
    (.cons (.for_ (.one 7) (.rng1 (.var 1)) (.cons (.app 6 (.call "_law_form" (.cons (.call "_law_next" (.cons (.bin .Add (.var 0) (.bin .Mult (.lit (.int 7919)) (.var 7))) .nil)) (.cons (.var 2) (.cons (.var 3) (.cons (.var 4) (.cons (.var 5) .nil)))))))
    .nil))
    (.cons (.ret (.bi .tuple (.var 6)))
    .nil)))
def c__law_call : Sts :=
    (.cons (.set 5 (.idx (.var 4) (.bin .Mod (.var 0) (.bi .len (.var 4)))))
    (.cons (.set 6 (.lst .nil))
    (.cons (.for_ (.one 7) (.rng1 (.bi .len (.idx (.var 5) (.lit (.int 1))))) (.cons (.set 8 (.call "_law_next" (.cons (.bin .Add (.var 0) (.bin .Mult (.lit (.int 7919)) (.var 7))) .nil)))
    (.cons (.ifs (.val (.idx (.idx (.var 5) (.lit (.int 2))) (.var 7))) (.cons (.app 6 (.call "_law_tame" (.cons (.var 8) (.cons (.var 3) (.cons (.var 4) .nil)))))
    .nil) (.cons (.app 6 (.call "_law_form" (.cons (.var 8) (.cons (.var 1) (.cons (.var 2) (.cons (.var 3) (.cons (.var 4) .nil)))))))
    .nil))
    .nil)))
    (.cons (.ret (.tup (.cons (.lit (.str "call")) (.cons (.idx (.var 5) (.lit (.int 0))) (.cons (.bi .tuple (.var 6)) .nil)))))
    .nil))))
def c__law_do : Sts :=
    (.cons (.set 5 (.lst (.cons (.lit (.str "plus")) (.cons (.lit (.str "minus")) (.cons (.lit (.str "times")) (.cons (.lit (.str "over")) (.cons (.lit (.str "less")) (.cons (.lit (.str "same")) (.cons (.lit (.str "join")) (.cons (.lit (.str "first")) (.cons (.lit (.str "rest")) (.cons (.lit (.str "empty")) (.cons (.lit (.str "down")) (.cons (.lit (.str "list")) .nil))))))))))))))
    (.cons (.set 5 (.idx (.var 5) (.bin .Mod (.var 0) (.lit (.int 12)))))
    (.cons (.set 6 (.lit (.int 2)))
    (.cons (.ifs (.val (.cmp .In (.var 5) (.tup (.cons (.lit (.str "first")) (.cons (.lit (.str "rest")) (.cons (.lit (.str "empty")) (.cons (.lit (.str "down")) .nil))))))) (.cons (.set 6 (.lit (.int 1)))
    .nil) .nil)
    (.cons (.ifs (.val (.cmp .Eq (.var 5) (.lit (.str "list")))) (.cons (.set 6 (.idx (.lst (.cons (.lit (.int 0)) (.cons (.lit (.int 1)) (.cons (.lit (.int 2)) (.cons (.lit (.int 3)) (.cons (.lit (.int 8)) (.cons (.lit (.int 5)) (.cons (.lit (.int 1)) (.cons (.lit (.int 2)) .nil))))))))) (.bin .Mod (.bin .FloorDiv (.var 0) (.lit (.int 12))) (.lit (.int 8)))))
    .nil) .nil)
    (.cons (.ifs (.val (.cmp .Gt (.var 6) (.lit (.int 3)))) (.cons (.set 1 (.lit (.int 0)))
    .nil) .nil)
    (.cons (.ret (.tup (.cons (.lit (.str "do")) (.cons (.var 5) (.cons (.call "_law_parts" (.cons (.call "_law_next" (.cons (.var 0) .nil)) (.cons (.var 6) (.cons (.var 1) (.cons (.var 2) (.cons (.var 3) (.cons (.var 4) .nil))))))) .nil)))))
    .nil)))))))
def c__law_form : Sts :=
    (.cons (.set 5 (.bin .Mod (.bin .FloorDiv (.var 0) (.lit (.int 3))) (.lit (.int 13))))
    (.cons (.set 6 (.call "_law_next" (.cons (.var 0) .nil)))
    (.cons (.ifs (.or (.val (.cmp .Eq (.var 1) (.lit (.int 0)))) (.val (.cmp .Lt (.var 5) (.lit (.int 3))))) (.cons (.ifs (.and (.val (.cmp .NotEq (.var 2) (.lst .nil))) (.val (.cmp .Gt (.bin .Mod (.var 6) (.lit (.int 4))) (.lit (.int 0))))) (.cons (.ret (.tup (.cons (.lit (.str "name")) (.cons (.idx (.var 2) (.bin .Mod (.bin .FloorDiv (.var 6) (.lit (.int 4))) (.bi .len (.var 2)))) .nil))))
    .nil) .nil)
    (.cons (.ret (.tup (.cons (.lit (.str "value")) (.cons (.call "_law_value" (.cons (.bin .FloorDiv (.var 6) (.lit (.int 4))) .nil)) .nil))))
    .nil)) .nil)
    (.cons (.ifs (.val (.cmp .Lt (.var 5) (.lit (.int 6)))) (.cons (.ret (.bin .Add (.tup (.cons (.lit (.str "if")) .nil)) (.call "_law_parts" (.cons (.var 6) (.cons (.lit (.int 3)) (.cons (.bin .Sub (.var 1) (.lit (.int 1))) (.cons (.var 2) (.cons (.var 3) (.cons (.var 4) .nil)))))))))
    .nil) .nil)
    (.cons (.ifs (.val (.cmp .Lt (.var 5) (.lit (.int 9)))) (.cons (.ret (.call "_law_do" (.cons (.var 6) (.cons (.bin .Sub (.var 1) (.lit (.int 1))) (.cons (.var 2) (.cons (.var 3) (.cons (.var 4) .nil)))))))
    .nil) .nil)
    (.cons (.ifs (.val (.cmp .Lt (.var 5) (.lit (.int 12)))) (.cons (.ret (.call "_law_call" (.cons (.var 6) (.cons (.bin .Sub (.var 1) (.lit (.int 1))) (.cons (.var 2) (.cons (.var 3) (.cons (.var 4) .nil)))))))
    .nil) .nil)
    (.cons (.ret (.tup (.cons (.lit (.str "refuse")) (.cons (.idx (.lst (.cons (.lit (.str "NoNumber")) (.cons (.lit (.str "NoList")) (.cons (.lit (.str "NoFirst")) (.cons (.lit (.str "NoDown")) (.cons (.lit (.str "ByNought")) (.cons (.lit (.str "TooGreat")) .nil))))))) (.bin .Mod (.var 6) (.lit (.int 6)))) .nil))))
    .nil)))))))
def c__law_heads : Sts :=
    (.cons (.set 1 (.call "_law_names" (.cons (.call "_law_cell_at" (.cons (.var 0) (.cons (.lit (.int 0)) .nil))) .nil)))
    (.cons (.set 2 (.lst .nil))
    (.cons (.for_ (.one 3) (.rng1 (.bin .Add (.lit (.int 1)) (.bin .Mod (.call "_law_cell_at" (.cons (.var 0) (.cons (.lit (.int 1)) .nil))) (.lit (.int 4))))) (.cons (.set 4 (.call "_law_cell_at" (.cons (.var 0) (.cons (.bin .Add (.lit (.int 2)) (.var 3)) .nil))))
    (.cons (.set 5 (.idx (.lst (.cons (.lit (.int 1)) (.cons (.lit (.int 2)) (.cons (.lit (.int 3)) (.cons (.lit (.int 2)) (.cons (.lit (.int 0)) (.cons (.lit (.int 6)) (.cons (.lit (.int 3)) .nil)))))))) (.bin .Mod (.var 4) (.lit (.int 7)))))
    (.cons (.set 6 (.lst .nil))
    (.cons (.for_ (.one 7) (.rng1 (.var 5)) (.cons (.set 8 (.cmp .Eq (.bin .Mod (.bin .FloorDiv (.var 4) (.idx (.lst (.cons (.lit (.int 7)) (.cons (.lit (.int 14)) (.cons (.lit (.int 28)) (.cons (.lit (.int 56)) (.cons (.lit (.int 112)) (.cons (.lit (.int 224)) .nil))))))) (.var 7))) (.lit (.int 2))) (.lit (.int 1))))
    (.cons (.app 6 (.and (.var 8) (.cmp .Lt (.m1 .count (.var 6) (.lit (.bl true))) (.lit (.int 2)))))
    .nil)))
    (.cons (.app 2 (.tup (.cons (.idx (.var 1) (.var 3)) (.cons (.bi .tuple (.comp (.one 7) [7] (.rng1 (.var 5)) .nil (.idx (.var 1) (.bin .Mod (.bin .Add (.bin .Add (.lit (.int 2)) (.var 3)) (.var 7)) (.lit (.int 12)))))) (.cons (.bi .tuple (.var 6)) .nil)))))
    .nil))))))
    (.cons (.ret (.var 2))
    .nil))))
def c__law_program : Sts :=
    (.cons (.set 2 (.lst .nil))
    (.cons (.for_ (.one 3) (.rng1 (.bi .len (.var 1))) (.cons (.sets (.tup [7, 8, 9]) (.idx (.var 1) (.var 3)))
    (.cons (.set 4 (.comp (.one 12) [12] (.rng1 (.bi .len (.var 8))) (.one (.val (.idx (.var 9) (.var 12)))) (.idx (.var 8) (.var 12))))
    (.cons (.set 5 (.call "_law_next" (.cons (.bin .Add (.bin .Mult (.call "_law_cell_at" (.cons (.var 0) (.cons (.bin .Add (.lit (.int 6)) (.var 3)) .nil))) (.lit (.int 977))) (.var 3)) .nil)))
    (.cons (.set 6 (.call "_law_form" (.cons (.var 5) (.cons (.bin .Add (.lit (.int 1)) (.bin .Mod (.bin .FloorDiv (.call "_law_cell_at" (.cons (.var 0) (.cons (.lit (.int 10)) .nil))) (.bin .Add (.var 3) (.lit (.int 1)))) (.lit (.int 3)))) (.cons (.bi .list (.var 8)) (.cons (.var 4) (.cons (.var 1) .nil)))))))
    (.cons (.ifs (.and (.val (.cmp .Gt (.bin .Mod (.bin .FloorDiv (.call "_law_cell_at" (.cons (.var 0) (.cons (.lit (.int 11)) .nil))) (.bin .Add (.var 3) (.lit (.int 1)))) (.lit (.int 3))) (.lit (.int 0)))) (.val (.cmp .Gt (.bi .len (.var 8)) (.lit (.int 0))))) (.cons (.set 10 (.call "_law_next" (.cons (.bin .Add (.var 5) (.lit (.int 31))) .nil)))
    (.cons (.set 11 (.tup (.cons (.lit (.str "name")) (.cons (.idx (.var 8) (.bin .Mod (.var 10) (.bi .len (.var 8)))) .nil))))
    (.cons (.ifs (.val (.cmp .Eq (.bin .Mod (.bin .FloorDiv (.var 10) (.lit (.int 8))) (.lit (.int 2))) (.lit (.int 1)))) (.cons (.set 11 (.tup (.cons (.lit (.str "do")) (.cons (.lit (.str "empty")) (.cons (.tup (.cons (.var 11) .nil)) .nil)))))
    .nil) .nil)
    (.cons (.set 6 (.tup (.cons (.lit (.str "if")) (.cons (.var 11) (.cons (.var 6) (.cons (.call "_law_form" (.cons (.var 10) (.cons (.lit (.int 2)) (.cons (.bi .list (.var 8)) (.cons (.var 4) (.cons (.var 1) .nil)))))) .nil))))))
    .nil)))) .nil)
    (.cons (.app 2 (.tup (.cons (.var 7) (.cons (.var 8) (.cons (.var 6) .nil)))))
    .nil)))))))
    (.cons (.ret (.bi .tuple (.var 2)))
    .nil)))
def c__law_few : Sts :=
    (.cons (.set 2 (.lst (.cons (.lit (.int 0)) (.cons (.lit (.int 1)) (.cons (.lit (.int 2)) (.cons (.tup .nil) (.cons (.tup (.cons (.lit (.int 1)) .nil)) (.cons (.tup (.cons (.lit (.int 2)) (.cons (.lit (.int 0)) .nil))) (.cons (.tup (.cons (.tup .nil) (.cons (.lit (.int 1)) .nil))) (.cons (.lit (.int 3)) .nil))))))))))
    (.cons (.ifs (.val (.cmp .Eq (.var 1) (.lit (.int 1)))) (.cons (.set 2 (.lst (.cons (.lit (.int 3)) (.cons (.neg (.lit (.int 1))) (.cons (.tup (.cons (.lit (.int 1)) (.cons (.lit (.int 2)) .nil))) (.cons (.lit (.int 0)) .nil))))))
    .nil) .nil)
    (.cons (.ifs (.val (.cmp .Eq (.var 1) (.lit (.int 2)))) (.cons (.set 2 (.lst (.cons (.tup (.cons (.lit (.int 0)) (.cons (.tup (.cons (.lit (.int 1)) (.cons (.tup (.cons (.lit (.int 2)) .nil)) .nil))) .nil))) (.cons (.neg (.lit (.int 4))) (.cons (.lit (.int 2)) (.cons (.tup .nil) .nil))))))
    .nil) .nil)
    (.cons (.ret (.idx (.var 2) (.bin .Mod (.var 0) (.bi .len (.var 2)))))
    .nil))))
structure HasN (pg : Pg) : Prop where
  l__law_names : ∃ N : List Str, N.length = 7 ∧ pg.fs.lookup ("_law_names" : Str) = some ⟨N, 1, c__law_names, false⟩
  l__law_tame : ∃ N : List Str, N.length = 7 ∧ pg.fs.lookup ("_law_tame" : Str) = some ⟨N, 3, c__law_tame, false⟩
  l__law_parts : ∃ N : List Str, N.length = 8 ∧ pg.fs.lookup ("_law_parts" : Str) = some ⟨N, 6, c__law_parts, false⟩
  l__law_call : ∃ N : List Str, N.length = 9 ∧ pg.fs.lookup ("_law_call" : Str) = some ⟨N, 5, c__law_call, false⟩
  l__law_do : ∃ N : List Str, N.length = 7 ∧ pg.fs.lookup ("_law_do" : Str) = some ⟨N, 5, c__law_do, false⟩
  l__law_form : ∃ N : List Str, N.length = 7 ∧ pg.fs.lookup ("_law_form" : Str) = some ⟨N, 5, c__law_form, false⟩
  l__law_heads : ∃ N : List Str, N.length = 9 ∧ pg.fs.lookup ("_law_heads" : Str) = some ⟨N, 1, c__law_heads, false⟩
  l__law_program : ∃ N : List Str, N.length = 13 ∧ pg.fs.lookup ("_law_program" : Str) = some ⟨N, 2, c__law_program, false⟩
  l__law_few : ∃ N : List Str, N.length = 3 ∧ pg.fs.lookup ("_law_few" : Str) = some ⟨N, 2, c__law_few, false⟩
/-! ### expressions -/
inductive E where
  | val (v : Val) | nm (z : Str) | ref (w : Str)
  | iff (a b c : E)
  | doo (o : Str) (xs : List E)
  | call (f : Str) (xs : List E)
mutual
def E.d : E → D
  | .val v => .tup [.str "value", v.d]
  | .nm z => .tup [.str "name", .str z]
  | .ref w => .tup [.str "refuse", .str w]
  | .iff a b c => .tup [.str "if", a.d, b.d, c.d]
  | .doo o xs => .tup [.str "do", .str o, .tup (E.ds xs)]
  | .call f xs => .tup [.str "call", .str f, .tup (E.ds xs)]
def E.ds : List E → List D
  | [] => []
  | e :: r => e.d :: E.ds r
end
theorem E.ds_map (xs : List E) : E.ds xs = xs.map E.d := by
  induction xs with
  | nil => rfl
  | cons e r ih => simp [E.ds, ih]
/-- a function's head: its name, its parameters, which of them are known -/
structure Hh where
  nm : Str
  ps : List Str
  kn : List Bool
def Hh.d (h : Hh) : D := .tup [.str h.nm, .tup (h.ps.map .str), .tup (h.kn.map .bl)]
/-- a tame part -/
inductive Tame (kn : List Str) : E → Prop
  | val (v : Val) (h : v.isV = true) : Tame kn (.val v)
  | nm (z : Str) (h : z ∈ kn) : Tame kn (.nm z)
  | one (o : Str) (ho : o = "down" ∨ o = "first" ∨ o = "rest") (z : Str) (h : z ∈ kn) : Tame kn (.doo o [.nm z])
  | two (z : Str) (h : z ∈ kn) : Tame kn (.doo "rest" [.doo "rest" [.nm z]])
/-- a good expression, at most d + 3 deep -/
inductive Ge (ps kn : List Str) (hs : List Hh) : Nat → E → Prop
  | val (d : Nat) (v : Val) (h : v.isV = true) : Ge ps kn hs d (.val v)
  | nm (d : Nat) (z : Str) (h : z ∈ ps) : Ge ps kn hs d (.nm z)
  | ref (d : Nat) (w : Str) (h : w ∈ WD6) : Ge ps kn hs d (.ref w)
  | iff (d : Nat) (a b c : E) (ha : Ge ps kn hs d a) (hb : Ge ps kn hs d b) (hc : Ge ps kn hs d c) : Ge ps kn hs (d + 1) (.iff a b c)
  | doo (d : Nat) (o : Str) (xs : List E) (ho : isOp o = true) (hn : opB o xs.length = true) (h : ∀ e ∈ xs, Ge ps kn hs d e) (h3 : 3 < xs.length → ∀ e ∈ xs, Ge ps kn hs 0 e) : Ge ps kn hs (d + 1) (.doo o xs)
  | call (d : Nat) (f : Hh) (xs : List E) (hf : f ∈ hs) (hn : xs.length = f.ps.length) (h1 : ∀ (i : Nat) (e : E), xs[i]? = some e → f.kn[i]? = some true → Tame kn e) (h2 : ∀ (i : Nat) (e : E), xs[i]? = some e → f.kn[i]? ≠ some true → Ge ps kn hs d e) : Ge ps kn hs (d + 1) (.call f.nm xs)
theorem Ge.up {ps kn : List Str} {hs : List Hh} {d : Nat} {e : E} (h : Ge ps kn hs d e) : ∀ {d' : Nat}, d ≤ d' → Ge ps kn hs d' e := by
  induction h with
  | val d v h => exact fun _ => .val _ v h
  | nm d z h => exact fun _ => .nm _ z h
  | ref d w h => exact fun _ => .ref _ w h
  | iff d a b c _ _ _ ia ib ic =>
    intro d' hd
    obtain ⟨k, rfl⟩ : ∃ k, d' = k + 1 := ⟨d' - 1, by omega⟩
    exact .iff k a b c (ia (by omega)) (ib (by omega)) (ic (by omega))
  | doo d o xs ho hn _ h3 ih ih3 =>
    intro d' hd
    obtain ⟨k, rfl⟩ : ∃ k, d' = k + 1 := ⟨d' - 1, by omega⟩
    exact .doo k o xs ho hn (fun e he => ih e he (by omega)) h3
  | call d f xs hf hn h1 _ ih =>
    intro d' hd
    obtain ⟨k, rfl⟩ : ∃ k, d' = k + 1 := ⟨d' - 1, by omega⟩
    exact .call k f xs hf hn h1 fun i e hx hk => ih i e hx hk (by omega)
def few0 : List Val := [.int 0, .int 1, .int 2, .tup [], .tup [.int 1], .tup [.int 2, .int 0], .tup [.tup [], .int 1], .int 3]
def few1 : List Val := [.int 3, .int (-1), .tup [.int 1, .int 2], .int 0]
def few2 : List Val := [.tup [.int 0, .tup [.int 1, .tup [.int 2]]], .int (-4), .int 2, .tup []]
structure HasG (pg : Pg) : Prop extends HasN pg, HasC pg, HasV0 pg
section
variable {pg : Pg} (H : HasG pg)
include H
theorem v_few {n : Nat} (p w : Int) : ∃ v : Val, v ∈ few0 ++ few1 ++ few2 ∧ callN pg (n + 1) "_law_few" [.int p, .int w] = .ok (false, v.d) := by
  have key : ∀ (vs : List Val) (N : Int), vs.length = N → 0 < N → ∃ v : Val, v ∈ vs ∧ atI (Val.ds vs) (p % N) = some v.d := fun vs N h h0 => by
    have h1 := Int.emod_nonneg p (b := N) (by omega)
    have h2 := Int.emod_lt_of_pos p (b := N) h0
    obtain ⟨k, hk⟩ : ∃ k : Nat, p % N = k := ⟨(p % N).toNat, by omega⟩
    have hk2 : k < vs.length := by omega
    refine ⟨vs[k], List.getElem_mem _, ?_⟩
    rw [hk]
    exact atI_ds hk2
  have z4 := sz 4
  have z8 := sz 8
  have z2 := sz 2
  have z1 := sz 1
  have z0 := sz 0
  by_cases h1 : w = 1
  · obtain ⟨v, hv, e⟩ := key few1 4 rfl (by decide)
    refine ⟨v, by simp [hv], c_runN [some (false, .int p), some (false, .int w), none] H.l__law_few (R := .rt false v.d) ?_ rfl⟩
    simp only [few1, Val.ds, Val.d] at e
    simp [runD, argsD, entE, exs, ex, evT, ev, evs, evo, evc, evi, bor, getO, getF, sndR, intR, Res.bind, onR, Fl.seq, fz, usT, us, ub, uss, uso, usc, usi, isiD, okB, D.tru, negD, cmpD, opD, idxD, slcD, biD, okF, endR, setE, bindT, itemsD, tb_fn, tb_fl, tb_gok, itemsW, m1T, m1D, lensetD, blR, tb_gl, tb_ar, tb_ki, tb_sub, tb_hot, c__law_few, eqI, h1, z4, z8, z2, z1, z0, e]
  · by_cases h2 : w = 2
    · obtain ⟨v, hv, e⟩ := key few2 4 rfl (by decide)
      refine ⟨v, by simp [hv], c_runN [some (false, .int p), some (false, .int w), none] H.l__law_few (R := .rt false v.d) ?_ rfl⟩
      simp only [few2, Val.ds, Val.d] at e
      simp [runD, argsD, entE, exs, ex, evT, ev, evs, evo, evc, evi, bor, getO, getF, sndR, intR, Res.bind, onR, Fl.seq, fz, usT, us, ub, uss, uso, usc, usi, isiD, okB, D.tru, negD, cmpD, opD, idxD, slcD, biD, okF, endR, setE, bindT, itemsD, tb_fn, tb_fl, tb_gok, itemsW, m1T, m1D, lensetD, blR, tb_gl, tb_ar, tb_ki, tb_sub, tb_hot, c__law_few, eqI, h1, h2, z4, z8, z2, z1, z0, e]
    · obtain ⟨v, hv, e⟩ := key few0 8 rfl (by decide)
      refine ⟨v, by simp [hv], c_runN [some (false, .int p), some (false, .int w), none] H.l__law_few (R := .rt false v.d) ?_ rfl⟩
      simp only [few0, Val.ds, Val.d] at e
      simp [runD, argsD, entE, exs, ex, evT, ev, evs, evo, evc, evi, bor, getO, getF, sndR, intR, Res.bind, onR, Fl.seq, fz, usT, us, ub, uss, uso, usc, usi, isiD, okB, D.tru, negD, cmpD, opD, idxD, slcD, biD, okF, endR, setE, bindT, itemsD, tb_fn, tb_fl, tb_gok, itemsW, m1T, m1D, lensetD, blR, tb_gl, tb_ar, tb_ki, tb_sub, tb_hot, c__law_few, eqI, h1, h2, z4, z8, z2, z1, z0, e]
theorem at_strs {zs : List Str} (h : zs ≠ []) (p : Int) : ∃ z ∈ zs, atI (zs.map D.str) (p % (zs.length : Int)) = some (.str z) := by
  have hl : 0 < zs.length := List.length_pos_iff.mpr h
  have h1 := Int.emod_nonneg p (b := (zs.length : Int)) (by omega)
  have h2 := Int.emod_lt_of_pos p (b := (zs.length : Int)) (by omega)
  obtain ⟨k, hk⟩ : ∃ k : Nat, p % (zs.length : Int) = k := ⟨(p % (zs.length : Int)).toNat, by omega⟩
  have hk2 : k < zs.length := by omega
  refine ⟨zs[k], List.getElem_mem _, ?_⟩
  rw [hk, atI_nat (by simpa using hk2)]
  simp
theorem eq_nilL {xs : List Str} (h : ∀ z ∈ xs, PyData.strOk z = true) : D.eqD (.lst (xs.map .str)) (.lst []) = .ok (xs.isEmpty) := by
  cases xs with
  | nil => rfl
  | cons z r =>
    have h1 := pls_strs (z :: r)
    have h2 := lay_strs (z :: r) h
    rw [D.eqD, if_pos ⟨h1, rfl, by simpa [D.toP, PyData.canLay0] using h2, rfl, by simp [D.toP, D.toPs, PyData.depth, PyData.depthAll]⟩]
    simp [D.toP, D.toPs, PyData.eqv, PyData.eqvAll]
theorem few_isV : ∀ v ∈ few0 ++ few1 ++ few2, v.isV = true := by decide +kernel
theorem v_tame {n : Nat} (p : Int) {kn : List Str} (hk : ∀ z ∈ kn, PyData.strOk z = true) (hs : List Hh) : ∃ e : E, Tame kn e ∧ callN pg (n + 2) "_law_tame" [.int p, .lst (kn.map .str), .lst (hs.map Hh.d)] = .ok (false, e.d) := by
  have z2 := sz 2
  have z1 := sz 1
  have z0 := sz 0
  have z3 := sz 3
  have z5 := sz 5
  have l5 := lg 5
  have l7 := lg 7
  have hn := v_next (n := n) H.toHasC p
  have w0 := Int.emod_nonneg (p / 5) (b := 8) (by decide)
  have w1 := Int.emod_lt_of_pos (p / 5) (b := 8) (by decide)
  have heq := eq_nilL H hk
  generalize hw : p / 5 % 8 = w at *
  generalize nextI p = q at *
  have step : ∀ {R : Fl} {ss : Sts}, exs (pg.tb (n + 1)) pg.wf ss [some (false, .int p), some (false, .lst (kn.map .str)), some (false, .lst (hs.map Hh.d)), some (false, .int w), some (false, .int q), none, none] = R →
      exs (pg.tb (n + 1)) pg.wf (.cons (.set 3 (.bin .Mod (.bin .FloorDiv (.var 0) (.lit (.int 5))) (.lit (.int 8)))) (.cons (.set 4 (.call "_law_next" (.cons (.var 0) .nil))) ss)) [some (false, .int p), some (false, .lst (kn.map .str)), some (false, .lst (hs.map Hh.d)), none, none, none, none] = R := fun {R ss} h =>
    g_sx (x := (false, .int w)) (by simp [runD, argsD, entE, exs, ex, evT, ev, evs, evo, evc, evi, bor, getO, getF, sndR, intR, Res.bind, onR, Fl.seq, fz, usT, us, ub, uss, uso, usc, usi, isiD, okB, D.tru, negD, cmpD, opD, idxD, slcD, biD, okF, endR, setE, bindT, itemsD, tb_fn, tb_fl, tb_gok, itemsW, m1T, m1D, lensetD, blR, tb_gl, tb_ar, tb_ki, tb_sub, tb_hot, l5, hw]) (g_sx (x := (false, .int q)) (by simp [runD, argsD, entE, exs, ex, evT, ev, evs, evo, evc, evi, bor, getO, getF, sndR, intR, Res.bind, onR, Fl.seq, fz, usT, us, ub, uss, uso, usc, usi, isiD, okB, D.tru, negD, cmpD, opD, idxD, slcD, biD, okF, endR, setE, bindT, itemsD, tb_fn, tb_fl, tb_gok, itemsW, m1T, m1D, lensetD, blR, tb_gl, tb_ar, tb_ki, tb_sub, tb_hot, hn]) h)
  have t1 : evT (pg.tb (n + 1)) (.or (.val (.cmp .Eq (.var 1) (.lst .nil))) (.val (.cmp .Eq (.var 3) (.lit (.int 0))))) [some (false, .int p), some (false, .lst (kn.map .str)), some (false, .lst (hs.map Hh.d)), some (false, .int w), some (false, .int q), none, none] = .ok (kn.isEmpty || decide (w = 0)) := by
    refine te_or (te_bl (b := false) ?_) fun _ => te_bl (b := false) ?_
    · simp [runD, argsD, entE, exs, ex, evT, ev, evs, evo, evc, evi, bor, getO, getF, sndR, intR, Res.bind, onR, Fl.seq, fz, usT, us, ub, uss, uso, usc, usi, isiD, okB, D.tru, negD, cmpD, opD, idxD, slcD, biD, okF, endR, setE, bindT, itemsD, tb_fn, tb_fl, tb_gok, itemsW, m1T, m1D, lensetD, blR, tb_gl, tb_ar, tb_ki, tb_sub, tb_hot, heq]
    · simp [runD, argsD, entE, exs, ex, evT, ev, evs, evo, evc, evi, bor, getO, getF, sndR, intR, Res.bind, onR, Fl.seq, fz, usT, us, ub, uss, uso, usc, usi, isiD, okB, D.tru, negD, cmpD, opD, idxD, slcD, biD, okF, endR, setE, bindT, itemsD, tb_fn, tb_fl, tb_gok, itemsW, m1T, m1D, lensetD, blR, tb_gl, tb_ar, tb_ki, tb_sub, tb_hot, eqI]
  cases c1 : kn.isEmpty || decide (w = 0) with
  | true =>
    rw [c1] at t1
    obtain ⟨v, hv, e⟩ := v_few H (n := n) q ((hs.length : Int) % 3)
    refine ⟨.val v, .val v (few_isV H v hv), c_runN _ H.l__law_tame (R := .rt false (E.d (.val v))) (step (g_t t1 (s_rt (g_ret (x := (false, E.d (.val v))) ?_)))) rfl⟩
    simp [runD, argsD, entE, exs, ex, evT, ev, evs, evo, evc, evi, bor, getO, getF, sndR, intR, Res.bind, onR, Fl.seq, fz, usT, us, ub, uss, uso, usc, usi, isiD, okB, D.tru, negD, cmpD, opD, idxD, slcD, biD, okF, endR, setE, bindT, itemsD, tb_fn, tb_fl, tb_gok, itemsW, m1T, m1D, lensetD, blR, tb_gl, tb_ar, tb_ki, tb_sub, tb_hot, z2, e, E.d]
  | false =>
    rw [c1] at t1
    rw [Bool.or_eq_false_iff, List.isEmpty_eq_false_iff, decide_eq_false_iff_not] at c1
    obtain ⟨k0, k1⟩ := c1
    obtain ⟨z, hz, ez⟩ := at_strs H k0 q
    have hlN : 0 < kn.length := List.length_pos_iff.mpr k0
    have step2 : ∀ {R : Fl} {ss : Sts}, exs (pg.tb (n + 1)) pg.wf ss [some (false, .int p), some (false, .lst (kn.map .str)), some (false, .lst (hs.map Hh.d)), some (false, .int w), some (false, .int q), some (false, E.d (.nm z)), none] = R →
        exs (pg.tb (n + 1)) pg.wf (.cons (.set 5 (.tup (.cons (.lit (.str "name")) (.cons (.idx (.var 1) (.bin .Mod (.var 4) (.bi .len (.var 1)))) .nil)))) ss) [some (false, .int p), some (false, .lst (kn.map .str)), some (false, .lst (hs.map Hh.d)), some (false, .int w), some (false, .int q), none, none] = R := fun {R ss} h =>
      g_sx (x := (false, E.d (.nm z))) (by simp [runD, argsD, entE, exs, ex, evT, ev, evs, evo, evc, evi, bor, getO, getF, sndR, intR, Res.bind, onR, Fl.seq, fz, usT, us, ub, uss, uso, usc, usi, isiD, okB, D.tru, negD, cmpD, opD, idxD, slcD, biD, okF, endR, setE, bindT, itemsD, tb_fn, tb_fl, tb_gok, itemsW, m1T, m1D, lensetD, blR, tb_gl, tb_ar, tb_ki, tb_sub, tb_hot, z2, hlN, ez, E.d]) h
    by_cases c2 : w < 3
    · refine ⟨.nm z, .nm z hz, c_runN _ H.l__law_tame (R := .rt false (E.d (.nm z))) (step (g_fn t1 (step2 (g_t ?_ (s_rt (g_end ?_)))))) rfl⟩
      · simp [runD, argsD, entE, exs, ex, evT, ev, evs, evo, evc, evi, bor, getO, getF, sndR, intR, Res.bind, onR, Fl.seq, fz, usT, us, ub, uss, uso, usc, usi, isiD, okB, D.tru, negD, cmpD, opD, idxD, slcD, biD, okF, endR, setE, bindT, itemsD, tb_fn, tb_fl, tb_gok, itemsW, m1T, m1D, lensetD, blR, tb_gl, tb_ar, tb_ki, tb_sub, tb_hot, c2]
      · simp [runD, argsD, entE, exs, ex, evT, ev, evs, evo, evc, evi, bor, getO, getF, sndR, intR, Res.bind, onR, Fl.seq, fz, usT, us, ub, uss, uso, usc, usi, isiD, okB, D.tru, negD, cmpD, opD, idxD, slcD, biD, okF, endR, setE, bindT, itemsD, tb_fn, tb_fl, tb_gok, itemsW, m1T, m1D, lensetD, blR, tb_gl, tb_ar, tb_ki, tb_sub, tb_hot]
    · obtain ⟨o, ho, eo⟩ : ∃ o : Str, (o = "down" ∨ o = "first" ∨ o = "rest") ∧ atI [D.str "down", D.str "first", D.str "rest", D.str "rest", D.str "down"] (w - 3) = some (.str o) := by
        have h : w = 3 ∨ w = 4 ∨ w = 5 ∨ w = 6 ∨ w = 7 := by omega
        rcases h with rfl | rfl | rfl | rfl | rfl
        · exact ⟨"down", .inl rfl, rfl⟩
        · exact ⟨"first", .inr (.inl rfl), rfl⟩
        · exact ⟨"rest", .inr (.inr rfl), rfl⟩
        · exact ⟨"rest", .inr (.inr rfl), rfl⟩
        · exact ⟨"down", .inl rfl, rfl⟩
      have t2 : evT (pg.tb (n + 1)) (.and (.val (.cmp .Eq (.var 3) (.lit (.int 7)))) (.val (.cmp .Eq (.bin .Mod (.bin .FloorDiv (.var 4) (.lit (.int 7))) (.lit (.int 3))) (.lit (.int 0))))) [some (false, .int p), some (false, .lst (kn.map .str)), some (false, .lst (hs.map Hh.d)), some (false, .int w), some (false, .int q), some (false, E.d (.nm z)), some (false, .str o)] = .ok (decide (w = 7) && decide (q / 7 % 3 = 0)) := by
        refine te_and (te_bl (b := false) ?_) fun _ => te_bl (b := false) ?_
        · simp [runD, argsD, entE, exs, ex, evT, ev, evs, evo, evc, evi, bor, getO, getF, sndR, intR, Res.bind, onR, Fl.seq, fz, usT, us, ub, uss, uso, usc, usi, isiD, okB, D.tru, negD, cmpD, opD, idxD, slcD, biD, okF, endR, setE, bindT, itemsD, tb_fn, tb_fl, tb_gok, itemsW, m1T, m1D, lensetD, blR, tb_gl, tb_ar, tb_ki, tb_sub, tb_hot, eqI]
        · simp [runD, argsD, entE, exs, ex, evT, ev, evs, evo, evc, evi, bor, getO, getF, sndR, intR, Res.bind, onR, Fl.seq, fz, usT, us, ub, uss, uso, usc, usi, isiD, okB, D.tru, negD, cmpD, opD, idxD, slcD, biD, okF, endR, setE, bindT, itemsD, tb_fn, tb_fl, tb_gok, itemsW, m1T, m1D, lensetD, blR, tb_gl, tb_ar, tb_ki, tb_sub, tb_hot, eqI, l7]
      cases c3 : decide (w = 7) && decide (q / 7 % 3 = 0) with
      | true =>
        rw [c3] at t2
        refine ⟨.doo "rest" [.doo "rest" [.nm z]], .two z hz, c_runN _ H.l__law_tame (R := .rt false (E.d (.doo "rest" [.doo "rest" [.nm z]]))) (step (g_fn t1 (step2 (g_fn ?_ (g_sx (x := (false, .str o)) ?_ (g_t t2 (s_rt (g_ret (x := (false, E.d (.doo "rest" [.doo "rest" [.nm z]]))) ?_)))))))) rfl⟩
        · simp [runD, argsD, entE, exs, ex, evT, ev, evs, evo, evc, evi, bor, getO, getF, sndR, intR, Res.bind, onR, Fl.seq, fz, usT, us, ub, uss, uso, usc, usi, isiD, okB, D.tru, negD, cmpD, opD, idxD, slcD, biD, okF, endR, setE, bindT, itemsD, tb_fn, tb_fl, tb_gok, itemsW, m1T, m1D, lensetD, blR, tb_gl, tb_ar, tb_ki, tb_sub, tb_hot, c2]
        · simp [runD, argsD, entE, exs, ex, evT, ev, evs, evo, evc, evi, bor, getO, getF, sndR, intR, Res.bind, onR, Fl.seq, fz, usT, us, ub, uss, uso, usc, usi, isiD, okB, D.tru, negD, cmpD, opD, idxD, slcD, biD, okF, endR, setE, bindT, itemsD, tb_fn, tb_fl, tb_gok, itemsW, m1T, m1D, lensetD, blR, tb_gl, tb_ar, tb_ki, tb_sub, tb_hot, z5, eo]
        · simp [runD, argsD, entE, exs, ex, evT, ev, evs, evo, evc, evi, bor, getO, getF, sndR, intR, Res.bind, onR, Fl.seq, fz, usT, us, ub, uss, uso, usc, usi, isiD, okB, D.tru, negD, cmpD, opD, idxD, slcD, biD, okF, endR, setE, bindT, itemsD, tb_fn, tb_fl, tb_gok, itemsW, m1T, m1D, lensetD, blR, tb_gl, tb_ar, tb_ki, tb_sub, tb_hot, z1, z3, E.d, E.ds]
      | false =>
        rw [c3] at t2
        refine ⟨.doo o [.nm z], .one o ho z hz, c_runN _ H.l__law_tame (R := .rt false (E.d (.doo o [.nm z]))) (step (g_fn t1 (step2 (g_fn ?_ (g_sx (x := (false, .str o)) ?_ (g_fn t2 (g_ret (x := (false, E.d (.doo o [.nm z]))) ?_))))))) rfl⟩
        · simp [runD, argsD, entE, exs, ex, evT, ev, evs, evo, evc, evi, bor, getO, getF, sndR, intR, Res.bind, onR, Fl.seq, fz, usT, us, ub, uss, uso, usc, usi, isiD, okB, D.tru, negD, cmpD, opD, idxD, slcD, biD, okF, endR, setE, bindT, itemsD, tb_fn, tb_fl, tb_gok, itemsW, m1T, m1D, lensetD, blR, tb_gl, tb_ar, tb_ki, tb_sub, tb_hot, c2]
        · simp [runD, argsD, entE, exs, ex, evT, ev, evs, evo, evc, evi, bor, getO, getF, sndR, intR, Res.bind, onR, Fl.seq, fz, usT, us, ub, uss, uso, usc, usi, isiD, okB, D.tru, negD, cmpD, opD, idxD, slcD, biD, okF, endR, setE, bindT, itemsD, tb_fn, tb_fl, tb_gok, itemsW, m1T, m1D, lensetD, blR, tb_gl, tb_ar, tb_ki, tb_sub, tb_hot, z5, eo]
        · simp [runD, argsD, entE, exs, ex, evT, ev, evs, evo, evc, evi, bor, getO, getF, sndR, intR, Res.bind, onR, Fl.seq, fz, usT, us, ub, uss, uso, usc, usi, isiD, okB, D.tru, negD, cmpD, opD, idxD, slcD, biD, okF, endR, setE, bindT, itemsD, tb_fn, tb_fl, tb_gok, itemsW, m1T, m1D, lensetD, blR, tb_gl, tb_ar, tb_ki, tb_sub, tb_hot, z1, z3, E.d, E.ds]
end
/-! ### forms -/
/-- the names that the generator is handed stand well -/
structure Hs (hs : List Hh) : Prop where
  ne : hs ≠ []
  len : ∀ h ∈ hs, h.kn.length = h.ps.length
  few : ∀ h ∈ hs, h.ps.length ≤ 6
theorem dsE (es : List E) : D.tup (es.map E.d) = .tup (E.ds es) := by rw [E.ds_map]
theorem ev_pk (p : Int) (i : Nat) (ρ : En) (h0 : ρ[0]? = some (some (false, .int p))) (h7 : ρ[7]? = some (some (false, .int i))) (T : Tb) : ev T (.bin .Add (.var 0) (.bin .Mult (.lit (.int 7919)) (.var 7))) ρ = .ok (false, .int (p + 7919 * i)) := by
  have mo : Hf.MulOk 7919 (i : Int) := .inr (.inl ⟨by decide, by decide⟩)
  simp [runD, argsD, entE, exs, ex, evT, ev, evs, evo, evc, evi, bor, getO, getF, sndR, intR, Res.bind, onR, Fl.seq, fz, usT, us, ub, uss, uso, usc, usi, isiD, okB, D.tru, negD, cmpD, opD, idxD, slcD, biD, okF, endR, setE, bindT, itemsD, tb_fn, tb_fl, tb_gok, itemsW, m1T, m1D, lensetD, blR, tb_gl, tb_ar, tb_ki, tb_sub, tb_hot, mo, h0, h7]
def bP : Sts := .cons (.app 6 (.call "_law_form" (.cons (.call "_law_next" (.cons (.bin .Add (.var 0) (.bin .Mult (.lit (.int 7919)) (.var 7))) .nil)) (.cons (.var 2) (.cons (.var 3) (.cons (.var 4) (.cons (.var 5) .nil))))))) .nil
theorem parts_body {T : Tb} {wf : Nat} {p q : Int} {i : Nat} {m d2 d3 d4 d5 x : D} {L : List D} (hn : T.fn "_law_next" [.int (p + 7919 * i)] = .ok (false, .int q)) (hf : T.fn "_law_form" [.int q, d2, d3, d4, d5] = .ok (false, x)) (hl : L.length < sizeLine) :
    exs T wf bP [some (false, .int p), some (false, m), some (false, d2), some (false, d3), some (false, d4), some (false, d5), some (true, .lst L), some (false, .int i)] = .nx [some (false, .int p), some (false, m), some (false, d2), some (false, d3), some (false, d4), some (false, d5), some (true, .lst (L ++ [x])), some (false, .int i)] :=
  b_one (a_app (ds := L) (x := (false, x)) rfl (e_call (e_cons (e_call (e_cons (ev_pk p i _ rfl rfl T) e_nil) hn) (e_cons e_var (e_cons e_var (e_cons e_var (e_cons e_var e_nil))))) hf) hl rfl)
theorem parts_loop {T : Tb} {wf : Nat} {p : Int} {m d2 d3 d4 d5 : D} {P : E → Prop} (h : ∀ i : Nat, ∃ q : Int, ∃ e : E, P e ∧ T.fn "_law_next" [.int (p + 7919 * i)] = .ok (false, .int q) ∧ T.fn "_law_form" [.int q, d2, d3, d4, d5] = .ok (false, e.d)) :
    ∀ (ks : List Nat) (L : List D) (x7 : Option (Bool × D)), L.length + ks.length ≤ 1000 → ∃ (es : List E) (y7 : Option (Bool × D)), es.length = ks.length ∧ (∀ e ∈ es, P e) ∧
      forN (.one 7) (exs T wf bP) (ks.map fun (i : Nat) => D.int (i : Int)) [some (false, .int p), some (false, m), some (false, d2), some (false, d3), some (false, d4), some (false, d5), some (true, .lst L), x7] = .nx [some (false, .int p), some (false, m), some (false, d2), some (false, d3), some (false, d4), some (false, d5), some (true, .lst (L ++ E.ds es)), y7]
  | [], L, x7, _ => ⟨[], x7, rfl, by simp, by simp [forN, E.ds]⟩
  | k :: ks, L, x7, hl => by
    obtain ⟨q, e, h1, h2, h3⟩ := h k
    rw [List.length_cons] at hl
    have hL : L.length < sizeLine := by rw [sizeLine_eq]; omega
    obtain ⟨es, y7, e1, e2, e3⟩ := parts_loop h ks (L ++ [e.d]) (some (false, .int k)) (by rw [List.length_append, List.length_singleton]; omega)
    refine ⟨e :: es, y7, by simp [e1], fun y hy => (List.mem_cons.mp hy).elim (fun z => z ▸ h1) (e2 y), ?_⟩
    have z : L ++ E.ds (e :: es) = (L ++ [e.d]) ++ E.ds es := by simp [E.ds]
    rw [z]
    exact f_nx rfl (parts_body (x := e.d) h2 h3 hL) e3
section
variable {pg : Pg} (H : HasG pg) {ps kn : List Str} (hp : ∀ z ∈ ps, PyData.strOk z = true) (hk : ∀ z ∈ kn, PyData.strOk z = true) {hs : List Hh} (hhs : Hs hs)
abbrev Fm (pg : Pg) (ps kn : List Str) (hs : List Hh) (d n : Nat) : Prop := ∀ p : Int, ∃ e : E, Ge ps kn hs d e ∧ callN pg n "_law_form" [.int p, .int d, .lst (ps.map .str), .lst (kn.map .str), .lst (hs.map Hh.d)] = .ok (false, e.d)
include H
theorem v_parts {d n : Nat} (ih : Fm pg ps kn hs d (n + 1)) (p : Int) (m : Nat) (hm : m ≤ 100) : ∃ es : List E, es.length = m ∧ (∀ e ∈ es, Ge ps kn hs d e) ∧
    callN pg (n + 2) "_law_parts" [.int p, .int m, .int d, .lst (ps.map .str), .lst (kn.map .str), .lst (hs.map Hh.d)] = .ok (false, .tup (E.ds es)) := by
  have r := rng0 m (by omega)
  generalize hps : D.lst (ps.map .str) = d3
  generalize hkn : D.lst (kn.map .str) = d4
  generalize hhd : D.lst (hs.map Hh.d) = d5
  obtain ⟨es, y7, h1, h2, h3⟩ := parts_loop (T := pg.tb (n + 1)) (wf := pg.wf) (p := p) (m := .int m) (d2 := .int d) (d3 := d3) (d4 := d4) (d5 := d5) (P := Ge ps kn hs d) (fun i => by
    obtain ⟨e, h1, h2⟩ := ih (nextI (p + 7919 * i))
    refine ⟨_, e, h1, v_next (n := n) H.toHasC (p + 7919 * i), ?_⟩
    rw [← hps, ← hkn, ← hhd]
    exact h2) (List.range m) [] none (by simp; omega)
  rw [List.length_range] at h1
  refine ⟨es, h1, h2, c_runN [some (false, .int p), some (false, .int m), some (false, .int d), some (false, d3), some (false, d4), some (false, d5), none, none] H.l__law_parts (R := .rt false (.tup (E.ds es))) (g_sx (x := (true, .lst [])) ?_ (g_for _ (evi_rng1 rfl r) h3 (g_ret (x := (false, .tup (E.ds es))) ?_))) rfl⟩
  · have z0 := sz 0
    simp [runD, argsD, entE, exs, ex, evT, ev, evs, evo, evc, evi, bor, getO, getF, sndR, intR, Res.bind, onR, Fl.seq, fz, usT, us, ub, uss, uso, usc, usi, isiD, okB, D.tru, negD, cmpD, opD, idxD, slcD, biD, okF, endR, setE, bindT, itemsD, tb_fn, tb_fl, tb_gok, itemsW, m1T, m1D, lensetD, blR, tb_gl, tb_ar, tb_ki, tb_sub, tb_hot, z0]
  · simp [runD, argsD, entE, exs, ex, evT, ev, evs, evo, evc, evi, bor, getO, getF, sndR, intR, Res.bind, onR, Fl.seq, fz, usT, us, ub, uss, uso, usc, usi, isiD, okB, D.tru, negD, cmpD, opD, idxD, slcD, biD, okF, endR, setE, bindT, itemsD, tb_fn, tb_fl, tb_gok, itemsW, m1T, m1D, lensetD, blR, tb_gl, tb_ar, tb_ki, tb_sub, tb_hot]
def doW : List D := [.str "plus", .str "minus", .str "times", .str "over", .str "less", .str "same", .str "join", .str "first", .str "rest", .str "empty", .str "down", .str "list"]
def four : D := .tup [.str "first", .str "rest", .str "empty", .str "down"]
/-- the word, and how many parts it takes -/
theorem do_word (p : Int) : ∃ (w : Str) (b1 b2 : Bool), atI doW (p % 12) = some (.str w) ∧ inD (.str w) four = .ok b1 ∧ D.eqD (.str w) (.str "list") = .ok b2 ∧ isOp w = true ∧ ((b2 = true ∧ b1 = false ∧ ∀ k : Nat, k ≤ 8 → opB w k = true) ∨ (b2 = false ∧ b1 = true ∧ opB w 1 = true) ∨ (b2 = false ∧ b1 = false ∧ opB w 2 = true)) := by
  have h0 := Int.emod_nonneg p (b := 12) (by decide)
  have h1 := Int.emod_lt_of_pos p (b := 12) (by decide)
  have h : p % 12 = 0 ∨ p % 12 = 1 ∨ p % 12 = 2 ∨ p % 12 = 3 ∨ p % 12 = 4 ∨ p % 12 = 5 ∨ p % 12 = 6 ∨ p % 12 = 7 ∨ p % 12 = 8 ∨ p % 12 = 9 ∨ p % 12 = 10 ∨ p % 12 = 11 := by omega
  have four_in : ∀ w : Str, PyData.strOk w = true → inD (.str w) four = .ok (["first", "rest", "empty", "down"].any fun z => isS (.str w) z) := fun w hw => inS_strs (d := .str w) (.leaf (.str w hw)) (zs := ["first", "rest", "empty", "down"]) (by decide +kernel)
  have eq_l : ∀ w : Str, PyData.strOk w = true → D.eqD (.str w) (.str "list") = .ok (decide (w = "list")) := fun w hw => eq_str w "list" hw (by decide +kernel)
  rcases h with e | e | e | e | e | e | e | e | e | e | e | e <;> rw [e]
  · exact ⟨"plus", false, false, rfl, four_in _ (by decide +kernel), eq_l _ (by decide +kernel), by decide +kernel, .inr (.inr ⟨rfl, rfl, by decide +kernel⟩)⟩
  · exact ⟨"minus", false, false, rfl, four_in _ (by decide +kernel), eq_l _ (by decide +kernel), by decide +kernel, .inr (.inr ⟨rfl, rfl, by decide +kernel⟩)⟩
  · exact ⟨"times", false, false, rfl, four_in _ (by decide +kernel), eq_l _ (by decide +kernel), by decide +kernel, .inr (.inr ⟨rfl, rfl, by decide +kernel⟩)⟩
  · exact ⟨"over", false, false, rfl, four_in _ (by decide +kernel), eq_l _ (by decide +kernel), by decide +kernel, .inr (.inr ⟨rfl, rfl, by decide +kernel⟩)⟩
  · exact ⟨"less", false, false, rfl, four_in _ (by decide +kernel), eq_l _ (by decide +kernel), by decide +kernel, .inr (.inr ⟨rfl, rfl, by decide +kernel⟩)⟩
  · exact ⟨"same", false, false, rfl, four_in _ (by decide +kernel), eq_l _ (by decide +kernel), by decide +kernel, .inr (.inr ⟨rfl, rfl, by decide +kernel⟩)⟩
  · exact ⟨"join", false, false, rfl, four_in _ (by decide +kernel), eq_l _ (by decide +kernel), by decide +kernel, .inr (.inr ⟨rfl, rfl, by decide +kernel⟩)⟩
  · exact ⟨"first", true, false, rfl, four_in _ (by decide +kernel), eq_l _ (by decide +kernel), by decide +kernel, .inr (.inl ⟨rfl, rfl, by decide +kernel⟩)⟩
  · exact ⟨"rest", true, false, rfl, four_in _ (by decide +kernel), eq_l _ (by decide +kernel), by decide +kernel, .inr (.inl ⟨rfl, rfl, by decide +kernel⟩)⟩
  · exact ⟨"empty", true, false, rfl, four_in _ (by decide +kernel), eq_l _ (by decide +kernel), by decide +kernel, .inr (.inl ⟨rfl, rfl, by decide +kernel⟩)⟩
  · exact ⟨"down", true, false, rfl, four_in _ (by decide +kernel), eq_l _ (by decide +kernel), by decide +kernel, .inr (.inl ⟨rfl, rfl, by decide +kernel⟩)⟩
  · refine ⟨"list", false, true, rfl, four_in _ (by decide +kernel), eq_l _ (by decide +kernel), by decide +kernel, .inl ⟨rfl, rfl, fun k hk => ?_⟩⟩
    have : ∀ k : Fin 9, opB "list" k.val = true := by decide +kernel
    exact this ⟨k, by omega⟩
theorem v_do {d n : Nat} (ih : Fm pg ps kn hs d (n + 1)) (ih0 : Fm pg ps kn hs 0 (n + 1)) (p : Int) : ∃ e : E, Ge ps kn hs (d + 1) e ∧ callN pg (n + 3) "_law_do" [.int p, .int d, .lst (ps.map .str), .lst (kn.map .str), .lst (hs.map Hh.d)] = .ok (false, e.d) := by
  obtain ⟨w, b1, b2, hw, hi, he, hop, hc⟩ := do_word H p
  have hn := v_next (n := n + 1) H.toHasC p
  have hparts := fun (d' : Nat) (ih : Fm pg ps kn hs d' (n + 1)) (m : Nat) (hm : m ≤ 100) => v_parts H ih (nextI p) m hm
  generalize hps : D.lst (ps.map .str) = d3 at *
  generalize hkn : D.lst (kn.map .str) = d4 at *
  generalize hhd : D.lst (hs.map Hh.d) = d5 at *
  generalize nextI p = q at *
  have fin : ∀ (dd : Nat) (m : Nat) (es : List E), callN pg (n + 2) "_law_parts" [.int q, .int m, .int dd, d3, d4, d5] = .ok (false, .tup (E.ds es)) →
      ev (pg.tb (n + 2)) (.tup (.cons (.lit (.str "do")) (.cons (.var 5) (.cons (.call "_law_parts" (.cons (.call "_law_next" (.cons (.var 0) .nil)) (.cons (.var 6) (.cons (.var 1) (.cons (.var 2) (.cons (.var 3) (.cons (.var 4) .nil))))))) .nil)))) [some (false, .int p), some (false, .int dd), some (false, d3), some (false, d4), some (false, d5), some (false, .str w), some (false, .int m)] = .ok (false, E.d (.doo w es)) := fun dd m es h => by
    exact e_tup (e_cons e_lit (e_cons e_var (e_cons (e_call (e_cons (e_call (e_cons e_var e_nil) hn) (e_cons e_var (e_cons e_var (e_cons e_var (e_cons e_var (e_cons e_var e_nil)))))) h) e_nil))) (sz 3)
  have z12 := sz 12
  have z4 := sz 4
  have z8 := sz 8
  have l12 := lg 12
  have run : ∀ (m : Nat) (R : Fl), (b1 = true → m = 1) → (b1 = false → b2 = false → m = 2) → (b2 = true → atI [D.int 0, D.int 1, D.int 2, D.int 3, D.int 8, D.int 5, D.int 1, D.int 2] (p / 12 % 8) = some (.int m)) → (b1 && b2) = false →
      exs (pg.tb (n + 2)) pg.wf (.cons (.ret (.tup (.cons (.lit (.str "do")) (.cons (.var 5) (.cons (.call "_law_parts" (.cons (.call "_law_next" (.cons (.var 0) .nil)) (.cons (.var 6) (.cons (.var 1) (.cons (.var 2) (.cons (.var 3) (.cons (.var 4) .nil))))))) .nil))))) .nil) [some (false, .int p), some (false, .int (if 3 < m then 0 else d : Nat)), some (false, d3), some (false, d4), some (false, d5), some (false, .str w), some (false, .int m)] = R →
      exs (pg.tb (n + 2)) pg.wf c__law_do [some (false, .int p), some (false, .int d), some (false, d3), some (false, d4), some (false, d5), none, none] = R := by
    intro m R m1 m2 ml hb h
    have hi' : inD (.str w) (.tup [.str "first", .str "rest", .str "empty", .str "down"]) = .ok b1 := hi
    have tIn : ∀ (m0 : D), evT (pg.tb (n + 2)) (.val (.cmp .In (.var 5) (.tup (.cons (.lit (.str "first")) (.cons (.lit (.str "rest")) (.cons (.lit (.str "empty")) (.cons (.lit (.str "down")) .nil))))))) [some (false, .int p), some (false, .int d), some (false, d3), some (false, d4), some (false, d5), some (false, .str w), some (false, m0)] = .ok b1 := fun m0 => by
      refine te_bl (b := false) ?_
      simp [runD, argsD, entE, exs, ex, evT, ev, evs, evo, evc, evi, bor, getO, getF, sndR, intR, Res.bind, onR, Fl.seq, fz, usT, us, ub, uss, uso, usc, usi, isiD, okB, D.tru, negD, cmpD, opD, idxD, slcD, biD, okF, endR, setE, bindT, itemsD, tb_fn, tb_fl, tb_gok, itemsW, m1T, m1D, lensetD, blR, tb_gl, tb_ar, tb_ki, tb_sub, tb_hot, z4, hi']
    have tEq : ∀ (m0 : D), evT (pg.tb (n + 2)) (.val (.cmp .Eq (.var 5) (.lit (.str "list")))) [some (false, .int p), some (false, .int d), some (false, d3), some (false, d4), some (false, d5), some (false, .str w), some (false, m0)] = .ok b2 := fun m0 => by
      refine te_bl (b := false) ?_
      simp [runD, argsD, entE, exs, ex, evT, ev, evs, evo, evc, evi, bor, getO, getF, sndR, intR, Res.bind, onR, Fl.seq, fz, usT, us, ub, uss, uso, usc, usi, isiD, okB, D.tru, negD, cmpD, opD, idxD, slcD, biD, okF, endR, setE, bindT, itemsD, tb_fn, tb_fl, tb_gok, itemsW, m1T, m1D, lensetD, blR, tb_gl, tb_ar, tb_ki, tb_sub, tb_hot, he]
    have tGt : evT (pg.tb (n + 2)) (.val (.cmp .Gt (.var 6) (.lit (.int 3)))) [some (false, .int p), some (false, .int d), some (false, d3), some (false, d4), some (false, d5), some (false, .str w), some (false, .int m)] = .ok (decide (3 < m)) := by
      refine te_bl (b := false) ?_
      have : decide ((3 : Int) < (m : Int)) = decide (3 < m) := decide_eq_decide.mpr (by omega)
      simp [runD, argsD, entE, exs, ex, evT, ev, evs, evo, evc, evi, bor, getO, getF, sndR, intR, Res.bind, onR, Fl.seq, fz, usT, us, ub, uss, uso, usc, usi, isiD, okB, D.tru, negD, cmpD, opD, idxD, slcD, biD, okF, endR, setE, bindT, itemsD, tb_fn, tb_fl, tb_gok, itemsW, m1T, m1D, lensetD, blR, tb_gl, tb_ar, tb_ki, tb_sub, tb_hot, this]
    have last : exs (pg.tb (n + 2)) pg.wf (.cons (.ifs (.val (.cmp .Gt (.var 6) (.lit (.int 3)))) (.cons (.set 1 (.lit (.int 0))) .nil) .nil) (.cons (.ret (.tup (.cons (.lit (.str "do")) (.cons (.var 5) (.cons (.call "_law_parts" (.cons (.call "_law_next" (.cons (.var 0) .nil)) (.cons (.var 6) (.cons (.var 1) (.cons (.var 2) (.cons (.var 3) (.cons (.var 4) .nil))))))) .nil))))) .nil)) [some (false, .int p), some (false, .int d), some (false, d3), some (false, d4), some (false, d5), some (false, .str w), some (false, .int m)] = R := by
      by_cases c : 3 < m
      · rw [if_pos c] at h
        rw [decide_eq_true c] at tGt
        exact g_t tGt (s_nx (b_one (by rw [ex]; simp only [us, fz, ev, onR, okF]; rfl)) h)
      · rw [if_neg c] at h
        rw [decide_eq_false c] at tGt
        exact g_fn tGt h
    have s1 : ∀ {ss : Sts}, exs (pg.tb (n + 2)) pg.wf ss [some (false, .int p), some (false, .int d), some (false, d3), some (false, d4), some (false, d5), some (false, .str w), some (false, .int 2)] = R → exs (pg.tb (n + 2)) pg.wf (.cons (.set 5 (.lst (.cons (.lit (.str "plus")) (.cons (.lit (.str "minus")) (.cons (.lit (.str "times")) (.cons (.lit (.str "over")) (.cons (.lit (.str "less")) (.cons (.lit (.str "same")) (.cons (.lit (.str "join")) (.cons (.lit (.str "first")) (.cons (.lit (.str "rest")) (.cons (.lit (.str "empty")) (.cons (.lit (.str "down")) (.cons (.lit (.str "list")) .nil)))))))))))))) (.cons (.set 5 (.idx (.var 5) (.bin .Mod (.var 0) (.lit (.int 12))))) (.cons (.set 6 (.lit (.int 2))) ss))) [some (false, .int p), some (false, .int d), some (false, d3), some (false, d4), some (false, d5), none, none] = R := fun {ss} h =>
      g_sx (x := (true, .lst doW)) (by simp [runD, argsD, entE, exs, ex, evT, ev, evs, evo, evc, evi, bor, getO, getF, sndR, intR, Res.bind, onR, Fl.seq, fz, usT, us, ub, uss, uso, usc, usi, isiD, okB, D.tru, negD, cmpD, opD, idxD, slcD, biD, okF, endR, setE, bindT, itemsD, tb_fn, tb_fl, tb_gok, itemsW, m1T, m1D, lensetD, blR, tb_gl, tb_ar, tb_ki, tb_sub, tb_hot, doW, z12]) (g_sx (x := (false, .str w)) (by simp [runD, argsD, entE, exs, ex, evT, ev, evs, evo, evc, evi, bor, getO, getF, sndR, intR, Res.bind, onR, Fl.seq, fz, usT, us, ub, uss, uso, usc, usi, isiD, okB, D.tru, negD, cmpD, opD, idxD, slcD, biD, okF, endR, setE, bindT, itemsD, tb_fn, tb_fl, tb_gok, itemsW, m1T, m1D, lensetD, blR, tb_gl, tb_ar, tb_ki, tb_sub, tb_hot, hw]) (g_sx (x := (false, .int 2)) e_lit h))
    refine s1 ?_
    cases b1 with
    | true =>
      have e1 := m1 rfl
      subst e1
      cases b2 with
      | true => cases hb
      | false => exact g_t (tIn _) (s_nx (b_one (by rw [ex]; simp only [us, fz, ev, onR, okF]; rfl)) (g_fn (tEq _) last))
    | false =>
      cases b2 with
      | false =>
        have e1 := m2 rfl rfl
        subst e1
        exact g_fn (tIn _) (g_fn (tEq _) last)
      | true =>
        have e1 := ml rfl
        refine g_fn (tIn _) (g_t (tEq _) (s_nx (ρ' := [some (false, .int p), some (false, .int d), some (false, d3), some (false, d4), some (false, d5), some (false, .str w), some (false, .int m)]) (b_one ?_) last))
        simp [runD, argsD, entE, exs, ex, evT, ev, evs, evo, evc, evi, bor, getO, getF, sndR, intR, Res.bind, onR, Fl.seq, fz, usT, us, ub, uss, uso, usc, usi, isiD, okB, D.tru, negD, cmpD, opD, idxD, slcD, biD, okF, endR, setE, bindT, itemsD, tb_fn, tb_fl, tb_gok, itemsW, m1T, m1D, lensetD, blR, tb_gl, tb_ar, tb_ki, tb_sub, tb_hot, z8, l12, e1]
  have h0 := Int.emod_nonneg (p / 12) (b := 8) (by decide)
  have h1 := Int.emod_lt_of_pos (p / 12) (b := 8) (by decide)
  obtain ⟨m, hm8, hm3⟩ : ∃ m : Nat, m ≤ 8 ∧ atI [D.int 0, D.int 1, D.int 2, D.int 3, D.int 8, D.int 5, D.int 1, D.int 2] (p / 12 % 8) = some (.int m) := by
    have h : p / 12 % 8 = 0 ∨ p / 12 % 8 = 1 ∨ p / 12 % 8 = 2 ∨ p / 12 % 8 = 3 ∨ p / 12 % 8 = 4 ∨ p / 12 % 8 = 5 ∨ p / 12 % 8 = 6 ∨ p / 12 % 8 = 7 := by omega
    rcases h with e | e | e | e | e | e | e | e <;> rw [e]
    · exact ⟨0, by decide, rfl⟩
    · exact ⟨1, by decide, rfl⟩
    · exact ⟨2, by decide, rfl⟩
    · exact ⟨3, by decide, rfl⟩
    · exact ⟨8, by decide, rfl⟩
    · exact ⟨5, by decide, rfl⟩
    · exact ⟨1, by decide, rfl⟩
    · exact ⟨2, by decide, rfl⟩
  have done : ∀ m : Nat, m ≤ 8 → opB w m = true → (b1 = true → m = 1) → (b1 = false → b2 = false → m = 2) → (b2 = true → atI [D.int 0, D.int 1, D.int 2, D.int 3, D.int 8, D.int 5, D.int 1, D.int 2] (p / 12 % 8) = some (.int m)) → (b1 && b2) = false → ∃ e : E, Ge ps kn hs (d + 1) e ∧ callN pg (n + 3) "_law_do" [.int p, .int d, d3, d4, d5] = .ok (false, e.d) := fun m hm ho q1 q2 q3 q4 => by
    by_cases c : 3 < m
    · obtain ⟨es, e1, e2, e3⟩ := hparts 0 ih0 m (by omega)
      refine ⟨.doo w es, .doo d w es hop (by rw [e1]; exact ho) (fun e he => (e2 e he).up (Nat.zero_le d)) (fun _ => e2), c_runN [some (false, .int p), some (false, .int d), some (false, d3), some (false, d4), some (false, d5), none, none] H.l__law_do (R := .rt false (E.d (.doo w es))) (run m _ q1 q2 q3 q4 (g_ret (fin _ m es (by rw [if_pos c]; exact e3)))) rfl⟩
    · obtain ⟨es, e1, e2, e3⟩ := hparts d ih m (by omega)
      refine ⟨.doo w es, .doo d w es hop (by rw [e1]; exact ho) e2 (fun h => absurd (e1 ▸ h) c), c_runN [some (false, .int p), some (false, .int d), some (false, d3), some (false, d4), some (false, d5), none, none] H.l__law_do (R := .rt false (E.d (.doo w es))) (run m _ q1 q2 q3 q4 (g_ret (fin _ m es (by rw [if_neg c]; exact e3)))) rfl⟩
  rcases hc with ⟨c1, c2, c3⟩ | ⟨c1, c2, c3⟩ | ⟨c1, c2, c3⟩
  · exact done m hm8 (c3 m hm8) (fun z => by rw [c2] at z; cases z) (fun _ z => by rw [c1] at z; cases z) (fun _ => hm3) (by rw [c2]; rfl)
  · exact done 1 (by omega) c3 (fun _ => rfl) (fun z => by rw [c2] at z; cases z) (fun z => by rw [c1] at z; cases z) (by rw [c1, c2]; rfl)
  · exact done 2 (by omega) c3 (fun z => by rw [c2] at z; cases z) (fun _ _ => rfl) (fun z => by rw [c1] at z; cases z) (by rw [c1, c2]; rfl)
end

end Kv

namespace Kv
open PySem PySem.Spec PyProof.Rows L2 Hf
set_option autoImplicit false
abbrev en_lp__law_heads_1 (x0 : D) (p1 : Bool × D) (L2 : List D) (y3 : Option (Bool × D)) (y4 : Option (Bool × D)) (y5 : Option (Bool × D)) (y6 : Option (Bool × D)) (y7 : Option (Bool × D)) (y8 : Option (Bool × D)) : En := [some (false, x0), some p1, some (true, .lst L2), y3, y4, y5, y6, y7, y8]
def c_lp__law_heads_1 : Sts := (.cons (.set 4 (.call "_law_cell_at" (.cons (.var 0) (.cons (.bin .Add (.lit (.int 2)) (.var 3)) .nil)))) (.cons (.set 5 (.idx (.lst (.cons (.lit (.int 1)) (.cons (.lit (.int 2)) (.cons (.lit (.int 3)) (.cons (.lit (.int 2)) (.cons (.lit (.int 0)) (.cons (.lit (.int 6)) (.cons (.lit (.int 3)) .nil)))))))) (.bin .Mod (.var 4) (.lit (.int 7))))) (.cons (.set 6 (.lst .nil)) (.cons (.for_ (.one 7) (.rng1 (.var 5)) (.cons (.set 8 (.cmp .Eq (.bin .Mod (.bin .FloorDiv (.var 4) (.idx (.lst (.cons (.lit (.int 7)) (.cons (.lit (.int 14)) (.cons (.lit (.int 28)) (.cons (.lit (.int 56)) (.cons (.lit (.int 112)) (.cons (.lit (.int 224)) .nil))))))) (.var 7))) (.lit (.int 2))) (.lit (.int 1)))) (.cons (.app 6 (.and (.var 8) (.cmp .Lt (.m1 .count (.var 6) (.lit (.bl true))) (.lit (.int 2))))) .nil))) (.cons (.app 2 (.tup (.cons (.idx (.var 1) (.var 3)) (.cons (.bi .tuple (.comp (.one 7) [7] (.rng1 (.var 5)) .nil (.idx (.var 1) (.bin .Mod (.bin .Add (.bin .Add (.lit (.int 2)) (.var 3)) (.var 7)) (.lit (.int 12)))))) (.cons (.bi .tuple (.var 6)) .nil))))) .nil)))))
def lp__law_heads_1 (pg : Pg) (n : Nat) : List D → En → (En → Rr) → Rr := forK (.one 3) (exsK (pg.tb n) pg.wf c_lp__law_heads_1)
def c_rs__law_heads_2 : Sts := (.cons (.ret (.var 2)) .nil)
abbrev en_rs__law_heads_2 (x0 : D) (p1 : Bool × D) (L2 : List D) (y3 : Option (Bool × D)) (y4 : Option (Bool × D)) (y5 : Option (Bool × D)) (y6 : Option (Bool × D)) (y7 : Option (Bool × D)) (y8 : Option (Bool × D)) : En := [some (false, x0), some p1, some (true, .lst L2), y3, y4, y5, y6, y7, y8]
def rs__law_heads_2 (pg : Pg) (n : Nat) : En → Kt → Rr := exsK (pg.tb n) pg.wf c_rs__law_heads_2
abbrev en_lp__law_heads_3 (x0 : D) (p1 : Bool × D) (L2 : List D) (x3 : D) (p4 : Bool × D) (p5 : Bool × D) (L6 : List D) (y7 : Option (Bool × D)) (y8 : Option (Bool × D)) : En := [some (false, x0), some p1, some (true, .lst L2), some (false, x3), some p4, some p5, some (true, .lst L6), y7, y8]
def c_lp__law_heads_3 : Sts := (.cons (.set 8 (.cmp .Eq (.bin .Mod (.bin .FloorDiv (.var 4) (.idx (.lst (.cons (.lit (.int 7)) (.cons (.lit (.int 14)) (.cons (.lit (.int 28)) (.cons (.lit (.int 56)) (.cons (.lit (.int 112)) (.cons (.lit (.int 224)) .nil))))))) (.var 7))) (.lit (.int 2))) (.lit (.int 1)))) (.cons (.app 6 (.and (.var 8) (.cmp .Lt (.m1 .count (.var 6) (.lit (.bl true))) (.lit (.int 2))))) .nil))
def lp__law_heads_3 (pg : Pg) (n : Nat) : List D → En → (En → Rr) → Rr := forK (.one 7) (exsK (pg.tb n) pg.wf c_lp__law_heads_3)
def c_rs__law_heads_4 : Sts := (.cons (.app 2 (.tup (.cons (.idx (.var 1) (.var 3)) (.cons (.bi .tuple (.comp (.one 7) [7] (.rng1 (.var 5)) .nil (.idx (.var 1) (.bin .Mod (.bin .Add (.bin .Add (.lit (.int 2)) (.var 3)) (.var 7)) (.lit (.int 12)))))) (.cons (.bi .tuple (.var 6)) .nil))))) .nil)
abbrev en_rs__law_heads_4 (x0 : D) (p1 : Bool × D) (L2 : List D) (x3 : D) (p4 : Bool × D) (p5 : Bool × D) (L6 : List D) (y7 : Option (Bool × D)) (y8 : Option (Bool × D)) : En := [some (false, x0), some p1, some (true, .lst L2), some (false, x3), some p4, some p5, some (true, .lst L6), y7, y8]
def rs__law_heads_4 (pg : Pg) (n : Nat) : En → Kt → Rr := exsK (pg.tb n) pg.wf c_rs__law_heads_4
theorem rs__law_heads_2_eq {pg : Pg} {n : Nat} (x0 : D) (p1 : Bool × D) (L2 : List D) (y3 : Option (Bool × D)) (y4 : Option (Bool × D)) (y5 : Option (Bool × D)) (y6 : Option (Bool × D)) (y7 : Option (Bool × D)) (y8 : Option (Bool × D)) (kk : Kt) : rs__law_heads_2 pg n (en_rs__law_heads_2 x0 p1 L2 y3 y4 y5 y6 y7 y8) kk = (.ok (true, .lst L2) : Rr) := by kernel_rfl
theorem rs__law_heads_4_eq {pg : Pg} {n : Nat} (x0 : D) (p1 : Bool × D) (L2 : List D) (x3 : D) (p4 : Bool × D) (p5 : Bool × D) (L6 : List D) (y7 : Option (Bool × D)) (y8 : Option (Bool × D)) (kk : Kt) : rs__law_heads_4 pg n (en_rs__law_heads_4 x0 p1 L2 x3 p4 p5 L6 y7 y8) kk = ((((idxD p1.2 x3).bind fun v22 => (((sndR (((intR (Res.ok p5.2)).bind fun i16 => rngD 0 i16).bind fun l15 => if l15.length ≤ sizeLine then (compL (fun z10 => noX (((sndR ((sndR ((sndR (opD .Add (.int 2) x3)).bind fun v11 => opD .Add v11 z10)).bind fun v12 => opD .Mod v12 (.int 12))).bind fun v13 => idxD p1.2 v13).bind fun v14 => Res.ok (some v14.2))) l15).bind fun w17 => .ok (true, .lst w17) else .fail)).bind fun v18 => biD .tuple v18).bind fun v20 => ((biD .tuple (.lst L6)).bind fun v19 => .ok (v19.2 :: [])).bind fun l21 => .ok (v20.2 :: l21)).bind fun l23 => .ok (v22.2 :: l23)).bind fun l24 => if (l24 : List D).length ≤ sizeLine then okF (.tup l24) else .fail).bind fun v25 => if (L2 : List D).length < sizeLine then kk.nx [some (false, x0), some p1, some (true, .lst (L2 ++ [v25.2])), some (false, x3), some p4, some p5, some (true, .lst L6), y7, y8] else .fail : Rr) := by kernel_rfl
theorem lp__law_heads_3_nil {pg : Pg} {n : Nat} (ρ : En) (kk : En → Rr) : lp__law_heads_3 pg n [] ρ kk = kk ρ := rfl
theorem lp__law_heads_3_cons {pg : Pg} {n : Nat} (dd : D) (ds : List D) (x0 : D) (p1 : Bool × D) (L2 : List D) (x3 : D) (p4 : Bool × D) (p5 : Bool × D) (L6 : List D) (y7 : Option (Bool × D)) (y8 : Option (Bool × D)) (kk : En → Rr) : lp__law_heads_3 pg n (dd :: ds) (en_lp__law_heads_3 x0 p1 L2 x3 p4 p5 L6 y7 y8) kk = (((sndR ((sndR ((sndR (idxD (.lst [(.int 7), (.int 14), (.int 28), (.int 56), (.int 112), (.int 224)]) dd)).bind fun v26 => opD .FloorDiv p4.2 v26)).bind fun v27 => opD .Mod v27 (.int 2))).bind fun v28 => okB (cmpD .Eq v28 (.int 1))).bind fun p29 => ((D.tru p29.2).bind fun t32 => if t32 = true then (sndR (if m1T .count (.lst L6) = true then m1D .count (.lst L6) (.bl true) else .fail)).bind fun v30 => okB (cmpD .Lt v30 (.int 2)) else .ok (false, p29.2)).bind fun v33 => if (L6 : List D).length < sizeLine then lp__law_heads_3 pg n ds (en_lp__law_heads_3 x0 p1 L2 x3 p4 p5 (L6 ++ [v33.2]) (some (false, dd)) (some (false, p29.2))) kk else .fail : Rr) := by kernel_rfl
theorem lp__law_heads_1_nil {pg : Pg} {n : Nat} (ρ : En) (kk : En → Rr) : lp__law_heads_1 pg n [] ρ kk = kk ρ := rfl
theorem lp__law_heads_1_cons {pg : Pg} {n : Nat} (dd : D) (ds : List D) (x0 : D) (p1 : Bool × D) (L2 : List D) (y3 : Option (Bool × D)) (y4 : Option (Bool × D)) (y5 : Option (Bool × D)) (y6 : Option (Bool × D)) (y7 : Option (Bool × D)) (y8 : Option (Bool × D)) (kk : En → Rr) : lp__law_heads_1 pg n (dd :: ds) (en_lp__law_heads_1 x0 p1 L2 y3 y4 y5 y6 y7 y8) kk = (((((opD .Add (.int 2) dd).bind fun v4 => .ok (v4.2 :: [])).bind fun l5 => .ok (x0 :: l5)).bind fun l6 => callN pg n "_law_cell_at" l6).bind fun p7 => ((sndR (opD .Mod p7.2 (.int 7))).bind fun v8 => idxD (.lst [(.int 1), (.int 2), (.int 3), (.int 2), (.int 0), (.int 6), (.int 3)]) v8).bind fun p9 => ((intR (Res.ok p9.2)).bind fun i35 => rngD 0 i35).bind fun l34 => lp__law_heads_3 pg n l34 (en_lp__law_heads_3 x0 p1 L2 dd p7 p9 [] (y7) (y8)) (fun ρ => rs__law_heads_4 pg n ρ ⟨fun ρ => lp__law_heads_1 pg n ds ρ kk, fun ρ => lp__law_heads_1 pg n ds ρ kk, kk⟩) : Rr) := by kernel_rfl
theorem S__law_heads {pg : Pg} {n : Nat} (h : ∃ N : List Str, N.length = 9 ∧ pg.fs.lookup ("_law_heads" : Str) = some ⟨N, 1, c__law_heads, false⟩) (x0 : D) : callN pg (n + 1) "_law_heads" [x0] = ((((callN pg n "_law_cell_at" [x0, (.int 0)]).bind fun v1 => .ok (v1.2 :: [])).bind fun l2 => callN pg n "_law_names" l2).bind fun p3 => ((intR (sndR ((sndR ((sndR (callN pg n "_law_cell_at" [x0, (.int 1)])).bind fun v37 => opD .Mod v37 (.int 4))).bind fun v38 => opD .Add (.int 1) v38))).bind fun i39 => rngD 0 i39).bind fun l36 => lp__law_heads_1 pg n l36 (en_lp__law_heads_1 x0 p3 [] (none) (none) (none) (none) (none) (none)) (fun ρ => rs__law_heads_2 pg n ρ K0) : Rr) := by
  rw [k_run h]
  kernel_rfl
abbrev en_lp__law_program_1 (x0 : D) (x1 : D) (L2 : List D) (y3 : Option (Bool × D)) (y4 : Option (Bool × D)) (y5 : Option (Bool × D)) (y6 : Option (Bool × D)) (y7 : Option (Bool × D)) (y8 : Option (Bool × D)) (y9 : Option (Bool × D)) (y10 : Option (Bool × D)) (y11 : Option (Bool × D)) : En := [some (false, x0), some (false, x1), some (true, .lst L2), y3, y4, y5, y6, y7, y8, y9, y10, y11, none]
def c_lp__law_program_1 : Sts := (.cons (.sets (.tup [7, 8, 9]) (.idx (.var 1) (.var 3))) (.cons (.set 4 (.comp (.one 12) [12] (.rng1 (.bi .len (.var 8))) (.one (.val (.idx (.var 9) (.var 12)))) (.idx (.var 8) (.var 12)))) (.cons (.set 5 (.call "_law_next" (.cons (.bin .Add (.bin .Mult (.call "_law_cell_at" (.cons (.var 0) (.cons (.bin .Add (.lit (.int 6)) (.var 3)) .nil))) (.lit (.int 977))) (.var 3)) .nil))) (.cons (.set 6 (.call "_law_form" (.cons (.var 5) (.cons (.bin .Add (.lit (.int 1)) (.bin .Mod (.bin .FloorDiv (.call "_law_cell_at" (.cons (.var 0) (.cons (.lit (.int 10)) .nil))) (.bin .Add (.var 3) (.lit (.int 1)))) (.lit (.int 3)))) (.cons (.bi .list (.var 8)) (.cons (.var 4) (.cons (.var 1) .nil))))))) (.cons (.ifs (.and (.val (.cmp .Gt (.bin .Mod (.bin .FloorDiv (.call "_law_cell_at" (.cons (.var 0) (.cons (.lit (.int 11)) .nil))) (.bin .Add (.var 3) (.lit (.int 1)))) (.lit (.int 3))) (.lit (.int 0)))) (.val (.cmp .Gt (.bi .len (.var 8)) (.lit (.int 0))))) (.cons (.set 10 (.call "_law_next" (.cons (.bin .Add (.var 5) (.lit (.int 31))) .nil))) (.cons (.set 11 (.tup (.cons (.lit (.str "name")) (.cons (.idx (.var 8) (.bin .Mod (.var 10) (.bi .len (.var 8)))) .nil)))) (.cons (.ifs (.val (.cmp .Eq (.bin .Mod (.bin .FloorDiv (.var 10) (.lit (.int 8))) (.lit (.int 2))) (.lit (.int 1)))) (.cons (.set 11 (.tup (.cons (.lit (.str "do")) (.cons (.lit (.str "empty")) (.cons (.tup (.cons (.var 11) .nil)) .nil))))) .nil) .nil) (.cons (.set 6 (.tup (.cons (.lit (.str "if")) (.cons (.var 11) (.cons (.var 6) (.cons (.call "_law_form" (.cons (.var 10) (.cons (.lit (.int 2)) (.cons (.bi .list (.var 8)) (.cons (.var 4) (.cons (.var 1) .nil)))))) .nil)))))) .nil)))) .nil) (.cons (.app 2 (.tup (.cons (.var 7) (.cons (.var 8) (.cons (.var 6) .nil))))) .nil))))))
def lp__law_program_1 (pg : Pg) (n : Nat) : List D → En → (En → Rr) → Rr := forK (.one 3) (exsK (pg.tb n) pg.wf c_lp__law_program_1)
def c_rs__law_program_2 : Sts := (.cons (.ret (.bi .tuple (.var 2))) .nil)
abbrev en_rs__law_program_2 (x0 : D) (x1 : D) (L2 : List D) (y3 : Option (Bool × D)) (y4 : Option (Bool × D)) (y5 : Option (Bool × D)) (y6 : Option (Bool × D)) (y7 : Option (Bool × D)) (y8 : Option (Bool × D)) (y9 : Option (Bool × D)) (y10 : Option (Bool × D)) (y11 : Option (Bool × D)) : En := [some (false, x0), some (false, x1), some (true, .lst L2), y3, y4, y5, y6, y7, y8, y9, y10, y11, none]
def rs__law_program_2 (pg : Pg) (n : Nat) : En → Kt → Rr := exsK (pg.tb n) pg.wf c_rs__law_program_2
theorem rs__law_program_2_eq {pg : Pg} {n : Nat} (x0 : D) (x1 : D) (L2 : List D) (y3 : Option (Bool × D)) (y4 : Option (Bool × D)) (y5 : Option (Bool × D)) (y6 : Option (Bool × D)) (y7 : Option (Bool × D)) (y8 : Option (Bool × D)) (y9 : Option (Bool × D)) (y10 : Option (Bool × D)) (y11 : Option (Bool × D)) (kk : Kt) : rs__law_program_2 pg n (en_rs__law_program_2 x0 x1 L2 y3 y4 y5 y6 y7 y8 y9 y10 y11) kk = (biD .tuple (.lst L2) : Rr) := by kernel_rfl
theorem lp__law_program_1_nil {pg : Pg} {n : Nat} (ρ : En) (kk : En → Rr) : lp__law_program_1 pg n [] ρ kk = kk ρ := rfl
theorem lp__law_program_1_cons {pg : Pg} {n : Nat} (dd : D) (ds : List D) (x0 : D) (x1 : D) (L2 : List D) (y3 : Option (Bool × D)) (y4 : Option (Bool × D)) (y5 : Option (Bool × D)) (y6 : Option (Bool × D)) (y7 : Option (Bool × D)) (y8 : Option (Bool × D)) (y9 : Option (Bool × D)) (y10 : Option (Bool × D)) (y11 : Option (Bool × D)) (kk : En → Rr) : lp__law_program_1 pg n (dd :: ds) (en_lp__law_program_1 x0 x1 L2 y3 y4 y5 y6 y7 y8 y9 y10 y11) kk = ((idxD x1 dd).bind fun v68 => tup3 v68.2 (fun d1 d2 d3 => (((intR (sndR (biD .len d2))).bind fun i8 => rngD 0 i8).bind fun l7 => if l7.length ≤ sizeLine then (compL (fun z4 => noX (((sndR (idxD d3 z4)).bind D.tru).bind fun t6 => if t6 = true then (idxD d2 z4).bind fun v5 => Res.ok (some v5.2) else .ok none)) l7).bind fun w9 => .ok (true, .lst w9) else .fail).bind fun p10 => ((((sndR ((sndR ((((opD .Add (.int 6) dd).bind fun v11 => .ok (v11.2 :: [])).bind fun l12 => .ok (x0 :: l12)).bind fun l13 => callN pg n "_law_cell_at" l13)).bind fun v14 => opD .Mult v14 (.int 977))).bind fun v15 => opD .Add v15 dd).bind fun v16 => .ok (v16.2 :: [])).bind fun l17 => callN pg n "_law_next" l17).bind fun p18 => (((((sndR ((sndR ((sndR (callN pg n "_law_cell_at" [x0, (.int 10)])).bind fun v19 => (sndR (opD .Add dd (.int 1))).bind fun v20 => opD .FloorDiv v19 v20)).bind fun v21 => opD .Mod v21 (.int 3))).bind fun v22 => opD .Add (.int 1) v22).bind fun v24 => ((biD .list d2).bind fun v23 => .ok (v23.2 :: [p10.2, x1])).bind fun l25 => .ok (v24.2 :: l25)).bind fun l26 => .ok (p18.2 :: l26)).bind fun l27 => callN pg n "_law_form" l27).bind fun p28 => (((sndR ((sndR ((sndR ((sndR (callN pg n "_law_cell_at" [x0, (.int 11)])).bind fun v30 => (sndR (opD .Add dd (.int 1))).bind fun v31 => opD .FloorDiv v30 v31)).bind fun v32 => opD .Mod v32 (.int 3))).bind fun v33 => okB (cmpD .Gt v33 (.int 0)))).bind D.tru).bind fun t29 => if t29 = true then (sndR ((sndR (biD .len d2)).bind fun v34 => okB (cmpD .Gt v34 (.int 0)))).bind D.tru else .ok false).bind fun t35 => if t35 = true then ((((opD .Add p18.2 (.int 31)).bind fun v36 => .ok (v36.2 :: [])).bind fun l37 => callN pg n "_law_next" l37).bind fun p38 => (((((sndR ((sndR (biD .len d2)).bind fun v39 => opD .Mod p38.2 v39)).bind fun v40 => idxD d2 v40).bind fun v41 => .ok (v41.2 :: [])).bind fun l42 => .ok ((.str "name") :: l42)).bind fun l43 => if (l43 : List D).length ≤ sizeLine then okF (.tup l43) else .fail).bind fun p44 => ((sndR ((sndR ((sndR (opD .FloorDiv p38.2 (.int 8))).bind fun v45 => opD .Mod v45 (.int 2))).bind fun v46 => okB (cmpD .Eq v46 (.int 1)))).bind D.tru).bind fun t47 => if t47 = true then (((((((((((biD .list d2).bind fun v48 => .ok (v48.2 :: [p10.2, x1])).bind fun l49 => .ok ((.int 2) :: l49)).bind fun l50 => .ok (p38.2 :: l50)).bind fun l51 => callN pg n "_law_form" l51).bind fun v52 => .ok (v52.2 :: [])).bind fun l53 => .ok (p28.2 :: l53)).bind fun l54 => .ok ((.tup [(.str "do"), (.str "empty"), (.tup [p44.2])]) :: l54)).bind fun l55 => .ok ((.str "if") :: l55)).bind fun l56 => if (l56 : List D).length ≤ sizeLine then okF (.tup l56) else .fail).bind fun p57 => if (L2 : List D).length < sizeLine then lp__law_program_1 pg n ds (en_lp__law_program_1 x0 x1 (L2 ++ [(.tup [d1, d2, p57.2])]) (some (false, dd)) (some (false, p10.2)) (some (false, p18.2)) (some (false, p57.2)) (some (false, d1)) (some (false, d2)) (some (false, d3)) (some (false, p38.2)) (some (false, (.tup [(.str "do"), (.str "empty"), (.tup [p44.2])])))) kk else .fail) else ((((((((((biD .list d2).bind fun v58 => .ok (v58.2 :: [p10.2, x1])).bind fun l59 => .ok ((.int 2) :: l59)).bind fun l60 => .ok (p38.2 :: l60)).bind fun l61 => callN pg n "_law_form" l61).bind fun v62 => .ok (v62.2 :: [])).bind fun l63 => .ok (p28.2 :: l63)).bind fun l64 => .ok (p44.2 :: l64)).bind fun l65 => .ok ((.str "if") :: l65)).bind fun l66 => if (l66 : List D).length ≤ sizeLine then okF (.tup l66) else .fail).bind fun p67 => if (L2 : List D).length < sizeLine then lp__law_program_1 pg n ds (en_lp__law_program_1 x0 x1 (L2 ++ [(.tup [d1, d2, p67.2])]) (some (false, dd)) (some (false, p10.2)) (some (false, p18.2)) (some (false, p67.2)) (some (false, d1)) (some (false, d2)) (some (false, d3)) (some (false, p38.2)) (some (false, p44.2))) kk else .fail) else if (L2 : List D).length < sizeLine then lp__law_program_1 pg n ds (en_lp__law_program_1 x0 x1 (L2 ++ [(.tup [d1, d2, p28.2])]) (some (false, dd)) (some (false, p10.2)) (some (false, p18.2)) (some (false, p28.2)) (some (false, d1)) (some (false, d2)) (some (false, d3)) (y10) (y11)) kk else .fail) : Rr) := by kernel_rfl
theorem S__law_program {pg : Pg} {n : Nat} (h : ∃ N : List Str, N.length = 13 ∧ pg.fs.lookup ("_law_program" : Str) = some ⟨N, 2, c__law_program, false⟩) (x0 x1 : D) : callN pg (n + 1) "_law_program" [x0, x1] = (((intR (sndR (biD .len x1))).bind fun i70 => rngD 0 i70).bind fun l69 => lp__law_program_1 pg n l69 (en_lp__law_program_1 x0 x1 [] (none) (none) (none) (none) (none) (none) (none) (none) (none)) (fun ρ => rs__law_program_2 pg n ρ K0) : Rr) := by
  rw [k_run h]
  kernel_rfl

end Kv

namespace Kv
open PySem PySem.Spec PyProof.Rows L2 Hf
set_option autoImplicit false
def bC : Sts := .cons (.set 8 (.call "_law_next" (.cons (.bin .Add (.var 0) (.bin .Mult (.lit (.int 7919)) (.var 7))) .nil)))
    (.cons (.ifs (.val (.idx (.idx (.var 5) (.lit (.int 2))) (.var 7))) (.cons (.app 6 (.call "_law_tame" (.cons (.var 8) (.cons (.var 3) (.cons (.var 4) .nil)))))
    .nil) (.cons (.app 6 (.call "_law_form" (.cons (.var 8) (.cons (.var 1) (.cons (.var 2) (.cons (.var 3) (.cons (.var 4) .nil)))))))
    .nil))
    .nil)
theorem call_body {T : Tb} {wf : Nat} {p q : Int} {i : Nat} {d1 d2 d3 d4 x a0 a1 : D} {x8 : Option (Bool × D)} {L bs : List D} {b : Bool} (hb : atI bs (i : Int) = some (.bl b)) (hn : T.fn "_law_next" [.int (p + 7919 * i)] = .ok (false, .int q)) (h1 : b = true → T.fn "_law_tame" [.int q, d3, d4] = .ok (false, x)) (h2 : b = false → T.fn "_law_form" [.int q, d1, d2, d3, d4] = .ok (false, x)) (hl : L.length < sizeLine) :
    exs T wf bC [some (false, .int p), some (false, d1), some (false, d2), some (false, d3), some (false, d4), some (false, .tup [a0, a1, .tup bs]), some (true, .lst L), some (false, .int i), x8] = .nx [some (false, .int p), some (false, d1), some (false, d2), some (false, d3), some (false, d4), some (false, .tup [a0, a1, .tup bs]), some (true, .lst (L ++ [x])), some (false, .int i), some (false, .int q)] := by
  refine g_sx (x := (false, .int q)) (e_call (e_cons (ev_pk p i _ rfl rfl T) e_nil) hn) ?_
  have t : evT T (.val (.idx (.idx (.var 5) (.lit (.int 2))) (.var 7))) [some (false, .int p), some (false, d1), some (false, d2), some (false, d3), some (false, d4), some (false, .tup [a0, a1, .tup bs]), some (true, .lst L), some (false, .int i), some (false, .int q)] = .ok b := by
    refine te_bl (b := false) ?_
    have e2 : atI [a0, a1, D.tup bs] 2 = some (.tup bs) := rfl
    simp [runD, argsD, entE, exs, ex, evT, ev, evs, evo, evc, evi, bor, getO, getF, sndR, intR, Res.bind, onR, Fl.seq, fz, usT, us, ub, uss, uso, usc, usi, isiD, okB, D.tru, negD, cmpD, opD, idxD, slcD, biD, okF, endR, setE, bindT, itemsD, tb_fn, tb_fl, tb_gok, itemsW, m1T, m1D, lensetD, blR, tb_gl, tb_ar, tb_ki, tb_sub, tb_hot, e2, hb]
  cases b with
  | true => exact g_t t (s_nx (b_one (a_app (ds := L) (x := (false, x)) rfl (e_call (e_cons e_var (e_cons e_var (e_cons e_var e_nil))) (h1 rfl)) hl rfl)) (by rw [exs]; rfl))
  | false => exact g_f t (s_nx (b_one (a_app (ds := L) (x := (false, x)) rfl (e_call (e_cons e_var (e_cons e_var (e_cons e_var (e_cons e_var (e_cons e_var e_nil))))) (h2 rfl)) hl rfl)) (by rw [exs]; rfl))
theorem call_loop {T : Tb} {wf : Nat} {p : Int} {d1 d2 d3 d4 a0 a1 : D} {bs : List D} {P : Nat → E → Prop} (h : ∀ i : Nat, i < bs.length → ∃ (b : Bool) (q : Int) (e : E), P i e ∧ atI bs (i : Int) = some (.bl b) ∧ T.fn "_law_next" [.int (p + 7919 * i)] = .ok (false, .int q) ∧ (b = true → T.fn "_law_tame" [.int q, d3, d4] = .ok (false, e.d)) ∧ (b = false → T.fn "_law_form" [.int q, d1, d2, d3, d4] = .ok (false, e.d))) :
    ∀ (ks : List Nat) (L : List D) (x7 x8 : Option (Bool × D)), (∀ k ∈ ks, k < bs.length) → L.length + ks.length ≤ 1000 → ∃ (es : List E) (y7 y8 : Option (Bool × D)), es.length = ks.length ∧ (∀ (j k : Nat) (e : E), ks[j]? = some k → es[j]? = some e → P k e) ∧
      forN (.one 7) (exs T wf bC) (ks.map fun (i : Nat) => D.int (i : Int)) [some (false, .int p), some (false, d1), some (false, d2), some (false, d3), some (false, d4), some (false, .tup [a0, a1, .tup bs]), some (true, .lst L), x7, x8] = .nx [some (false, .int p), some (false, d1), some (false, d2), some (false, d3), some (false, d4), some (false, .tup [a0, a1, .tup bs]), some (true, .lst (L ++ E.ds es)), y7, y8]
  | [], L, x7, x8, _, _ => ⟨[], x7, x8, rfl, (by intro j k e h; simp at h), by simp [forN, E.ds]⟩
  | k :: ks, L, x7, x8, hk, hl => by
    obtain ⟨b, q, e, h1, h2, h3, h4, h5⟩ := h k (hk k List.mem_cons_self)
    rw [List.length_cons] at hl
    have hL : L.length < sizeLine := by rw [sizeLine_eq]; omega
    obtain ⟨es, y7, y8, e1, e2, e3⟩ := call_loop h ks (L ++ [e.d]) (some (false, .int k)) (some (false, .int q)) (fun j hj => hk j (List.mem_cons_of_mem _ hj)) (by rw [List.length_append, List.length_singleton]; omega)
    refine ⟨e :: es, y7, y8, by simp [e1], fun j k' e' z1 z2 => ?_, ?_⟩
    · cases j with
      | zero => simp at z1 z2; subst z1 z2; exact h1
      | succ j => exact e2 j k' e' (by simpa using z1) (by simpa using z2)
    have z : L ++ E.ds (e :: es) = (L ++ [e.d]) ++ E.ds es := by simp [E.ds]
    rw [z]
    exact f_nx rfl (call_body (x := e.d) h2 h3 h4 h5 hL) e3
section
variable {pg : Pg} (H : HasG pg) {ps kn : List Str} (hk : ∀ z ∈ kn, PyData.strOk z = true) {hs : List Hh} (hhs : Hs hs)
include H hk hhs
theorem v_call {d n : Nat} (ih : Fm pg ps kn hs d (n + 2)) (p : Int) : ∃ e : E, Ge ps kn hs (d + 1) e ∧ callN pg (n + 3) "_law_call" [.int p, .int d, .lst (ps.map .str), .lst (kn.map .str), .lst (hs.map Hh.d)] = .ok (false, e.d) := by
  have hl : 0 < hs.length := List.length_pos_iff.mpr hhs.ne
  have m0 := Int.emod_nonneg p (b := (hs.length : Int)) (by omega)
  have m1 := Int.emod_lt_of_pos p (b := (hs.length : Int)) (by omega)
  obtain ⟨k, hkk⟩ : ∃ k : Nat, p % (hs.length : Int) = k := ⟨(p % (hs.length : Int)).toNat, by omega⟩
  have hk2 : k < hs.length := by omega
  obtain ⟨hh, hmem, hat⟩ : ∃ hh ∈ hs, atI (hs.map Hh.d) (p % (hs.length : Int)) = some hh.d := by
    refine ⟨hs[k], List.getElem_mem _, ?_⟩
    rw [hkk, atI_nat (by simpa using hk2)]
    simp
  have hlen := hhs.len hh hmem
  have h6 := hhs.few hh hmem
  have tame := fun q : Int => v_tame H (n := n) q hk hs
  have nx := fun i : Nat => v_next (n := n + 1) H.toHasC (p + 7919 * i)
  have bsl : (hh.kn.map D.bl).length = hh.kn.length := by simp
  have key : ∀ i : Nat, i < (hh.kn.map D.bl).length → ∃ (b : Bool) (q : Int) (e : E), ((hh.kn[i]? = some true → Tame kn e) ∧ (hh.kn[i]? ≠ some true → Ge ps kn hs d e)) ∧ atI (hh.kn.map D.bl) (i : Int) = some (.bl b) ∧ (pg.tb (n + 2)).fn "_law_next" [.int (p + 7919 * i)] = .ok (false, .int q) ∧ (b = true → (pg.tb (n + 2)).fn "_law_tame" [.int q, .lst (kn.map .str), .lst (hs.map Hh.d)] = .ok (false, e.d)) ∧ (b = false → (pg.tb (n + 2)).fn "_law_form" [.int q, .int d, .lst (ps.map .str), .lst (kn.map .str), .lst (hs.map Hh.d)] = .ok (false, e.d)) := fun i hi => by
    have hi' : i < hh.kn.length := by rw [bsl] at hi; exact hi
    have ea : atI (hh.kn.map D.bl) (i : Int) = some (.bl hh.kn[i]) := by rw [atI_nat hi]; simp
    have eg : hh.kn[i]? = some hh.kn[i] := List.getElem?_eq_getElem hi'
    generalize hh.kn[i] = b at *
    cases b with
    | true =>
      obtain ⟨e, h1, h2⟩ := tame (nextI (p + 7919 * i))
      exact ⟨true, _, e, ⟨fun _ => h1, fun z => absurd eg z⟩, ea, nx i, fun _ => h2, fun z => (nomatch z)⟩
    | false =>
      obtain ⟨e, h1, h2⟩ := ih (nextI (p + 7919 * i))
      exact ⟨false, _, e, ⟨fun z => (by rw [eg] at z; cases z), fun _ => h1⟩, ea, nx i, fun z => (nomatch z), fun _ => h2⟩
  clear tame ih nx
  have ek : Hh.d hh = .tup [.str hh.nm, .tup (hh.ps.map .str), .tup (hh.kn.map .bl)] := rfl
  rw [ek] at hat
  have hpl : (hh.ps.map D.str).length = hh.kn.length := by rw [List.length_map]; exact hlen.symm
  have hll : (hs.map Hh.d).length = hs.length := by simp
  generalize D.lst (ps.map .str) = d2 at *
  generalize D.lst (kn.map .str) = d3 at *
  generalize hs.map Hh.d = hd at *
  generalize hh.ps.map D.str = pd at *
  obtain ⟨es, y7, y8, e1, e2, e3⟩ := call_loop (wf := pg.wf) (a0 := .str hh.nm) (a1 := .tup pd) key (List.range hh.kn.length) [] none none (fun k hk => by rw [bsl]; exact List.mem_range.mp hk) (by simp; omega)
  rw [List.length_range] at e1
  generalize hh.kn.map D.bl = bs at *
  have r := rng0 hh.kn.length (by omega)
  refine ⟨.call hh.nm es, .call d hh es hmem (by rw [e1]; exact hlen) (fun i e h1 h2 => (e2 i i e ?_ h1).1 h2) (fun i e h1 h2 => (e2 i i e ?_ h1).2 h2), c_runN [some (false, .int p), some (false, .int d), some (false, d2), some (false, d3), some (false, .lst hd), none, none, none, none] H.l__law_call (R := .rt false (E.d (.call hh.nm es))) (g_sx (x := (false, .tup [.str hh.nm, .tup pd, .tup bs])) ?_ (g_sx (x := (true, .lst [])) ?_ (g_for _ (evi_rng1 (k := (hh.kn.length : Nat)) ?_ r) e3 (g_ret (x := (false, E.d (.call hh.nm es))) (e_tup (e_cons e_lit (e_cons (b := false) (d := .str hh.nm) ?_ (e_cons (b := false) (d := .tup (E.ds es)) ?_ e_nil))) (sz 3)))))) rfl⟩
  · have : i < hh.kn.length := by rw [← e1]; exact (List.getElem?_eq_some_iff.mp h1).1
    rw [List.getElem?_range this]
  · have : i < hh.kn.length := by rw [← e1]; exact (List.getElem?_eq_some_iff.mp h1).1
    rw [List.getElem?_range this]
  · simp [runD, argsD, entE, exs, ex, evT, ev, evs, evo, evc, evi, bor, getO, getF, sndR, intR, Res.bind, onR, Fl.seq, fz, usT, us, ub, uss, uso, usc, usi, isiD, okB, D.tru, negD, cmpD, opD, idxD, slcD, biD, okF, endR, setE, bindT, itemsD, tb_fn, tb_fl, tb_gok, itemsW, m1T, m1D, lensetD, blR, tb_gl, tb_ar, tb_ki, tb_sub, tb_hot, hll, hat, hl]
  · have z0 := sz 0
    simp [runD, argsD, entE, exs, ex, evT, ev, evs, evo, evc, evi, bor, getO, getF, sndR, intR, Res.bind, onR, Fl.seq, fz, usT, us, ub, uss, uso, usc, usi, isiD, okB, D.tru, negD, cmpD, opD, idxD, slcD, biD, okF, endR, setE, bindT, itemsD, tb_fn, tb_fl, tb_gok, itemsW, m1T, m1D, lensetD, blR, tb_gl, tb_ar, tb_ki, tb_sub, tb_hot, z0]
  · have e1 : atI [D.str hh.nm, .tup pd, .tup bs] 1 = some (.tup pd) := rfl
    simp [runD, argsD, entE, exs, ex, evT, ev, evs, evo, evc, evi, bor, getO, getF, sndR, intR, Res.bind, onR, Fl.seq, fz, usT, us, ub, uss, uso, usc, usi, isiD, okB, D.tru, negD, cmpD, opD, idxD, slcD, biD, okF, endR, setE, bindT, itemsD, tb_fn, tb_fl, tb_gok, itemsW, m1T, m1D, lensetD, blR, tb_gl, tb_ar, tb_ki, tb_sub, tb_hot, e1, hpl]
  · have e1 : atI [D.str hh.nm, .tup pd, .tup bs] 0 = some (.str hh.nm) := rfl
    simp [runD, argsD, entE, exs, ex, evT, ev, evs, evo, evc, evi, bor, getO, getF, sndR, intR, Res.bind, onR, Fl.seq, fz, usT, us, ub, uss, uso, usc, usi, isiD, okB, D.tru, negD, cmpD, opD, idxD, slcD, biD, okF, endR, setE, bindT, itemsD, tb_fn, tb_fl, tb_gok, itemsW, m1T, m1D, lensetD, blR, tb_gl, tb_ar, tb_ki, tb_sub, tb_hot, e1]
  · simp [runD, argsD, entE, exs, ex, evT, ev, evs, evo, evc, evi, bor, getO, getF, sndR, intR, Res.bind, onR, Fl.seq, fz, usT, us, ub, uss, uso, usc, usi, isiD, okB, D.tru, negD, cmpD, opD, idxD, slcD, biD, okF, endR, setE, bindT, itemsD, tb_fn, tb_fl, tb_gok, itemsW, m1T, m1D, lensetD, blR, tb_gl, tb_ar, tb_ki, tb_sub, tb_hot]
end

end Kv

namespace Kv
open PySem PySem.Spec PyProof.Rows L2 Hf
set_option autoImplicit false
def leafC : Sts := .cons (.ifs (.and (.val (.cmp .NotEq (.var 2) (.lst .nil))) (.val (.cmp .Gt (.bin .Mod (.var 6) (.lit (.int 4))) (.lit (.int 0))))) (.cons (.ret (.tup (.cons (.lit (.str "name")) (.cons (.idx (.var 2) (.bin .Mod (.bin .FloorDiv (.var 6) (.lit (.int 4))) (.bi .len (.var 2)))) .nil))))
    .nil) .nil)
    (.cons (.ret (.tup (.cons (.lit (.str "value")) (.cons (.call "_law_value" (.cons (.bin .FloorDiv (.var 6) (.lit (.int 4))) .nil)) .nil))))
    .nil)
def wordR : List D := [.str "NoNumber", .str "NoList", .str "NoFirst", .str "NoDown", .str "ByNought", .str "TooGreat"]
section
variable {pg : Pg} (H : HasG pg) {ps kn : List Str} (hp : ∀ z ∈ ps, PyData.strOk z = true) (hk : ∀ z ∈ kn, PyData.strOk z = true) {hs : List Hh} (hhs : Hs hs)
include H hp
theorem v_leaf {n : Nat} (d : Nat) (p way q : Int) (d1 d3 d4 : D) : ∃ e : E, Ge ps kn hs d e ∧ exs (pg.tb (n + 1)) pg.wf leafC [some (false, .int p), some (false, d1), some (false, .lst (ps.map .str)), some (false, d3), some (false, d4), some (false, .int way), some (false, .int q)] = .rt false e.d := by
  have l4 := lg 4
  have hne := eq_nilL H hp
  have t : evT (pg.tb (n + 1)) (.and (.val (.cmp .NotEq (.var 2) (.lst .nil))) (.val (.cmp .Gt (.bin .Mod (.var 6) (.lit (.int 4))) (.lit (.int 0))))) [some (false, .int p), some (false, d1), some (false, .lst (ps.map .str)), some (false, d3), some (false, d4), some (false, .int way), some (false, .int q)] = .ok (!ps.isEmpty && decide (0 < q % 4)) := by
    have z0 := sz 0
    refine te_and (te_bl (b := false) ?_) fun _ => te_bl (b := false) ?_
    · simp [runD, argsD, entE, exs, ex, evT, ev, evs, evo, evc, evi, bor, getO, getF, sndR, intR, Res.bind, onR, Fl.seq, fz, usT, us, ub, uss, uso, usc, usi, isiD, okB, D.tru, negD, cmpD, opD, idxD, slcD, biD, okF, endR, setE, bindT, itemsD, tb_fn, tb_fl, tb_gok, itemsW, m1T, m1D, lensetD, blR, tb_gl, tb_ar, tb_ki, tb_sub, tb_hot, hne, z0]
    · simp [runD, argsD, entE, exs, ex, evT, ev, evs, evo, evc, evi, bor, getO, getF, sndR, intR, Res.bind, onR, Fl.seq, fz, usT, us, ub, uss, uso, usc, usi, isiD, okB, D.tru, negD, cmpD, opD, idxD, slcD, biD, okF, endR, setE, bindT, itemsD, tb_fn, tb_fl, tb_gok, itemsW, m1T, m1D, lensetD, blR, tb_gl, tb_ar, tb_ki, tb_sub, tb_hot]
  cases c : (!ps.isEmpty && decide (0 < q % 4)) with
  | true =>
    rw [c] at t
    have k0 : ps ≠ [] := by
      intro z
      rw [z] at c
      cases c
    obtain ⟨z, hz, ez⟩ := at_strs H k0 (q / 4)
    have hlN : 0 < ps.length := List.length_pos_iff.mpr k0
    refine ⟨.nm z, .nm _ z hz, g_t t (s_rt (g_ret (x := (false, E.d (.nm z))) (e_tup (e_cons e_lit (e_cons (b := false) (d := .str z) ?_ e_nil)) (sz 2))))⟩
    simp [runD, argsD, entE, exs, ex, evT, ev, evs, evo, evc, evi, bor, getO, getF, sndR, intR, Res.bind, onR, Fl.seq, fz, usT, us, ub, uss, uso, usc, usi, isiD, okB, D.tru, negD, cmpD, opD, idxD, slcD, biD, okF, endR, setE, bindT, itemsD, tb_fn, tb_fl, tb_gok, itemsW, m1T, m1D, lensetD, blR, tb_gl, tb_ar, tb_ki, tb_sub, tb_hot, l4, hlN, ez]
  | false =>
    rw [c] at t
    obtain ⟨v, hv, evv⟩ := v_lvalue H.toHasC (q / 4)
    refine ⟨.val v, .val _ v hv, g_fn t (g_ret (x := (false, E.d (.val v))) (e_tup (e_cons e_lit (e_cons (e_call (e_cons (b := false) (d := .int (q / 4)) ?_ e_nil) (evv n)) e_nil)) (sz 2)))⟩
    simp [runD, argsD, entE, exs, ex, evT, ev, evs, evo, evc, evi, bor, getO, getF, sndR, intR, Res.bind, onR, Fl.seq, fz, usT, us, ub, uss, uso, usc, usi, isiD, okB, D.tru, negD, cmpD, opD, idxD, slcD, biD, okF, endR, setE, bindT, itemsD, tb_fn, tb_fl, tb_gok, itemsW, m1T, m1D, lensetD, blR, tb_gl, tb_ar, tb_ki, tb_sub, tb_hot, l4]
include hk hhs
theorem v_form : ∀ (d n : Nat), 4 * d + 6 ≤ n → Fm pg ps kn hs d n
  | 0, n, hn, p => by
    obtain ⟨m, rfl⟩ : ∃ m, n = m + 2 := ⟨n - 2, by omega⟩
    have nx := v_next (n := m) H.toHasC p
    have l3 := lg 3
    generalize D.lst (kn.map .str) = d3
    generalize D.lst (hs.map Hh.d) = d4
    obtain ⟨e, h1, h2⟩ := v_leaf H hp (n := m) (kn := kn) (hs := hs) 0 p (p / 3 % 13) (nextI p) (.int (0 : Nat)) d3 d4
    refine ⟨e, h1, c_runN [some (false, .int p), some (false, .int (0 : Nat)), some (false, .lst (ps.map .str)), some (false, d3), some (false, d4), none, none] H.l__law_form (R := .rt false e.d) (g_sx (x := (false, .int (p / 3 % 13))) ?_ (g_sx (x := (false, .int (nextI p))) (e_call (e_cons e_var e_nil) nx) (g_t (te_or (k := true) (l := true) (te_bl (b := false) ?_) fun z => nomatch z) (s_rt h2)))) rfl⟩
    · simp [runD, argsD, entE, exs, ex, evT, ev, evs, evo, evc, evi, bor, getO, getF, sndR, intR, Res.bind, onR, Fl.seq, fz, usT, us, ub, uss, uso, usc, usi, isiD, okB, D.tru, negD, cmpD, opD, idxD, slcD, biD, okF, endR, setE, bindT, itemsD, tb_fn, tb_fl, tb_gok, itemsW, m1T, m1D, lensetD, blR, tb_gl, tb_ar, tb_ki, tb_sub, tb_hot, l3]
    · simp [runD, argsD, entE, exs, ex, evT, ev, evs, evo, evc, evi, bor, getO, getF, sndR, intR, Res.bind, onR, Fl.seq, fz, usT, us, ub, uss, uso, usc, usi, isiD, okB, D.tru, negD, cmpD, opD, idxD, slcD, biD, okF, endR, setE, bindT, itemsD, tb_fn, tb_fl, tb_gok, itemsW, m1T, m1D, lensetD, blR, tb_gl, tb_ar, tb_ki, tb_sub, tb_hot, eqI]
  | d + 1, n, hn, p => by
    obtain ⟨m, rfl⟩ : ∃ m, n = m + 4 := ⟨n - 4, by omega⟩
    have nx := v_next (n := m + 2) H.toHasC p
    have l3 := lg 3
    have hparts := v_parts H (n := m + 1) (v_form d (m + 2) (by omega)) (nextI p) 3 (by omega)
    have hdo := v_do H (n := m) (v_form d (m + 1) (by omega)) (v_form 0 (m + 1) (by omega)) (nextI p)
    have hcall := v_call H hk hhs (n := m) (v_form d (m + 2) (by omega)) (nextI p)
    have hleaf := fun d1 d3 d4 => v_leaf H hp (n := m + 2) (kn := kn) (hs := hs) (d + 1) p (p / 3 % 13) (nextI p) d1 d3 d4
    have w0 := Int.emod_nonneg (p / 3) (b := 13) (by decide)
    have hr := at_strs H (zs := WD6) (by decide) (nextI p)
    generalize nextI p = q at *
    generalize hw : p / 3 % 13 = way at *
    generalize D.lst (kn.map .str) = d3 at *
    generalize D.lst (hs.map Hh.d) = d4 at *
    have hd1 : (((d + 1 : Nat) : Int) - 1) = (d : Nat) := by omega
    have hd0 : ¬ ((d + 1 : Nat) : Int) = 0 := by omega
    generalize ((d + 1 : Nat) : Int) = dk at *
    have step : ∀ {R : Fl} {ss : Sts}, exs (pg.tb (m + 3)) pg.wf ss [some (false, .int p), some (false, .int dk), some (false, .lst (ps.map .str)), some (false, d3), some (false, d4), some (false, .int way), some (false, .int q)] = R →
        exs (pg.tb (m + 3)) pg.wf (.cons (.set 5 (.bin .Mod (.bin .FloorDiv (.var 0) (.lit (.int 3))) (.lit (.int 13)))) (.cons (.set 6 (.call "_law_next" (.cons (.var 0) .nil))) ss)) [some (false, .int p), some (false, .int dk), some (false, .lst (ps.map .str)), some (false, d3), some (false, d4), none, none] = R := fun {R ss} h =>
      g_sx (x := (false, .int way)) (by simp [runD, argsD, entE, exs, ex, evT, ev, evs, evo, evc, evi, bor, getO, getF, sndR, intR, Res.bind, onR, Fl.seq, fz, usT, us, ub, uss, uso, usc, usi, isiD, okB, D.tru, negD, cmpD, opD, idxD, slcD, biD, okF, endR, setE, bindT, itemsD, tb_fn, tb_fl, tb_gok, itemsW, m1T, m1D, lensetD, blR, tb_gl, tb_ar, tb_ki, tb_sub, tb_hot, l3, hw]) (g_sx (x := (false, .int q)) (e_call (e_cons e_var e_nil) nx) h)
    have t0 : evT (pg.tb (m + 3)) (.or (.val (.cmp .Eq (.var 1) (.lit (.int 0)))) (.val (.cmp .Lt (.var 5) (.lit (.int 3))))) [some (false, .int p), some (false, .int dk), some (false, .lst (ps.map .str)), some (false, d3), some (false, d4), some (false, .int way), some (false, .int q)] = .ok (false || decide (way < 3)) :=
      te_or (te_bl (b := false) (by simp [runD, argsD, entE, exs, ex, evT, ev, evs, evo, evc, evi, bor, getO, getF, sndR, intR, Res.bind, onR, Fl.seq, fz, usT, us, ub, uss, uso, usc, usi, isiD, okB, D.tru, negD, cmpD, opD, idxD, slcD, biD, okF, endR, setE, bindT, itemsD, tb_fn, tb_fl, tb_gok, itemsW, m1T, m1D, lensetD, blR, tb_gl, tb_ar, tb_ki, tb_sub, tb_hot, eqI, hd0])) fun _ => te_bl (b := false) (by simp [runD, argsD, entE, exs, ex, evT, ev, evs, evo, evc, evi, bor, getO, getF, sndR, intR, Res.bind, onR, Fl.seq, fz, usT, us, ub, uss, uso, usc, usi, isiD, okB, D.tru, negD, cmpD, opD, idxD, slcD, biD, okF, endR, setE, bindT, itemsD, tb_fn, tb_fl, tb_gok, itemsW, m1T, m1D, lensetD, blR, tb_gl, tb_ar, tb_ki, tb_sub, tb_hot])
    have tw : ∀ k : Int, evT (pg.tb (m + 3)) (.val (.cmp .Lt (.var 5) (.lit (.int k)))) [some (false, .int p), some (false, .int dk), some (false, .lst (ps.map .str)), some (false, d3), some (false, d4), some (false, .int way), some (false, .int q)] = .ok (decide (way < k)) := fun k => te_bl (b := false) (by simp [runD, argsD, entE, exs, ex, evT, ev, evs, evo, evc, evi, bor, getO, getF, sndR, intR, Res.bind, onR, Fl.seq, fz, usT, us, ub, uss, uso, usc, usi, isiD, okB, D.tru, negD, cmpD, opD, idxD, slcD, biD, okF, endR, setE, bindT, itemsD, tb_fn, tb_fl, tb_gok, itemsW, m1T, m1D, lensetD, blR, tb_gl, tb_ar, tb_ki, tb_sub, tb_hot])
    have t6 := tw 6
    have t9 := tw 9
    have t12 := tw 12
    have sub : ev (pg.tb (m + 3)) (.bin .Sub (.var 1) (.lit (.int 1))) [some (false, .int p), some (false, .int dk), some (false, .lst (ps.map .str)), some (false, d3), some (false, d4), some (false, .int way), some (false, .int q)] = .ok (false, .int (d : Nat)) := by
      simp [runD, argsD, entE, exs, ex, evT, ev, evs, evo, evc, evi, bor, getO, getF, sndR, intR, Res.bind, onR, Fl.seq, fz, usT, us, ub, uss, uso, usc, usi, isiD, okB, D.tru, negD, cmpD, opD, idxD, slcD, biD, okF, endR, setE, bindT, itemsD, tb_fn, tb_fl, tb_gok, itemsW, m1T, m1D, lensetD, blR, tb_gl, tb_ar, tb_ki, tb_sub, tb_hot, hd1]
    have fin : ∀ {e : E}, Ge ps kn hs (d + 1) e → exs (pg.tb (m + 3)) pg.wf c__law_form [some (false, .int p), some (false, .int dk), some (false, .lst (ps.map .str)), some (false, d3), some (false, d4), none, none] = .rt false e.d → ∃ e : E, Ge ps kn hs (d + 1) e ∧ callN pg (m + 4) "_law_form" [.int p, .int dk, .lst (ps.map .str), d3, d4] = .ok (false, e.d) := fun {e} h1 h2 => ⟨e, h1, c_runN _ H.l__law_form h2 rfl⟩
    by_cases c0 : way < 3
    · rw [decide_eq_true c0] at t0
      obtain ⟨e, h1, h2⟩ := hleaf (.int dk) d3 d4
      exact fin h1 (step (g_t t0 (s_rt h2)))
    rw [decide_eq_false c0] at t0
    by_cases c6 : way < 6
    · rw [decide_eq_true c6] at t6
      obtain ⟨es, e1, e2, e3⟩ := hparts
      obtain ⟨a, b, c, rfl⟩ : ∃ a b c, es = [a, b, c] := by
        match es, e1 with
        | [a, b, c], _ => exact ⟨a, b, c, rfl⟩
      have z1 := sz 1
      have z4 := sz 4
      have ec : ev (pg.tb (m + 3)) (.call "_law_parts" (.cons (.var 6) (.cons (.lit (.int 3)) (.cons (.bin .Sub (.var 1) (.lit (.int 1))) (.cons (.var 2) (.cons (.var 3) (.cons (.var 4) .nil))))))) [some (false, .int p), some (false, .int dk), some (false, .lst (ps.map .str)), some (false, d3), some (false, d4), some (false, .int way), some (false, .int q)] = .ok (false, .tup (E.ds [a, b, c])) :=
        e_call (e_cons e_var (e_cons e_lit (e_cons sub (e_cons e_var (e_cons e_var (e_cons e_var e_nil)))))) e3
      refine fin (e := .iff a b c) (.iff d a b c (e2 a (by simp)) (e2 b (by simp)) (e2 c (by simp))) (step (g_fn t0 (g_t t6 (s_rt (g_ret (x := (false, E.d (.iff a b c))) ?_)))))
      rw [ev]
      rw [show bor (.call "_law_parts" (.cons (.var 6) (.cons (.lit (.int 3)) (.cons (.bin .Sub (.var 1) (.lit (.int 1))) (.cons (.var 2) (.cons (.var 3) (.cons (.var 4) .nil))))))) [some (false, .int p), some (false, .int dk), some (false, .lst (ps.map .str)), some (false, d3), some (false, d4), some (false, .int way), some (false, .int q)] (ev (pg.tb (m + 3)) (.call "_law_parts" (.cons (.var 6) (.cons (.lit (.int 3)) (.cons (.bin .Sub (.var 1) (.lit (.int 1))) (.cons (.var 2) (.cons (.var 3) (.cons (.var 4) .nil))))))) [some (false, .int p), some (false, .int dk), some (false, .lst (ps.map .str)), some (false, d3), some (false, d4), some (false, .int way), some (false, .int q)]) = sndR (ev (pg.tb (m + 3)) (.call "_law_parts" (.cons (.var 6) (.cons (.lit (.int 3)) (.cons (.bin .Sub (.var 1) (.lit (.int 1))) (.cons (.var 2) (.cons (.var 3) (.cons (.var 4) .nil))))))) [some (false, .int p), some (false, .int dk), some (false, .lst (ps.map .str)), some (false, d3), some (false, d4), some (false, .int way), some (false, .int q)]) from rfl, ec]
      simp [runD, argsD, entE, exs, ex, evT, ev, evs, evo, evc, evi, bor, getO, getF, sndR, intR, Res.bind, onR, Fl.seq, fz, usT, us, ub, uss, uso, usc, usi, isiD, okB, D.tru, negD, cmpD, opD, idxD, slcD, biD, okF, endR, setE, bindT, itemsD, tb_fn, tb_fl, tb_gok, itemsW, m1T, m1D, lensetD, blR, tb_gl, tb_ar, tb_ki, tb_sub, tb_hot, z1, z4, E.ds, E.d]
    rw [decide_eq_false c6] at t6
    by_cases c9 : way < 9
    · rw [decide_eq_true c9] at t9
      obtain ⟨e, e1, e2⟩ := hdo
      exact fin e1 (step (g_fn t0 (g_fn t6 (g_t t9 (s_rt (g_ret (x := (false, e.d)) (e_call (e_cons e_var (e_cons sub (e_cons e_var (e_cons e_var (e_cons e_var e_nil))))) e2)))))))
    rw [decide_eq_false c9] at t9
    by_cases c12 : way < 12
    · rw [decide_eq_true c12] at t12
      obtain ⟨e, e1, e2⟩ := hcall
      exact fin e1 (step (g_fn t0 (g_fn t6 (g_fn t9 (g_t t12 (s_rt (g_ret (x := (false, e.d)) (e_call (e_cons e_var (e_cons sub (e_cons e_var (e_cons e_var (e_cons e_var e_nil))))) e2))))))))
    rw [decide_eq_false c12] at t12
    obtain ⟨w, hw1, hw2⟩ := hr
    have z6 := sz 6
    have hw3 : atI [D.str "NoNumber", .str "NoList", .str "NoFirst", .str "NoDown", .str "ByNought", .str "TooGreat"] (q % 6) = some (.str w) := hw2
    refine fin (e := .ref w) (.ref _ w hw1) (step (g_fn t0 (g_fn t6 (g_fn t9 (g_fn t12 (g_ret (x := (false, E.d (.ref w))) (e_tup (e_cons e_lit (e_cons (b := false) (d := .str w) ?_ e_nil)) (sz 2))))))))
    simp [runD, argsD, entE, exs, ex, evT, ev, evs, evo, evc, evi, bor, getO, getF, sndR, intR, Res.bind, onR, Fl.seq, fz, usT, us, ub, uss, uso, usc, usi, isiD, okB, D.tru, negD, cmpD, opD, idxD, slcD, biD, okF, endR, setE, bindT, itemsD, tb_fn, tb_fl, tb_gok, itemsW, m1T, m1D, lensetD, blR, tb_gl, tb_ar, tb_ki, tb_sub, tb_hot, z6, hw3]
end

end Kv

namespace Kv
open PySem PySem.Spec PyProof.Rows L2 Hf
set_option autoImplicit false
def SGN : Str := "abcdefghijklmnopqrstuvwxyz0123456789"
def W12 : List Str := ["ifs", "listx", "plus2", "refuses", "rested", "downs", "same1", "joins", "overs", "firsts", "emptyx", "a9"]
def nmAt (a b : Int) (s : Nat) : Str := (repS "m" a ++ ⟨#[SGN.cps.getD s 0]⟩) ++ repS "m" b
def bN : Sts := .cons (.set 6 (.idx (.var 3) (.bin .Mod (.bin .Add (.bin .FloorDiv (.var 0) (.lit (.int 64))) (.var 5)) (.idx (.lst (.cons (.lit (.int 26)) (.cons (.lit (.int 36)) .nil))) (.bi .int (.cmp .Gt (.var 2) (.lit (.int 0))))))))
    (.cons (.app 4 (.bin .Add (.bin .Add (.bin .Mult (.lit (.str "m")) (.var 2)) (.var 6)) (.bin .Mult (.lit (.str "m")) (.bin .Sub (.bin .Sub (.var 1) (.lit (.int 1))) (.var 2)))))
    .nil)
/-- how many signs there are for the place -/
def sgM (place : Int) : Int := if 0 < place then 36 else 26
theorem repS_len (k : Int) (h : 0 ≤ k) (h2 : k ≤ 8) : (repS "m" k).length = k.toNat := by
  have : k = 0 ∨ k = 1 ∨ k = 2 ∨ k = 3 ∨ k = 4 ∨ k = 5 ∨ k = 6 ∨ k = 7 ∨ k = 8 := by omega
  rcases this with rfl | rfl | rfl | rfl | rfl | rfl | rfl | rfl | rfl <;> rfl
theorem names_body {T : Tb} {wf : Nat} {cell size place : Int} {k : Nat} {L : List D} {x6 : Option (Bool × D)} (h0 : 0 ≤ place) (h1 : place < size) (h2 : size ≤ 8) (hl : L.length < sizeLine) :
    ∃ s : Nat, (cell / 64 + k) % sgM place = s ∧ exs T wf bN [some (false, .int cell), some (false, .int size), some (false, .int place), some (false, .str SGN), some (true, .lst L), some (false, .int k), x6] = .nx [some (false, .int cell), some (false, .int size), some (false, .int place), some (false, .str SGN), some (true, .lst (L ++ [.str (nmAt place (size - 1 - place) s)])), some (false, .int k), some (false, .str ⟨#[SGN.cps.getD s 0]⟩)] := by
  have m0 : 0 < sgM place := by unfold sgM; split <;> decide
  have m36 : sgM place ≤ 36 := by unfold sgM; split <;> decide
  have e0 := Int.emod_nonneg (cell / 64 + k) (b := sgM place) (by omega)
  have e1 := Int.emod_lt_of_pos (cell / 64 + k) m0
  obtain ⟨s, hs⟩ : ∃ s : Nat, (cell / 64 + k) % sgM place = s := ⟨((cell / 64 + k) % sgM place).toNat, by omega⟩
  refine ⟨s, hs, ?_⟩
  have hs36 : s < 36 := by omega
  have ha : atI SGN.cps.toList (s : Int) = some (SGN.cps.getD s 0) := by
    have : ∀ i : Fin 36, atI SGN.cps.toList ((i.val : Nat) : Int) = some (SGN.cps.getD i.val 0) := by decide +kernel
    exact this ⟨s, hs36⟩
  have l64 := lg 64
  have z2 := sz 2
  have z36 : SGN.length ≤ sizeLine := by rw [sizeLine_eq]; decide
  have hm : ev T (.idx (.lst (.cons (.lit (.int 26)) (.cons (.lit (.int 36)) .nil))) (.bi .int (.cmp .Gt (.var 2) (.lit (.int 0))))) [some (false, .int cell), some (false, .int size), some (false, .int place), some (false, .str SGN), some (true, .lst L), some (false, .int k), x6] = .ok (false, .int (sgM place)) := by
    have a0 : atI [D.int 26, D.int 36] 0 = some (.int 26) := rfl
    have a1 : atI [D.int 26, D.int 36] 1 = some (.int 36) := rfl
    by_cases c : 0 < place <;> simp [runD, argsD, entE, exs, ex, evT, ev, evs, evo, evc, evi, bor, getO, getF, sndR, intR, Res.bind, onR, Fl.seq, fz, usT, us, ub, uss, uso, usc, usi, isiD, okB, D.tru, negD, cmpD, opD, idxD, slcD, biD, okF, endR, setE, bindT, itemsD, tb_fn, tb_fl, tb_gok, itemsW, m1T, m1D, lensetD, blR, tb_gl, tb_ar, tb_ki, tb_sub, tb_hot, z2, c, a0, a1, sgM]
  have hb : ev T (.bin .Mod (.bin .Add (.bin .FloorDiv (.var 0) (.lit (.int 64))) (.var 5)) (.idx (.lst (.cons (.lit (.int 26)) (.cons (.lit (.int 36)) .nil))) (.bi .int (.cmp .Gt (.var 2) (.lit (.int 0)))))) [some (false, .int cell), some (false, .int size), some (false, .int place), some (false, .str SGN), some (true, .lst L), some (false, .int k), x6] = .ok (false, .int (s : Nat)) := by
    have eb : ∀ (a b : Ex) (ρ : En), (∀ i, b ≠ .var i) → ev T (.bin .Mod a b) ρ = (bor a ρ (ev T a ρ)).bind fun x => (sndR (ev T b ρ)).bind fun y => opD .Mod x y := fun a b ρ hb => by
      rw [ev]
      cases b <;> first | rfl | exact absurd rfl (hb _)
    rw [eb _ _ _ (fun i z => by cases z), hm]
    simp [runD, argsD, entE, exs, ex, evT, ev, evs, evo, evc, evi, bor, getO, getF, sndR, intR, Res.bind, onR, Fl.seq, fz, usT, us, ub, uss, uso, usc, usi, isiD, okB, D.tru, negD, cmpD, opD, idxD, slcD, biD, okF, endR, setE, bindT, itemsD, tb_fn, tb_fl, tb_gok, itemsW, m1T, m1D, lensetD, blR, tb_gl, tb_ar, tb_ki, tb_sub, tb_hot, l64, m0, hs]
  generalize hsg : SGN = sg at *
  refine g_sx (x := (false, .str ⟨#[sg.cps.getD s 0]⟩)) ?_ (b_one (a_app (ds := L) (x := (false, .str (nmAt place (size - 1 - place) s))) rfl ?_ hl rfl))
  · have eb : ∀ (a b : Ex) (ρ : En), (∀ i, b ≠ .var i) → ev T (.idx a b) ρ = (bor a ρ (ev T a ρ)).bind fun x => (sndR (ev T b ρ)).bind fun y => idxD x y := fun a b ρ hb => by
      rw [ev]
      cases b <;> first | rfl | exact absurd rfl (hb _)
    rw [eb _ _ _ (fun i z => by cases z), hb]
    simp only [bor, getO, sndR, Res.bind, idxD, okF, List.getElem?_cons_succ, List.getElem?_cons_zero]
    rw [if_pos z36, ha]
  · have p1 : (place ≤ 1000 ∧ -1000 ≤ place ∧ (Str.ofString "m").length ≤ 1000) := ⟨by omega, by omega, by decide⟩
    have p2 : (size - 1 - place ≤ 1000 ∧ -1000 ≤ size - 1 - place ∧ (Str.ofString "m").length ≤ 1000) := ⟨by omega, by omega, by decide⟩
    have r1 := repS_len place h0 (by omega)
    have r2 := repS_len (size - 1 - place) (by omega) (by omega)
    generalize hx : (⟨#[sg.cps.getD s 0]⟩ : Str) = x
    have lx : x.length = 1 := by rw [← hx]; rfl
    have q1 : (repS "m" place).length + x.length ≤ sizeLine := by rw [r1, lx, sizeLine_eq]; omega
    have q2 : (repS "m" place ++ x).length + (repS "m" (size - 1 - place)).length ≤ sizeLine := by
      have : (repS "m" place ++ x).length = (repS "m" place).length + x.length := by
        show ((repS "m" place).cps ++ x.cps).size = _
        rw [Array.size_append]
        rfl
      rw [this, r1, r2, lx, sizeLine_eq]
      omega
    have en : nmAt place (size - 1 - place) s = (repS "m" place ++ x) ++ repS "m" (size - 1 - place) := by unfold nmAt; rw [hsg, hx]
    rw [en]
    have o1 : opD .Mult (.str "m") (.int place) = .ok (false, .str (repS "m" place)) := by simp only [opD]; rw [if_pos p1]; rfl
    have o2 : opD .Mult (.str "m") (.int (size - 1 - place)) = .ok (false, .str (repS "m" (size - 1 - place))) := by simp only [opD]; rw [if_pos p2]; rfl
    generalize repS "m" place = r at *
    generalize repS "m" (size - 1 - place) = t at *
    have o3 : opD .Add (.str r) (.str x) = .ok (false, .str (r ++ x)) := by simp only [opD]; rw [if_pos q1]; rfl
    have o4 : opD .Add (.str (r ++ x)) (.str t) = .ok (false, .str ((r ++ x) ++ t)) := by simp only [opD]; rw [if_pos q2]; rfl
    have o5 : opD .Sub (.int size) (.int 1) = .ok (false, .int (size - 1)) := rfl
    have o6 : opD .Sub (.int (size - 1)) (.int place) = .ok (false, .int (size - 1 - place)) := rfl
    simp only [ev, bor, getO, sndR, Res.bind, List.set, List.getElem?_cons_succ, List.getElem?_cons_zero, okF, o1, o2, o3, o4, o5, o6]
/-- the sign's place of the k-th name -/
def sgAt (cell place : Int) (k : Nat) : Nat := ((cell / 64 + k) % sgM place).toNat
theorem names_loop {T : Tb} {wf : Nat} {cell size place : Int} (h0 : 0 ≤ place) (h1 : place < size) (h2 : size ≤ 8) : ∀ (ks : List Nat) (L : List D) (x5 x6 : Option (Bool × D)), L.length + ks.length ≤ 1000 → ∃ y5 y6 : Option (Bool × D),
    forN (.one 5) (exs T wf bN) (ks.map fun (i : Nat) => D.int (i : Int)) [some (false, .int cell), some (false, .int size), some (false, .int place), some (false, .str SGN), some (true, .lst L), x5, x6] = .nx [some (false, .int cell), some (false, .int size), some (false, .int place), some (false, .str SGN), some (true, .lst (L ++ ks.map fun k => .str (nmAt place (size - 1 - place) (sgAt cell place k)))), y5, y6]
  | [], L, x5, x6, _ => ⟨x5, x6, by simp [forN]⟩
  | k :: ks, L, x5, x6, hl => by
    rw [List.length_cons] at hl
    obtain ⟨s, hs, e⟩ := names_body (T := T) (wf := wf) (cell := cell) (k := k) (L := L) (x6 := x6) h0 h1 h2 (by rw [sizeLine_eq]; omega)
    have es : sgAt cell place k = s := by unfold sgAt; rw [hs]; rfl
    obtain ⟨y5, y6, e2⟩ := names_loop h0 h1 h2 ks (L ++ [.str (nmAt place (size - 1 - place) s)]) (some (false, .int k)) (some (false, .str ⟨#[SGN.cps.getD s 0]⟩)) (by rw [List.length_append, List.length_singleton]; omega)
    refine ⟨y5, y6, f_nx rfl e ?_⟩
    rw [e2, List.map_cons, es]
    simp
/-- the lists of names that are drawn -/
def nmsOf (size place : Nat) (st : Nat) : List Str := (List.range 12).map fun k => nmAt place (size - 1 - place : Int) ((st + k) % (sgM place).toNat)
def nmsW (r : Nat) : List Str := (List.range 12).map fun k => W12.getD ((r + k) % 12) ""
inductive Drawn : List Str → Prop
  | one (size place st : Nat) (h1 : place < size) (h2 : size ≤ 8) (h3 : st < (sgM place).toNat) : Drawn (nmsOf size place st)
  | two (r : Nat) (h : r < 12) : Drawn (nmsW r)

end Kv

namespace Kv
open PySem PySem.Spec PyProof.Rows L2 Hf
set_option autoImplicit false
section
variable {pg : Pg} (H : HasG pg)
include H
theorem v_names {n : Nat} (cell : Int) : ∃ (zs : List Str), Drawn zs ∧ callN pg (n + 1) "_law_names" [.int cell] = .ok (true, .lst (zs.map .str)) := by
  have l9 := lg 9
  have l8 := lg 8
  have z12 := sz 12
  have z10 := sz 10
  have z2 := sz 2
  have z0 := sz 0
  have t : evT (pg.tb n) (.val (.cmp .Eq (.bin .Mod (.var 0) (.lit (.int 9))) (.lit (.int 8)))) [some (false, .int cell), none, none, none, none, none, none] = .ok (decide (cell % 9 = 8)) := te_bl (b := false) (by simp [runD, argsD, entE, exs, ex, evT, ev, evs, evo, evc, evi, bor, getO, getF, sndR, intR, Res.bind, onR, Fl.seq, fz, usT, us, ub, uss, uso, usc, usi, isiD, okB, D.tru, negD, cmpD, opD, idxD, slcD, biD, okF, endR, setE, bindT, itemsD, tb_fn, tb_fl, tb_gok, itemsW, m1T, m1D, lensetD, blR, tb_gl, tb_ar, tb_ki, tb_sub, tb_hot, eqI])
  by_cases c : cell % 9 = 8
  · rw [decide_eq_true c] at t
    have e0 := Int.emod_nonneg (cell / 9) (b := 12) (by decide)
    have e1 := Int.emod_lt_of_pos (cell / 9) (b := 12) (by decide)
    obtain ⟨r, hr⟩ : ∃ r : Nat, cell / 9 % 12 = r := ⟨(cell / 9 % 12).toNat, by omega⟩
    have hr12 : r < 12 := by omega
    refine ⟨nmsW r, .two r hr12, c_runN [some (false, .int cell), none, none, none, none, none, none] H.l__law_names (R := .rt true (.lst ((nmsW r).map .str))) (g_t t (s_rt (g_sx (x := (true, .lst ((W12.take 10).map .str))) ?_ (g_sx (x := (true, .lst (W12.map .str))) ?_ (g_ret (x := (true, .lst ((nmsW r).map .str))) (ev_comp (ds := (List.range 12).map fun (i : Nat) => D.int (i : Int)) (evi_rng1 rfl (rng0 12 (by decide))) (by simpa using z12) ?_)))))) rfl⟩
    · simp [runD, argsD, entE, exs, ex, evT, ev, evs, evo, evc, evi, bor, getO, getF, sndR, intR, Res.bind, onR, Fl.seq, fz, usT, us, ub, uss, uso, usc, usi, isiD, okB, D.tru, negD, cmpD, opD, idxD, slcD, biD, okF, endR, setE, bindT, itemsD, tb_fn, tb_fl, tb_gok, itemsW, m1T, m1D, lensetD, blR, tb_gl, tb_ar, tb_ki, tb_sub, tb_hot, W12, z10]
    · have q : (W12.take 10).length + 2 ≤ sizeLine := by rw [sizeLine_eq]; decide
      simp [runD, argsD, entE, exs, ex, evT, ev, evs, evo, evc, evi, bor, getO, getF, sndR, intR, Res.bind, onR, Fl.seq, fz, usT, us, ub, uss, uso, usc, usi, isiD, okB, D.tru, negD, cmpD, opD, idxD, slcD, biD, okF, endR, setE, bindT, itemsD, tb_fn, tb_fl, tb_gok, itemsW, m1T, m1D, lensetD, blR, tb_gl, tb_ar, tb_ki, tb_sub, tb_hot, W12, z2, z12]
    · rw [compL_map (g := fun d => match d with | .int k => .str (W12.getD ((r + k.toNat) % 12) "") | d => d) fun d hd => ?_]
      · unfold nmsW
        rw [List.map_map, List.map_map]
        rfl
      · obtain ⟨k, hk, rfl⟩ := List.mem_map.mp hd
        have ea : (cell / 9 + k) % 12 = ((r + k) % 12 : Nat) := by omega
        have h12 : (r + k) % 12 < 12 := Nat.mod_lt _ (by decide)
        have eb : atI (W12.map D.str) (((r + k) % 12 : Nat) : Int) = some (.str (W12.getD ((r + k) % 12) "")) := by
          have : ∀ i : Fin 12, atI (W12.map D.str) ((i.val : Nat) : Int) = some (.str (W12.getD i.val "")) := fun i => by
            rw [atI_nat (by simpa [W12] using i.isLt)]
            simp [List.getD_eq_getElem?_getD, List.getElem?_eq_getElem (show i.val < W12.length from i.isLt)]
          exact this ⟨_, h12⟩
        generalize W12.map D.str = ws at *
        change _ = Res.ok (some (D.str (W12.getD ((r + k) % 12) "")))
        generalize W12.getD ((r + k) % 12) "" = y at *
        generalize (r + k) % 12 = j at *
        simp [cF, runD, argsD, entE, exs, ex, evT, ev, evs, evo, evc, evi, bor, getO, getF, sndR, intR, Res.bind, onR, Fl.seq, fz, usT, us, ub, uss, uso, usc, usi, isiD, okB, D.tru, negD, cmpD, opD, idxD, slcD, biD, okF, endR, setE, bindT, itemsD, tb_fn, tb_fl, tb_gok, itemsW, m1T, m1D, lensetD, blR, tb_gl, tb_ar, tb_ki, tb_sub, tb_hot, wipeE, noX, l9, ea, eb]
  · rw [decide_eq_false c] at t
    have a0 := Int.emod_nonneg cell (b := 8) (by decide)
    have a1 := Int.emod_lt_of_pos cell (b := 8) (by decide)
    obtain ⟨size, hs⟩ : ∃ size : Nat, 1 + cell % 8 = size := ⟨(1 + cell % 8).toNat, by omega⟩
    have s1 : 1 ≤ size := by omega
    have s8 : size ≤ 8 := by omega
    have b0 := Int.emod_nonneg (cell / 8) (b := (size : Int)) (by omega)
    have b1 := Int.emod_lt_of_pos (cell / 8) (b := (size : Int)) (by omega)
    obtain ⟨place, hp⟩ : ∃ place : Nat, cell / 8 % (size : Int) = place := ⟨(cell / 8 % (size : Int)).toNat, by omega⟩
    have p1 : place < size := by omega
    have m0 : 0 < sgM (place : Int) := by unfold sgM; split <;> decide
    have c0 := Int.emod_nonneg (cell / 64) (b := sgM (place : Int)) (by omega)
    have c1 := Int.emod_lt_of_pos (cell / 64) m0
    obtain ⟨st, hst⟩ : ∃ st : Nat, cell / 64 % sgM (place : Int) = st := ⟨(cell / 64 % sgM (place : Int)).toNat, by omega⟩
    obtain ⟨y5, y6, e⟩ := names_loop (T := pg.tb n) (wf := pg.wf) (cell := cell) (size := size) (place := place) (by omega) (by omega) (by omega) (List.range 12) [] none none (by simp)
    have en : ((List.range 12).map fun k => D.str (nmAt place (size - 1 - place) (sgAt cell place k))) = (nmsOf size place st).map D.str := by
      unfold nmsOf
      rw [List.map_map]
      refine List.map_congr_left fun k _ => ?_
      have : sgAt cell place k = (st + k) % (sgM (place : Int)).toNat := by
        unfold sgAt
        rw [← Int.emod_add_emod, hst]
        obtain ⟨Mn, hMn⟩ : ∃ Mn : Nat, sgM (place : Int) = Mn := ⟨(sgM (place : Int)).toNat, by omega⟩
        rw [hMn, ← Int.natCast_add, ← Int.natCast_emod]
        rfl
      rw [this]
      rfl
    rw [List.nil_append, en] at e
    refine ⟨nmsOf size place st, .one size place st p1 s8 (by omega), c_runN [some (false, .int cell), none, none, none, none, none, none] H.l__law_names (R := .rt true (.lst ((nmsOf size place st).map .str))) (g_fn t (g_sx (x := (false, .int size)) ?_ (g_sx (x := (false, .int place)) ?_ (g_sx (x := (false, .str SGN)) e_lit (g_sx (x := (true, .lst [])) ?_ (g_for _ (evi_rng1 rfl (rng0 12 (by decide))) e (g_end ?_))))))) rfl⟩
    · simp [runD, argsD, entE, exs, ex, evT, ev, evs, evo, evc, evi, bor, getO, getF, sndR, intR, Res.bind, onR, Fl.seq, fz, usT, us, ub, uss, uso, usc, usi, isiD, okB, D.tru, negD, cmpD, opD, idxD, slcD, biD, okF, endR, setE, bindT, itemsD, tb_fn, tb_fl, tb_gok, itemsW, m1T, m1D, lensetD, blR, tb_gl, tb_ar, tb_ki, tb_sub, tb_hot, hs]
    · have hpos : 0 < size := s1
      simp [runD, argsD, entE, exs, ex, evT, ev, evs, evo, evc, evi, bor, getO, getF, sndR, intR, Res.bind, onR, Fl.seq, fz, usT, us, ub, uss, uso, usc, usi, isiD, okB, D.tru, negD, cmpD, opD, idxD, slcD, biD, okF, endR, setE, bindT, itemsD, tb_fn, tb_fl, tb_gok, itemsW, m1T, m1D, lensetD, blR, tb_gl, tb_ar, tb_ki, tb_sub, tb_hot, l8, hp, hpos]
    · simp [runD, argsD, entE, exs, ex, evT, ev, evs, evo, evc, evi, bor, getO, getF, sndR, intR, Res.bind, onR, Fl.seq, fz, usT, us, ub, uss, uso, usc, usi, isiD, okB, D.tru, negD, cmpD, opD, idxD, slcD, biD, okF, endR, setE, bindT, itemsD, tb_fn, tb_fl, tb_gok, itemsW, m1T, m1D, lensetD, blR, tb_gl, tb_ar, tb_ki, tb_sub, tb_hot, z0]
    · simp [runD, argsD, entE, exs, ex, evT, ev, evs, evo, evc, evi, bor, getO, getF, sndR, intR, Res.bind, onR, Fl.seq, fz, usT, us, ub, uss, uso, usc, usi, isiD, okB, D.tru, negD, cmpD, opD, idxD, slcD, biD, okF, endR, setE, bindT, itemsD, tb_fn, tb_fl, tb_gok, itemsW, m1T, m1D, lensetD, blR, tb_gl, tb_ar, tb_ki, tb_sub, tb_hot]
end

end Kv

namespace Kv
open PySem PySem.Spec PyProof.Rows L2 Hf
set_option autoImplicit false
def bW : Sts := .cons (.set 8 (.cmp .Eq (.bin .Mod (.bin .FloorDiv (.var 4) (.idx (.lst (.cons (.lit (.int 7)) (.cons (.lit (.int 14)) (.cons (.lit (.int 28)) (.cons (.lit (.int 56)) (.cons (.lit (.int 112)) (.cons (.lit (.int 224)) .nil))))))) (.var 7))) (.lit (.int 2))) (.lit (.int 1))))
    (.cons (.app 6 (.and (.var 8) (.cmp .Lt (.m1 .count (.var 6) (.lit (.bl true))) (.lit (.int 2)))))
    .nil)
theorem blsOf_map (bs : List Bool) : blsOf (bs.map .bl) = some bs := by
  induction bs with
  | nil => rfl
  | cons b r ih => simp [blsOf, ih]
theorem want_body {T : Tb} {wf : Nat} {d0 d1 d3 d5 : D} {o1 : Bool} {x2 x8 : Option (Bool × D)} {cell : Int} {j : Nat} {bs : List Bool} (hj : j < 6) (hl : bs.length < sizeLine) (hc : bs.count true ≤ 2) :
    ∃ b : Bool, (bs ++ [b]).count true ≤ 2 ∧ exs T wf bW [some (false, d0), some (o1, d1), x2, some (false, d3), some (false, .int cell), some (false, d5), some (true, .lst (bs.map .bl)), some (false, .int j), x8] = .nx [some (false, d0), some (o1, d1), x2, some (false, d3), some (false, .int cell), some (false, d5), some (true, .lst ((bs ++ [b]).map .bl)), some (false, .int j), some (false, .bl (decide (cell / [7, 14, 28, 56, 112, 224].getD j 7 % 2 = 1)))] := by
  have z6 := sz 6
  have hat : ∃ m : Int, [7, 14, 28, 56, 112, 224].getD j (7 : Int) = m ∧ atI [D.int 7, .int 14, .int 28, .int 56, .int 112, .int 224] (j : Int) = some (.int m) ∧ 0 < m ∧ m.natAbs.log2 < 9000 := by
    have h : j = 0 ∨ j = 1 ∨ j = 2 ∨ j = 3 ∨ j = 4 ∨ j = 5 := by omega
    rcases h with rfl | rfl | rfl | rfl | rfl | rfl
    · exact ⟨7, rfl, rfl, by decide, lg 7⟩
    · exact ⟨14, rfl, rfl, by decide, lg 14⟩
    · exact ⟨28, rfl, rfl, by decide, lg 28⟩
    · exact ⟨56, rfl, rfl, by decide, lg 56⟩
    · exact ⟨112, rfl, rfl, by decide, lg 112⟩
    · exact ⟨224, rfl, rfl, by decide, lg 224⟩
  obtain ⟨m, hm, ha, hm0, hml⟩ := hat
  rw [hm]
  have e8 : ev T (.cmp .Eq (.bin .Mod (.bin .FloorDiv (.var 4) (.idx (.lst (.cons (.lit (.int 7)) (.cons (.lit (.int 14)) (.cons (.lit (.int 28)) (.cons (.lit (.int 56)) (.cons (.lit (.int 112)) (.cons (.lit (.int 224)) .nil))))))) (.var 7))) (.lit (.int 2))) (.lit (.int 1))) [some (false, d0), some (o1, d1), x2, some (false, d3), some (false, .int cell), some (false, d5), some (true, .lst (bs.map .bl)), some (false, .int j), x8] = .ok (false, .bl (decide (cell / m % 2 = 1))) := by
    simp [runD, argsD, entE, exs, ex, evT, ev, evs, evo, evc, evi, bor, getO, getF, sndR, intR, Res.bind, onR, Fl.seq, fz, usT, us, ub, uss, uso, usc, usi, isiD, okB, D.tru, negD, cmpD, opD, idxD, slcD, biD, okF, endR, setE, bindT, itemsD, tb_fn, tb_fl, tb_gok, itemsW, m1T, m1D, lensetD, blR, tb_gl, tb_ar, tb_ki, tb_sub, tb_hot, z6, ha, hm0, hml, eqI]
  generalize decide (cell / m % 2 = 1) = kb at *
  refine ⟨kb && decide (bs.count true < 2), ?_, g_sx (x := (false, .bl kb)) e8 (b_one (a_app (ds := bs.map .bl) (x := (false, .bl (kb && decide (bs.count true < 2)))) rfl ?_ (by simpa using hl) (by simp)))⟩
  · rw [List.count_append]
    by_cases c : bs.count true < 2
    · have : ([kb && decide (bs.count true < 2)] : List Bool).count true ≤ 1 := List.count_le_length
      omega
    · rw [decide_eq_false c, Bool.and_false]
      simpa using hc
  · cases kb with
    | false => simp [runD, argsD, entE, exs, ex, evT, ev, evs, evo, evc, evi, bor, getO, getF, sndR, intR, Res.bind, onR, Fl.seq, fz, usT, us, ub, uss, uso, usc, usi, isiD, okB, D.tru, negD, cmpD, opD, idxD, slcD, biD, okF, endR, setE, bindT, itemsD, tb_fn, tb_fl, tb_gok, itemsW, m1T, m1D, lensetD, blR, tb_gl, tb_ar, tb_ki, tb_sub, tb_hot]
    | true =>
      have hb := blsOf_map bs
      have e2 : decide ((bs.count true : Int) < 2) = decide (bs.count true < 2) := decide_eq_decide.mpr (by omega)
      simp [runD, argsD, entE, exs, ex, evT, ev, evs, evo, evc, evi, bor, getO, getF, sndR, intR, Res.bind, onR, Fl.seq, fz, usT, us, ub, uss, uso, usc, usi, isiD, okB, D.tru, negD, cmpD, opD, idxD, slcD, biD, okF, endR, setE, bindT, itemsD, tb_fn, tb_fl, tb_gok, itemsW, m1T, m1D, lensetD, blR, tb_gl, tb_ar, tb_ki, tb_sub, tb_hot, hb, e2]
theorem want_loop {T : Tb} {wf : Nat} {d0 d1 d3 d5 : D} {o1 : Bool} {x2 : Option (Bool × D)} {cell : Int} : ∀ (js : List Nat) (bs : List Bool) (x7 x8 : Option (Bool × D)), (∀ j ∈ js, j < 6) → bs.length + js.length ≤ 100 → bs.count true ≤ 2 →
    ∃ (cs : List Bool) (y7 y8 : Option (Bool × D)), cs.length = bs.length + js.length ∧ cs.count true ≤ 2 ∧ forN (.one 7) (exs T wf bW) (js.map fun (i : Nat) => D.int (i : Int)) [some (false, d0), some (o1, d1), x2, some (false, d3), some (false, .int cell), some (false, d5), some (true, .lst (bs.map .bl)), x7, x8] = .nx [some (false, d0), some (o1, d1), x2, some (false, d3), some (false, .int cell), some (false, d5), some (true, .lst (cs.map .bl)), y7, y8]
  | [], bs, x7, x8, _, _, hc => ⟨bs, x7, x8, by simp, hc, by simp [forN]⟩
  | j :: js, bs, x7, x8, hj, hl, hc => by
    rw [List.length_cons] at hl
    obtain ⟨b, h1, h2⟩ := want_body (T := T) (wf := wf) (d0 := d0) (d1 := d1) (d3 := d3) (d5 := d5) (o1 := o1) (x2 := x2) (x8 := x8) (cell := cell) (hj j List.mem_cons_self) (bs := bs) (by rw [sizeLine_eq]; omega) hc
    obtain ⟨cs, y7, y8, e1, e2, e3⟩ := want_loop js (bs ++ [b]) (some (false, .int j)) _ (fun i hi => hj i (List.mem_cons_of_mem _ hi)) (by rw [List.length_append, List.length_singleton]; omega) h1
    exact ⟨cs, y7, y8, by rw [e1, List.length_append, List.length_singleton, List.length_cons]; omega, e2, f_nx rfl h2 e3⟩
/-- the heads that are drawn -/
structure HeadOf (zs : List Str) (k : Nat) (h : Hh) : Prop where
  nm : h.nm = zs.getD k ""
  pl : h.ps.length ≤ 6
  ps : h.ps = (List.range h.ps.length).map fun j => zs.getD ((2 + k + j) % 12) ""
  kl : h.kn.length = h.ps.length
  kc : h.kn.count true ≤ 2
def bH : Sts := (.cons (.set 4 (.call "_law_cell_at" (.cons (.var 0) (.cons (.bin .Add (.lit (.int 2)) (.var 3)) .nil))))
    (.cons (.set 5 (.idx (.lst (.cons (.lit (.int 1)) (.cons (.lit (.int 2)) (.cons (.lit (.int 3)) (.cons (.lit (.int 2)) (.cons (.lit (.int 0)) (.cons (.lit (.int 6)) (.cons (.lit (.int 3)) .nil)))))))) (.bin .Mod (.var 4) (.lit (.int 7)))))
    (.cons (.set 6 (.lst .nil))
    (.cons (.for_ (.one 7) (.rng1 (.var 5)) bW)
    (.cons (.app 2 (.tup (.cons (.idx (.var 1) (.var 3)) (.cons (.bi .tuple (.comp (.one 7) [7] (.rng1 (.var 5)) .nil (.idx (.var 1) (.bin .Mod (.bin .Add (.bin .Add (.lit (.int 2)) (.var 3)) (.var 7)) (.lit (.int 12)))))) (.cons (.bi .tuple (.var 6)) .nil)))))
    .nil)))))
theorem heads_body {T : Tb} {wf : Nat} {d0 : D} {zs : List Str} {L : List D} {k : Nat} {cell : Int} {x4 x5 x6 x7 x8 : Option (Bool × D)} (hz : zs.length = 12) (hk : k < 4) (hL : L.length < 100) (hc : T.fn "_law_cell_at" [d0, .int ((k + 2 : Nat) : Int)] = .ok (false, .int cell)) :
    ∃ (h : Hh) (y4 y5 y6 y7 y8 : Option (Bool × D)), HeadOf zs k h ∧ exs T wf bH [some (false, d0), some (true, .lst (zs.map .str)), some (true, .lst L), some (false, .int k), x4, x5, x6, x7, x8] = .nx [some (false, d0), some (true, .lst (zs.map .str)), some (true, .lst (L ++ [h.d])), some (false, .int k), y4, y5, y6, y7, y8] := by
  have e0 := Int.emod_nonneg cell (b := 7) (by decide)
  have e1 := Int.emod_lt_of_pos cell (b := 7) (by decide)
  obtain ⟨m, hm6, ha⟩ : ∃ m : Nat, m ≤ 6 ∧ atI [D.int 1, D.int 2, D.int 3, D.int 2, D.int 0, D.int 6, D.int 3] (cell % 7) = some (.int m) := by
    have h : cell % 7 = 0 ∨ cell % 7 = 1 ∨ cell % 7 = 2 ∨ cell % 7 = 3 ∨ cell % 7 = 4 ∨ cell % 7 = 5 ∨ cell % 7 = 6 := by omega
    rcases h with e | e | e | e | e | e | e <;> rw [e]
    · exact ⟨1, by decide, rfl⟩
    · exact ⟨2, by decide, rfl⟩
    · exact ⟨3, by decide, rfl⟩
    · exact ⟨2, by decide, rfl⟩
    · exact ⟨0, by decide, rfl⟩
    · exact ⟨6, by decide, rfl⟩
    · exact ⟨3, by decide, rfl⟩
  have z7 := sz 7
  have z0 := sz 0
  have z3 := sz 3
  have hr := rng0 m (by omega)
  have e2k : ((2 : Int) + (k : Int)) = ((k + 2 : Nat) : Int) := by omega
  obtain ⟨cs, y7, y8, c1, c2, c3⟩ := want_loop (T := T) (wf := wf) (d0 := d0) (d1 := .lst (zs.map .str)) (d3 := .int k) (d5 := .int m) (o1 := true) (x2 := some (true, .lst L)) (cell := cell) (List.range m) [] x7 x8 (fun j hj => by have := List.mem_range.mp hj; omega) (by simp; omega) (by simp)
  rw [List.length_range, List.length_nil, Nat.zero_add] at c1
  have hps : ((List.range m).map fun j => zs.getD ((2 + k + j) % 12) "").length = m := by simp
  refine ⟨⟨zs.getD k "", (List.range m).map fun j => zs.getD ((2 + k + j) % 12) "", cs⟩, some (false, .int cell), some (false, .int m), some (true, .lst (cs.map .bl)), y7, y8, ⟨rfl, by rw [hps]; exact hm6, by rw [hps], by rw [hps]; exact c1, c2⟩, ?_⟩
  have at_z : ∀ i : Nat, i < 12 → atI (zs.map D.str) (i : Int) = some (.str (zs.getD i "")) := fun i hi => by
    rw [atI_nat (by simpa [hz] using hi)]
    simp [List.getD_eq_getElem?_getD, List.getElem?_eq_getElem (show i < zs.length by omega)]
  have eL := at_z k (by omega)
  have eJ : ∀ j : Nat, atI (zs.map D.str) (((2 : Int) + k + j) % 12) = some (.str (zs.getD ((2 + k + j) % 12) "")) := fun j => by
    have : ((2 : Int) + k + j) % 12 = (((2 + k + j) % 12 : Nat) : Int) := by omega
    rw [this]
    exact at_z _ (Nat.mod_lt _ (by decide))
  have hm1 : m ≤ sizeLine := by rw [sizeLine_eq]; omega
  have comp : ∀ (y7 y8 : Option (Bool × D)) (ws : List D), (∀ j : Nat, atI ws (((2 : Int) + k + j) % 12) = some (.str (zs.getD ((2 + k + j) % 12) ""))) → ev T (.comp (.one 7) [7] (.rng1 (.var 5)) .nil (.idx (.var 1) (.bin .Mod (.bin .Add (.bin .Add (.lit (.int 2)) (.var 3)) (.var 7)) (.lit (.int 12))))) [some (false, d0), some (true, .lst ws), some (true, .lst L), some (false, .int k), some (false, .int cell), some (false, .int m), some (true, .lst (cs.map .bl)), y7, y8] = .ok (true, .lst (((List.range m).map fun j => zs.getD ((2 + k + j) % 12) "").map D.str)) := fun y7 y8 ws hw => by
    refine ev_comp (ds := (List.range m).map fun (i : Nat) => D.int (i : Int)) (evi_rng1 rfl hr) (by simpa using hm1) ?_
    rw [compL_map (g := fun d => match d with | .int j => .str (zs.getD ((2 + k + j.toNat) % 12) "") | d => d) fun d hd => ?_]
    · rw [List.map_map, List.map_map]
      rfl
    · obtain ⟨j, hj, rfl⟩ := List.mem_map.mp hd
      change _ = Res.ok (some (D.str (zs.getD ((2 + k + j) % 12) "")))
      have := hw j
      generalize zs.getD ((2 + k + j) % 12) "" = y at *
      simp [cF, runD, argsD, entE, exs, ex, evT, ev, evs, evo, evc, evi, bor, getO, getF, sndR, intR, Res.bind, onR, Fl.seq, fz, usT, us, ub, uss, uso, usc, usi, isiD, okB, D.tru, negD, cmpD, opD, idxD, slcD, biD, okF, endR, setE, bindT, itemsD, tb_fn, tb_fl, tb_gok, itemsW, m1T, m1D, lensetD, blR, tb_gl, tb_ar, tb_ki, tb_sub, tb_hot, wipeE, noX, this]
  refine g_sx (x := (false, .int cell)) (e_call (e_cons e_var (e_cons (b := false) (d := .int ((k + 2 : Nat) : Int)) ?_ e_nil)) hc) (g_sx (x := (false, .int m)) ?_ (g_sx (x := (true, .lst [])) ?_ (g_for _ (evi_rng1 rfl hr) c3 (b_one (a_app (ds := L) (x := (false, Hh.d ⟨zs.getD k "", (List.range m).map fun j => zs.getD ((2 + k + j) % 12) "", cs⟩)) rfl (e_tup (e_cons (b := false) (d := .str (zs.getD k "")) ?_ (e_cons (b := false) (d := .tup (((List.range m).map fun j => zs.getD ((2 + k + j) % 12) "").map D.str)) ?_ (e_cons (b := false) (d := .tup (cs.map .bl)) ?_ e_nil))) z3) (by rw [sizeLine_eq]; omega) rfl)))))
  · simp [runD, argsD, entE, exs, ex, evT, ev, evs, evo, evc, evi, bor, getO, getF, sndR, intR, Res.bind, onR, Fl.seq, fz, usT, us, ub, uss, uso, usc, usi, isiD, okB, D.tru, negD, cmpD, opD, idxD, slcD, biD, okF, endR, setE, bindT, itemsD, tb_fn, tb_fl, tb_gok, itemsW, m1T, m1D, lensetD, blR, tb_gl, tb_ar, tb_ki, tb_sub, tb_hot, e2k]
  · simp [runD, argsD, entE, exs, ex, evT, ev, evs, evo, evc, evi, bor, getO, getF, sndR, intR, Res.bind, onR, Fl.seq, fz, usT, us, ub, uss, uso, usc, usi, isiD, okB, D.tru, negD, cmpD, opD, idxD, slcD, biD, okF, endR, setE, bindT, itemsD, tb_fn, tb_fl, tb_gok, itemsW, m1T, m1D, lensetD, blR, tb_gl, tb_ar, tb_ki, tb_sub, tb_hot, z7, ha]
  · simp [runD, argsD, entE, exs, ex, evT, ev, evs, evo, evc, evi, bor, getO, getF, sndR, intR, Res.bind, onR, Fl.seq, fz, usT, us, ub, uss, uso, usc, usi, isiD, okB, D.tru, negD, cmpD, opD, idxD, slcD, biD, okF, endR, setE, bindT, itemsD, tb_fn, tb_fl, tb_gok, itemsW, m1T, m1D, lensetD, blR, tb_gl, tb_ar, tb_ki, tb_sub, tb_hot, z0]
  · generalize zs.map D.str = ws at *
    simp [runD, argsD, entE, exs, ex, evT, ev, evs, evo, evc, evi, bor, getO, getF, sndR, intR, Res.bind, onR, Fl.seq, fz, usT, us, ub, uss, uso, usc, usi, isiD, okB, D.tru, negD, cmpD, opD, idxD, slcD, biD, okF, endR, setE, bindT, itemsD, tb_fn, tb_fl, tb_gok, itemsW, m1T, m1D, lensetD, blR, tb_gl, tb_ar, tb_ki, tb_sub, tb_hot, eL]
  · have := comp y7 y8 (zs.map D.str) eJ
    rw [ev]
    rw [show bor (.comp (.one 7) [7] (.rng1 (.var 5)) .nil (.idx (.var 1) (.bin .Mod (.bin .Add (.bin .Add (.lit (.int 2)) (.var 3)) (.var 7)) (.lit (.int 12))))) [some (false, d0), some (true, .lst (zs.map .str)), some (true, .lst L), some (false, .int k), some (false, .int cell), some (false, .int m), some (true, .lst (cs.map .bl)), y7, y8] = sndR from rfl, this]
    rfl
  · simp [runD, argsD, entE, exs, ex, evT, ev, evs, evo, evc, evi, bor, getO, getF, sndR, intR, Res.bind, onR, Fl.seq, fz, usT, us, ub, uss, uso, usc, usi, isiD, okB, D.tru, negD, cmpD, opD, idxD, slcD, biD, okF, endR, setE, bindT, itemsD, tb_fn, tb_fl, tb_gok, itemsW, m1T, m1D, lensetD, blR, tb_gl, tb_ar, tb_ki, tb_sub, tb_hot]
theorem heads_loop {T : Tb} {wf : Nat} {d0 : D} {zs : List Str} (hz : zs.length = 12) (hc : ∀ k : Nat, ∃ cell : Int, T.fn "_law_cell_at" [d0, .int (k : Nat)] = .ok (false, .int cell)) : ∀ (ks : List Nat) (L : List D) (x3 x4 x5 x6 x7 x8 : Option (Bool × D)), (∀ k ∈ ks, k < 4) → L.length + ks.length ≤ 50 →
    ∃ (hs : List Hh) (y3 y4 y5 y6 y7 y8 : Option (Bool × D)), hs.length = ks.length ∧ (∀ (i k : Nat) (h : Hh), ks[i]? = some k → hs[i]? = some h → HeadOf zs k h) ∧
      forN (.one 3) (exs T wf bH) (ks.map fun (i : Nat) => D.int (i : Int)) [some (false, d0), some (true, .lst (zs.map .str)), some (true, .lst L), x3, x4, x5, x6, x7, x8] = .nx [some (false, d0), some (true, .lst (zs.map .str)), some (true, .lst (L ++ hs.map Hh.d)), y3, y4, y5, y6, y7, y8]
  | [], L, x3, x4, x5, x6, x7, x8, _, _ => ⟨[], x3, x4, x5, x6, x7, x8, rfl, (by intro i k h z; simp at z), by simp [forN]⟩
  | k :: ks, L, x3, x4, x5, x6, x7, x8, hk, hl => by
    rw [List.length_cons] at hl
    obtain ⟨cell, hcell⟩ := hc (k + 2)
    obtain ⟨h, y4, y5, y6, y7, y8, h1, h2⟩ := heads_body (T := T) (wf := wf) (L := L) (x4 := x4) (x5 := x5) (x6 := x6) (x7 := x7) (x8 := x8) hz (hk k List.mem_cons_self) (by omega) hcell
    obtain ⟨hs, z3, z4, z5, z6, z7, z8, e1, e2, e3⟩ := heads_loop hz hc ks (L ++ [h.d]) (some (false, .int k)) y4 y5 y6 y7 y8 (fun i hi => hk i (List.mem_cons_of_mem _ hi)) (by rw [List.length_append, List.length_singleton]; omega)
    refine ⟨h :: hs, z3, z4, z5, z6, z7, z8, by simp [e1], fun i k' h' q1 q2 => ?_, f_nx rfl h2 ?_⟩
    · cases i with
      | zero => simp at q1 q2; subst q1 q2; exact h1
      | succ i => exact e2 i k' h' (by simpa using q1) (by simpa using q2)
    · rw [e3, List.map_cons]
      simp
/-- the heads of a script -/
structure HeadsOf (zs : List Str) (hs : List Hh) : Prop where
  dr : Drawn zs
  zl : zs.length = 12
  l1 : 1 ≤ hs.length
  l4 : hs.length ≤ 4
  at_ : ∀ (k : Nat) (h : Hh), hs[k]? = some h → HeadOf zs k h
theorem Drawn.len {zs : List Str} (h : Drawn zs) : zs.length = 12 := by
  cases h with
  | one => simp [nmsOf]
  | two => simp [nmsW]
section
variable {pg : Pg} (H : HasG pg)
include H
theorem v_heads {n : Nat} (ns : List Int) : ∃ (zs : List Str) (hs : List Hh), HeadsOf zs hs ∧ (∃ c : Int, (∀ n, callN pg (n + 1) "_law_cell_at" [.lst (ns.map D.int), .int ((1 : Nat) : Int)] = .ok (false, .int c)) ∧ (hs.length : Int) = 1 + c % 4) ∧ callN pg (n + 2) "_law_heads" [.lst (ns.map D.int)] = .ok (true, .lst (hs.map Hh.d)) := by
  obtain ⟨c0, hc0⟩ := v_cell H.toHasC ns 0
  obtain ⟨c1, hc1⟩ := v_cell H.toHasC ns 1
  obtain ⟨zs, hd, hzs⟩ := v_names H (n := n) c0
  have e0 := Int.emod_nonneg c1 (b := 4) (by decide)
  have e1 := Int.emod_lt_of_pos c1 (b := 4) (by decide)
  obtain ⟨m, hm⟩ : ∃ m : Nat, 1 + c1 % 4 = m := ⟨(1 + c1 % 4).toNat, by omega⟩
  obtain ⟨hs, y3, y4, y5, y6, y7, y8, h1, h2, h3⟩ := heads_loop (T := pg.tb (n + 1)) (wf := pg.wf) (d0 := .lst (ns.map D.int)) hd.len (fun k => (v_cell H.toHasC ns k).imp fun c h => h n) (List.range m) [] none none none none none none (fun k hk => by have := List.mem_range.mp hk; omega) (by simp; omega)
  rw [List.length_range] at h1
  have hc0' := hc0 n
  have hc1' := hc1 n
  have r := rng0 m (by omega)
  refine ⟨zs, hs, ⟨hd, hd.len, by omega, by omega, fun k h hk => h2 k k h ?_ hk⟩, ⟨c1, hc1, by rw [h1]; omega⟩, ?_⟩
  · have : k < hs.length := (List.getElem?_eq_some_iff.mp hk).1
    rw [List.getElem?_range (by omega)]
  · have hc0'' : callN pg (n + 1) "_law_cell_at" [.lst (ns.map D.int), .int 0] = .ok (false, .int c0) := hc0'
    have hc1'' : callN pg (n + 1) "_law_cell_at" [.lst (ns.map D.int), .int 1] = .ok (false, .int c1) := hc1'
    rw [S__law_heads H.l__law_heads]
    generalize D.lst (ns.map D.int) = d0 at *
    have e4 : opD .Mod (.int c1) (.int 4) = .ok (false, .int (c1 % 4)) := md_i (by decide)
    simp only [hc0'', hc1'', bo, hzs, so, ik, e4, add_i, hm, r]
    exact (lp_of h3 _).trans rfl
end

end Kv

namespace Kv
open PySem PySem.Spec PyProof.Rows L2 Hf
set_option autoImplicit false
/-! ### programs -/
/-- the known parameters' names -/
def knN (ps : List Str) (kn : List Bool) : List Str := (List.range ps.length).filterMap fun j => if kn.getD j false = true then some (ps.getD j "") else none
theorem knN_sub {ps : List Str} {kn : List Bool} {z : Str} (h : z ∈ knN ps kn) : z ∈ ps := by
  obtain ⟨j, hj, e⟩ := List.mem_filterMap.mp h
  have hl := List.mem_range.mp hj
  split at e
  · cases e
    rw [List.getD_eq_getElem?_getD, List.getElem?_eq_getElem hl]
    exact List.getElem_mem _
  · cases e
theorem it_str {ps : List Str} {j : Nat} (h : j < ps.length) : idxD (.tup (ps.map .str)) (.int j) = .ok (false, .str (ps.getD j "")) := by
  rw [it_n (by simpa using h)]
  simp [List.getD_eq_getElem?_getD, List.getElem?_eq_getElem h]
theorem it_bl {kn : List Bool} {j : Nat} (h : j < kn.length) : idxD (.tup (kn.map .bl)) (.int j) = .ok (false, .bl (kn.getD j false)) := by
  rw [it_n (by simpa using h)]
  simp [List.getD_eq_getElem?_getD, List.getElem?_eq_getElem h]
theorem compL_fm2 {f : D → Res (Option D)} {α β : Type} {g : α → D} {q : β → D} {r : α → Option β} : ∀ {xs : List α}, (∀ a ∈ xs, f (g a) = .ok ((r a).map q)) → compL f (xs.map g) = .ok ((xs.filterMap r).map q)
  | [], _ => rfl
  | a :: xs, h => by
    rw [List.map_cons, compL, h a List.mem_cons_self, bo, compL_fm2 (xs := xs) fun d hd => h d (List.mem_cons_of_mem _ hd), bo]
    cases e : r a <;> simp [e]
theorem comp_kn {ps : List Str} {kn : List Bool} (hl : kn.length = ps.length) : compL (fun z4 => noX (((sndR (idxD (.tup (kn.map .bl)) z4)).bind D.tru).bind fun t6 => if t6 = true then (idxD (.tup (ps.map .str)) z4).bind fun v5 => Res.ok (some v5.2) else .ok none)) ((List.range ps.length).map fun (i : Nat) => D.int (i : Int)) = .ok ((knN ps kn).map .str) := by
  refine compL_fm2 fun j hj => ?_
  have hj := List.mem_range.mp hj
  rw [it_bl (by omega), it_str hj]
  simp only [↓reduceIte, Bool.false_eq_true, bo, bex, so, sex, obk, ik, okf, tst, blk, blo, nok, tru_bl, tru_int, tru_tup, tru_lst, add_i, sub_i, neg_i, len_t, len_l, tpl_l, tpl_t, lst_l, lst_t, int_b, cm_eq, cm_ne, cm_lt, cm_le, cm_gt, cm_ge, cm_in, cm_nin, cm_is, cm_isn, it_0, it_1, it_2, sl_1, tup2_e, tup3_e, iw_l, iw_t, id_l, id_t, isi_tt, isi_ti, isi_bb, ifT, ifF, mt2_2, mt3_3, mt4_4, mtA3_3, tb_fl, tb_gok, Bool.not_true, Bool.not_false, List.cons_append, List.nil_append]
  cases kn.getD j false <;> rfl
/-- a function of a drawn program -/
structure Fu where
  h : Hh
  e : E
def Fu.d (f : Fu) : D := .tup [.str f.h.nm, .tup (f.h.ps.map .str), f.e.d]
abbrev Hh.known (h : Hh) : List Str := knN h.ps h.kn
structure FuOk (hs : List Hh) (f : Fu) : Prop where
  mem : f.h ∈ hs
  ge : Ge f.h.ps f.h.known hs 4 f.e
section
variable {pg : Pg} (H : HasG pg)
include H
theorem empty_opB : isOp "empty" = true ∧ opB "empty" 1 = true := by decide +kernel
theorem prog_body {n : Nat} {hs : List Hh} (hhs : Hs hs) (hso : ∀ h ∈ hs, ∀ z ∈ h.ps, PyData.strOk z = true) (ns : List Int) {k : Nat} (hk : k < hs.length) (h6 : hs.length ≤ 100) (ds L : List D) (hL : L.length < 100) (y3 y4 y5 y6 y7 y8 y9 y10 y11 : Option (Bool × D)) :
    ∃ (e : E) (z3 z4 z5 z6 z7 z8 z9 z10 z11 : Option (Bool × D)), Ge hs[k].ps hs[k].known hs 4 e ∧ ∀ kk, lp__law_program_1 pg (n + 25) (.int k :: ds) (en_lp__law_program_1 (.lst (ns.map D.int)) (.lst (hs.map Hh.d)) L y3 y4 y5 y6 y7 y8 y9 y10 y11) kk = lp__law_program_1 pg (n + 25) ds (en_lp__law_program_1 (.lst (ns.map D.int)) (.lst (hs.map Hh.d)) (L ++ [(Fu.mk hs[k] e).d]) z3 z4 z5 z6 z7 z8 z9 z10 z11) kk := by
  have hm : hs[k] ∈ hs := List.getElem_mem _
  have hx : idxD (.lst (hs.map Hh.d)) (.int k) = .ok (false, hs[k].d) := by
    rw [il_n (by simpa using hk)]
    simp
  generalize hs[k] = h at *
  have hl := hhs.len h hm
  have hps := hhs.few h hm
  have hp := hso h hm
  have hkn : ∀ z ∈ h.known, PyData.strOk z = true := fun z hz => hp z (knN_sub hz)
  obtain ⟨c6, hc6⟩ := v_cell H.toHasC ns (6 + k)
  obtain ⟨c10, hc10⟩ := v_cell H.toHasC ns 10
  obtain ⟨c11, hc11⟩ := v_cell H.toHasC ns 11
  have hc6 := hc6 (n + 24)
  have hc10 := hc10 (n + 24)
  have hc11 := hc11 (n + 24)
  have e6 : ((6 : Int) + (k : Int)) = ((6 + k : Nat) : Int) := by omega
  have e10 : (((10 : Nat) : Int)) = 10 := rfl
  have e11 : (((11 : Nat) : Int)) = 11 := rfl
  rw [e10] at hc10
  rw [e11] at hc11
  have hr := rng0 h.ps.length (by omega)
  have hcomp := comp_kn hl
  have hn1 := v_next (n := n + 24) H.toHasC (c6 * 977 + k)
  generalize hq : nextI (c6 * 977 + k) = q at *
  have hn2 := v_next (n := n + 24) H.toHasC (q + 31)
  generalize hq2 : nextI (q + 31) = q2 at *
  have k1 : (0 : Int) < (k : Int) + 1 := by omega
  have k2 : ((k : Int) + 1) ≤ 1000000000000000000 := by omega
  have m0 := Int.emod_nonneg (c10 / ((k : Int) + 1)) (b := 3) (by decide)
  have m1 := Int.emod_lt_of_pos (c10 / ((k : Int) + 1)) (b := 3) (by decide)
  obtain ⟨d, hd⟩ : ∃ d : Nat, 1 + c10 / ((k : Int) + 1) % 3 = d := ⟨(1 + c10 / ((k : Int) + 1) % 3).toNat, by omega⟩
  have hd3 : d ≤ 3 := by omega
  obtain ⟨e1, ge1, hf1⟩ := v_form H hp hkn hhs d (n + 25) (by omega) q
  obtain ⟨e2, ge2, hf2⟩ := v_form H hp hkn hhs 2 (n + 25) (by omega) q2
  have e22 : (((2 : Nat) : Int)) = 2 := rfl
  rw [e22] at hf2
  have ek : Hh.d h = .tup [.str h.nm, .tup (h.ps.map .str), .tup (h.kn.map .bl)] := rfl
  have hpl : (h.ps.map D.str).length = h.ps.length := by simp
  have hgt : cmpD .Gt (.int (h.ps.length : Int)) (.int 0) = .ok (decide (0 < h.ps.length)) := by
    rw [cm_gt, show decide ((0 : Int) < (h.ps.length : Int)) = decide (0 < h.ps.length) from decide_eq_decide.mpr (by omega)]
  have hrl : ((List.range h.ps.length).map fun (i : Nat) => D.int (i : Int)).length ≤ 1000000 := by simp; omega
  have fin : ∀ e : E, Ge h.ps h.known hs 4 e → (.tup [.str h.nm, .tup (h.ps.map .str), e.d] : D) = (Fu.mk h e).d := fun e _ => rfl
  have t1 : (0 : Int) < 3 := by decide
  have t12 : (0 : Int) < 1000000 := by decide
  have hS : ∀ a b : Rr, (if L.length < sizeLine then a else b) = a := fun a b => if_lt (by omega) a b
  have cnd : (if decide (0 < c11 / ((k : Int) + 1) % 3) = true then (Res.ok (decide (0 < h.ps.length)) : Res Bool) else .ok false) = .ok (decide (0 < c11 / ((k : Int) + 1) % 3) && decide (0 < h.ps.length)) := by
    cases decide (0 < c11 / ((k : Int) + 1) % 3) <;> rfl
  cases hc : (decide (0 < c11 / ((k : Int) + 1) % 3) && decide (0 < h.ps.length)) with
  | false =>
    rw [hc] at cnd
    refine ⟨e1, some (false, .int k), some (false, .lst (h.known.map .str)), some (false, .int q), some (false, e1.d), some (false, .str h.nm), some (false, .tup (h.ps.map .str)), some (false, .tup (h.kn.map .bl)), y10, y11, ge1.up (by omega), fun kk => ?_⟩
    rw [lp__law_program_1_cons]
    simp only [hx, ↓reduceIte, Bool.false_eq_true, bo, bex, so, sex, obk, ik, okf, tst, blk, blo, nok, tru_bl, tru_int, tru_tup, tru_lst, add_i, sub_i, neg_i, len_t, len_l, tpl_l, tpl_t, lst_l, lst_t, int_b, cm_eq, cm_ne, cm_lt, cm_le, cm_gt, cm_ge, cm_in, cm_nin, cm_is, cm_isn, it_0, it_1, it_2, sl_1, tup2_e, tup3_e, iw_l, iw_t, id_l, id_t, isi_tt, isi_ti, isi_bb, ifT, ifF, mt2_2, mt3_3, mt4_4, mtA3_3, tb_fl, tb_gok, Bool.not_true, Bool.not_false, List.cons_append, List.nil_append, ek, hpl, ik, hr, if_len hrl, hcomp, e6, hc6, hc10, hc11, fd_i k1 k2, md_i t1, ml_i (j := 977) (by decide) (by decide), hn1, hq, hd, hf1, hgt, cnd, hS, Fu.d]
  | true =>
    rw [hc] at cnd
    have hpos : 0 < h.ps.length := by
      rw [Bool.and_eq_true, decide_eq_true_eq, decide_eq_true_eq] at hc
      exact hc.2
    have t2 : (0 : Int) < (h.ps.length : Int) := by omega
    obtain ⟨z, hz, ez⟩ := at_strs H (zs := h.ps) (fun e => by rw [e] at hpos; exact absurd hpos (by decide)) q2
    have ez' : idxD (.tup (h.ps.map .str)) (.int (q2 % (h.ps.length : Int))) = .ok (false, .str z) := by
      simp only [idxD, ez]
      rfl
    have cq : D.eqD (.int (q2 / 8 % 2)) (.int 1) = .ok (decide (q2 / 8 % 2 = 1)) := eqI _ _
    have l1 : ∀ (a b c d : D), ([a, b, c, d] : List D).length ≤ 1000000 := fun _ _ _ _ => by simp
    have l2 : ∀ (a b : D), ([a, b] : List D).length ≤ 1000000 := fun _ _ => by simp
    cases hb : decide (q2 / 8 % 2 = 1) with
    | true =>
      refine ⟨.iff (.doo "empty" [.nm z]) e1 e2, some (false, .int k), some (false, .lst (h.known.map .str)), some (false, .int q), some (false, E.d (.iff (.doo "empty" [.nm z]) e1 e2)), some (false, .str h.nm), some (false, .tup (h.ps.map .str)), some (false, .tup (h.kn.map .bl)), some (false, .int q2), some (false, E.d (.doo "empty" [.nm z])), .iff 3 _ _ _ ((Ge.doo 0 "empty" [.nm z] (empty_opB H).1 (empty_opB H).2 (fun e he => by simp at he; subst he; exact .nm _ z hz) (fun h => absurd h (by simp))).up (by omega)) (ge1.up (by omega)) (ge2.up (by omega)), fun kk => ?_⟩
      rw [lp__law_program_1_cons]
      simp only [hx, ↓reduceIte, Bool.false_eq_true, bo, bex, so, sex, obk, ik, okf, tst, blk, blo, nok, tru_bl, tru_int, tru_tup, tru_lst, add_i, sub_i, neg_i, len_t, len_l, tpl_l, tpl_t, lst_l, lst_t, int_b, cm_eq, cm_ne, cm_lt, cm_le, cm_gt, cm_ge, cm_in, cm_nin, cm_is, cm_isn, it_0, it_1, it_2, sl_1, tup2_e, tup3_e, iw_l, iw_t, id_l, id_t, isi_tt, isi_ti, isi_bb, ifT, ifF, mt2_2, mt3_3, mt4_4, mtA3_3, tb_fl, tb_gok, Bool.not_true, Bool.not_false, List.cons_append, List.nil_append, ek, hpl, ik, hr, if_len hrl, hcomp, e6, hc6, hc10, hc11, fd_i k1 k2, md_i t1, ml_i (j := 977) (by decide) (by decide), hn1, hq, hd, hf1, hgt, cnd, hS, Fu.d, hn2, hq2, md_i t2, ez', fd_i (j := 8) (by decide) (by decide), md_i (j := 2) (by decide), cq, hb, hf2, if_len (l1 _ _ _ _), if_len (l2 _ _), E.d, E.ds]
    | false =>
      refine ⟨.iff (.nm z) e1 e2, some (false, .int k), some (false, .lst (h.known.map .str)), some (false, .int q), some (false, E.d (.iff (.nm z) e1 e2)), some (false, .str h.nm), some (false, .tup (h.ps.map .str)), some (false, .tup (h.kn.map .bl)), some (false, .int q2), some (false, E.d (.nm z)), .iff 3 _ _ _ (.nm _ z hz) (ge1.up (by omega)) (ge2.up (by omega)), fun kk => ?_⟩
      rw [lp__law_program_1_cons]
      simp only [hx, ↓reduceIte, Bool.false_eq_true, bo, bex, so, sex, obk, ik, okf, tst, blk, blo, nok, tru_bl, tru_int, tru_tup, tru_lst, add_i, sub_i, neg_i, len_t, len_l, tpl_l, tpl_t, lst_l, lst_t, int_b, cm_eq, cm_ne, cm_lt, cm_le, cm_gt, cm_ge, cm_in, cm_nin, cm_is, cm_isn, it_0, it_1, it_2, sl_1, tup2_e, tup3_e, iw_l, iw_t, id_l, id_t, isi_tt, isi_ti, isi_bb, ifT, ifF, mt2_2, mt3_3, mt4_4, mtA3_3, tb_fl, tb_gok, Bool.not_true, Bool.not_false, List.cons_append, List.nil_append, ek, hpl, ik, hr, if_len hrl, hcomp, e6, hc6, hc10, hc11, fd_i k1 k2, md_i t1, ml_i (j := 977) (by decide) (by decide), hn1, hq, hd, hf1, hgt, cnd, hS, Fu.d, hn2, hq2, md_i t2, ez', fd_i (j := 8) (by decide) (by decide), md_i (j := 2) (by decide), cq, hb, hf2, if_len (l1 _ _ _ _), if_len (l2 _ _), E.d, E.ds]
theorem prog_loop {n : Nat} {hs : List Hh} (hhs : Hs hs) (hso : ∀ h ∈ hs, ∀ z ∈ h.ps, PyData.strOk z = true) (ns : List Int) (h6 : hs.length ≤ 100) : ∀ (m k : Nat) (P : List Fu) (y3 y4 y5 y6 y7 y8 y9 y10 y11 : Option (Bool × D)), k + m = hs.length → P.map (·.h) = hs.take k → (∀ f ∈ P, FuOk hs f) →
    ∃ (Q : List Fu) (z3 z4 z5 z6 z7 z8 z9 z10 z11 : Option (Bool × D)), Q.map (·.h) = hs ∧ (∀ f ∈ Q, FuOk hs f) ∧ ∀ kk, lp__law_program_1 pg (n + 25) ((List.range' k m).map fun (i : Nat) => D.int (i : Int)) (en_lp__law_program_1 (.lst (ns.map D.int)) (.lst (hs.map Hh.d)) (P.map Fu.d) y3 y4 y5 y6 y7 y8 y9 y10 y11) kk = kk (en_lp__law_program_1 (.lst (ns.map D.int)) (.lst (hs.map Hh.d)) (Q.map Fu.d) z3 z4 z5 z6 z7 z8 z9 z10 z11)
  | 0, k, P, y3, y4, y5, y6, y7, y8, y9, y10, y11, e, hP, hok => ⟨P, y3, y4, y5, y6, y7, y8, y9, y10, y11, by rw [hP]; exact List.take_of_length_le (by omega), hok, fun kk => by rw [List.range'_zero, List.map_nil, lp__law_program_1_nil]⟩
  | m + 1, k, P, y3, y4, y5, y6, y7, y8, y9, y10, y11, e, hP, hok => by
    have hk : k < hs.length := by omega
    have hl : P.length = k := by
      have := congrArg List.length hP
      rw [List.length_map, List.length_take] at this
      omega
    obtain ⟨b, z3, z4, z5, z6, z7, z8, z9, z10, z11, ge, h1⟩ := prog_body (n := n) H hhs hso ns hk h6 ((List.range' (k + 1) m).map fun (i : Nat) => D.int (i : Int)) (P.map Fu.d) (by rw [List.length_map]; omega) y3 y4 y5 y6 y7 y8 y9 y10 y11
    obtain ⟨Q, w3, w4, w5, w6, w7, w8, w9, w10, w11, e1, e2, e3⟩ := prog_loop hhs hso ns h6 m (k + 1) (P ++ [Fu.mk hs[k] b]) z3 z4 z5 z6 z7 z8 z9 z10 z11 (by omega) (by rw [List.map_append, hP, List.take_add_one, List.getElem?_eq_getElem hk]; rfl) (fun f hf => (List.mem_append.mp hf).elim (hok f) fun q => by
      simp at q
      subst q
      exact ⟨List.getElem_mem _, ge⟩)
    refine ⟨Q, w3, w4, w5, w6, w7, w8, w9, w10, w11, e1, e2, fun kk => ?_⟩
    rw [List.range'_succ, List.map_cons, h1]
    rw [List.map_append] at e3
    exact e3 kk
theorem v_program {n : Nat} {hs : List Hh} (hhs : Hs hs) (hso : ∀ h ∈ hs, ∀ z ∈ h.ps, PyData.strOk z = true) (ns : List Int) (h6 : hs.length ≤ 100) : ∃ P : List Fu, P.map (·.h) = hs ∧ (∀ f ∈ P, FuOk hs f) ∧ callN pg (n + 26) "_law_program" [.lst (ns.map D.int), .lst (hs.map Hh.d)] = .ok (false, .tup (P.map Fu.d)) := by
  obtain ⟨Q, w3, w4, w5, w6, w7, w8, w9, w10, w11, e1, e2, e3⟩ := prog_loop (n := n) H hhs hso ns h6 hs.length 0 [] none none none none none none none none none (by omega) (by simp) (by simp)
  refine ⟨Q, e1, e2, ?_⟩
  rw [S__law_program H.l__law_program]
  have hr := rng0 hs.length (by omega)
  have hl : (hs.map Hh.d).length = hs.length := by simp
  rw [← List.range_eq_range'] at e3
  simp only [↓reduceIte, Bool.false_eq_true, bo, bex, so, sex, obk, ik, okf, tst, blk, blo, nok, tru_bl, tru_int, tru_tup, tru_lst, add_i, sub_i, neg_i, len_t, len_l, tpl_l, tpl_t, lst_l, lst_t, int_b, cm_eq, cm_ne, cm_lt, cm_le, cm_gt, cm_ge, cm_in, cm_nin, cm_is, cm_isn, it_0, it_1, it_2, sl_1, tup2_e, tup3_e, iw_l, iw_t, id_l, id_t, isi_tt, isi_ti, isi_bb, ifT, ifF, mt2_2, mt3_3, mt4_4, mtA3_3, tb_fl, tb_gok, Bool.not_true, Bool.not_false, List.cons_append, List.nil_append, hl, hr]
  refine (e3 _).trans ?_
  rw [rs__law_program_2_eq]
  simp only [↓reduceIte, Bool.false_eq_true, bo, bex, so, sex, obk, ik, okf, tst, blk, blo, nok, tru_bl, tru_int, tru_tup, tru_lst, add_i, sub_i, neg_i, len_t, len_l, tpl_l, tpl_t, lst_l, lst_t, int_b, cm_eq, cm_ne, cm_lt, cm_le, cm_gt, cm_ge, cm_in, cm_nin, cm_is, cm_isn, it_0, it_1, it_2, sl_1, tup2_e, tup3_e, iw_l, iw_t, id_l, id_t, isi_tt, isi_ti, isi_bb, ifT, ifF, mt2_2, mt3_3, mt4_4, mtA3_3, tb_fl, tb_gok, Bool.not_true, Bool.not_false, List.cons_append, List.nil_append]
end

end Kv

namespace Kv
open PySem PySem.Spec PyProof.Rows L2 Hf
set_option autoImplicit false
/-! ### expressions: how many, how deep -/
theorem in_dc_if : inD (.str "if") (.tup [.str "do", .str "call"]) = .ok false := by kernel_rfl
theorem in_dc_do : inD (.str "do") (.tup [.str "do", .str "call"]) = .ok true := by kernel_rfl
theorem in_dc_call : inD (.str "call") (.tup [.str "do", .str "call"]) = .ok true := by kernel_rfl
theorem in_dc_value : inD (.str "value") (.tup [.str "do", .str "call"]) = .ok false := by kernel_rfl
theorem in_dc_name : inD (.str "name") (.tup [.str "do", .str "call"]) = .ok false := by kernel_rfl
theorem in_dc_refuse : inD (.str "refuse") (.tup [.str "do", .str "call"]) = .ok false := by kernel_rfl
mutual
/-- how many expressions -/
def E.sz : E → Nat
  | .iff a b c => 1 + (a.sz + (b.sz + c.sz))
  | .doo _ xs => 1 + E.szs xs
  | .call _ xs => 1 + E.szs xs
  | _ => 1
def E.szs : List E → Nat
  | [] => 0
  | e :: r => e.sz + E.szs r
end
mutual
/-- how deep -/
def E.dp : E → Nat
  | .iff a b c => 1 + max a.dp (max b.dp c.dp)
  | .doo _ xs => 1 + E.dps xs
  | .call _ xs => 1 + E.dps xs
  | _ => 1
def E.dps : List E → Nat
  | [] => 0
  | e :: r => max e.dp (E.dps r)
end
theorem E.dps_mem {xs : List E} {e : E} (h : e ∈ xs) : e.dp ≤ E.dps xs := by
  induction xs with
  | nil => cases h
  | cons x r ih =>
    simp only [E.dps]
    rcases List.mem_cons.mp h with e | h
    · subst e; omega
    · have := ih h; omega
theorem E.szs_mem {xs : List E} {e : E} (h : e ∈ xs) : e.sz ≤ E.szs xs := by
  induction xs with
  | nil => cases h
  | cons x r ih =>
    simp only [E.szs]
    rcases List.mem_cons.mp h with e | h
    · subst e; omega
    · have := ih h; omega
theorem E.sz_pos (e : E) : 1 ≤ e.sz := by cases e <;> simp [E.sz]
theorem E.ds_len (xs : List E) : (E.ds xs).length = xs.length := by rw [E.ds_map, List.length_map]

end Kv

namespace Kv
open PySem PySem.Spec PyProof.Rows L2 Hf
set_option autoImplicit false
/-! ### the names that are drawn -/
def nmL (a b s : Nat) : List Nat := List.replicate a 109 ++ ([SGN.cps.getD s 0] ++ List.replicate b 109)
theorem rep_list : ∀ k : Fin 9, (repS "m" (k.val : Int)).cps.toList = List.replicate k.val 109 := by decide +kernel
theorem nm_list {a b : Nat} (ha : a ≤ 8) (hb : b ≤ 8) (s : Nat) : (nmAt a b s).cps.toList = nmL a b s := by
  have h1 := rep_list ⟨a, by omega⟩
  have h2 := rep_list ⟨b, by omega⟩
  simp only at h1 h2
  show ((repS "m" (a : Int)).cps ++ #[SGN.cps.getD s 0] ++ (repS "m" (b : Int)).cps).toList = _
  rw [Array.toList_append, Array.toList_append, h1, h2]
  simp [nmL]
theorem sgn_inj : ∀ s t : Fin 36, SGN.cps.getD s.val 0 = SGN.cps.getD t.val 0 → s = t := by decide +kernel
theorem nm_inj {a b s t : Nat} (ha : a ≤ 8) (hb : b ≤ 8) (hs : s < 36) (ht : t < 36) (h : nmAt a b s = nmAt a b t) : s = t := by
  have e : nmL a b s = nmL a b t := by rw [← nm_list ha hb, ← nm_list ha hb, h]
  have e2 := List.append_cancel_left e
  simp only [List.cons_append, List.nil_append, List.cons.injEq, and_true] at e2
  have := sgn_inj ⟨s, hs⟩ ⟨t, ht⟩ e2
  simpa using this
theorem nm_name : ∀ a : Fin 8, ∀ b : Fin 8, ∀ s : Fin 36, a.val + b.val ≤ 7 → (a.val = 0 → s.val < 26) → nameB (nmAt (a.val : Nat) (b.val : Nat) s.val) = true := by decide +kernel

end Kv

namespace Kv
open PySem PySem.Spec PyProof.Rows L2 Hf
set_option autoImplicit false
theorem nm_ok : ∀ a : Fin 8, ∀ b : Fin 8, ∀ s : Fin 36, PyData.strOk (nmAt (a.val : Nat) (b.val : Nat) s.val) = true := by decide +kernel
theorem nm_len {a b : Nat} (ha : a ≤ 8) (hb : b ≤ 8) (s : Nat) : (nmAt a b s).length = a + b + 1 := by
  show (nmAt a b s).cps.size = _
  rw [← Array.length_toList, nm_list ha hb]
  simp [nmL]
  omega
theorem W12_name : ∀ z ∈ W12, nameB z = true ∧ PyData.strOk z = true ∧ z.length ≤ 8 := by decide +kernel
theorem W12_nodup : W12.Nodup := by decide +kernel
/-- words that are drawn for no name -/
def nots : List Str := ["zz9", "plus", "top", "tw", "zz", "zp", "zq", "ya", "power", "act", "skip"]
theorem nots12 : ∀ z ∈ W12, z ∉ nots ∧ ∀ y ∈ W12, y ++ "z" ≠ z := by decide +kernel
theorem nots_nm : ∀ a : Fin 8, ∀ b : Fin 8, ∀ s : Fin 36, nmL a.val b.val s.val ∉ nots.map fun z => z.cps.toList := by decide +kernel
section
variable {size place st : Nat} (h1 : place < size) (h2 : size ≤ 8) (h3 : st < (sgM place).toNat)
include h1 h2 h3
theorem one_at (k : Nat) (hk : k < 12) : ∃ s : Nat, s < (sgM place).toNat ∧ s = (st + k) % (sgM place).toNat ∧ (nmsOf size place st).getD k "" = nmAt place (size - 1 - place : Nat) s := by
  have hm : 0 < (sgM (place : Int)).toNat := by omega
  refine ⟨_, Nat.mod_lt _ hm, rfl, ?_⟩
  have e : ((size : Int) - 1 - (place : Int)) = ((size - 1 - place : Nat) : Int) := by omega
  unfold nmsOf
  rw [List.getD_eq_getElem?_getD, List.getElem?_map, List.getElem?_range hk, e]
  rfl
theorem sgM_le : (sgM (place : Int)).toNat ≤ 36 ∧ 26 ≤ (sgM (place : Int)).toNat ∧ (place = 0 → (sgM (place : Int)).toNat = 26) := by
  unfold sgM
  split
  · refine ⟨by decide, by decide, fun h => ?_⟩
    omega
  · exact ⟨by decide, by decide, fun _ => rfl⟩
end
theorem nodup_at {α : Type} {xs : List α} (h : xs.Nodup) {i j : Nat} (hi : i < xs.length) (hj : j < xs.length) (e : xs[i] = xs[j]) : i = j := by
  have p := List.pairwise_iff_getElem.mp h
  rcases Nat.lt_trichotomy i j with q | q | q
  · exact absurd e (p i j hi hj q)
  · exact q
  · exact absurd e.symm (p j i hj hi q)
/-- what holds of all drawn lists of names -/
structure Nice (zs : List Str) : Prop where
  len : zs.length = 12
  nodup : zs.Nodup
  name : ∀ z ∈ zs, nameB z = true
  ok : ∀ z ∈ zs, PyData.strOk z = true
  l8 : ∀ z ∈ zs, z.length ≤ 8
  nots : ∀ z ∈ zs, z ∉ nots
  noz : ∀ y ∈ zs, ∀ z ∈ zs, y ++ "z" ≠ z
theorem str_app_len (x y : Str) : (x ++ y).length = x.length + y.length := by
  show (x.cps ++ y.cps).size = _
  rw [Array.size_append]
  rfl
theorem mod12 {r i j : Nat} (hr : r < 12) (hi : i < 12) (hj : j < 12) (h : (r + i) % 12 = (r + j) % 12) : i = j := by omega
theorem Drawn.nice {zs : List Str} (h : Drawn zs) : Nice zs := by
  cases h with
  | one size place st h1 h2 h3 =>
    obtain ⟨m36, m26, m0⟩ := sgM_le h1 h2 h3
    have hl : (nmsOf size place st).length = 12 := by simp [nmsOf]
    have at_ : ∀ (k : Nat) (q : k < 12), ∃ s : Nat, s < (sgM place).toNat ∧ s = (st + k) % (sgM place).toNat ∧ (nmsOf size place st)[k]'(by omega) = nmAt place (size - 1 - place : Nat) s := fun k q => by
      obtain ⟨s, a1, a2, a3⟩ := one_at h1 h2 h3 k q
      refine ⟨s, a1, a2, ?_⟩
      rw [← a3, List.getD_eq_getElem?_getD, List.getElem?_eq_getElem (by omega)]
      rfl
    have mem : ∀ z ∈ nmsOf size place st, ∃ s : Nat, s < (sgM place).toNat ∧ z = nmAt place (size - 1 - place : Nat) s := fun z hz => by
      obtain ⟨k, hk, e⟩ := List.mem_iff_getElem.mp hz
      obtain ⟨s, a1, _, a3⟩ := at_ k (by omega)
      exact ⟨s, a1, by rw [← e, a3]⟩
    refine ⟨hl, ?_, fun z hz => ?_, fun z hz => ?_, fun z hz => ?_, fun z hz => ?_, fun y hy z hz => ?_⟩
    · refine List.pairwise_iff_getElem.mpr fun i j hi hj hij => ?_
      rw [hl] at hj
      obtain ⟨s, a1, a2, a3⟩ := at_ i (by omega)
      obtain ⟨t, b1, b2, b3⟩ := at_ j (by omega)
      rw [a3, b3]
      intro e
      have := nm_inj (by omega) (by omega) (by omega) (by omega) e
      rw [a2, b2] at this
      have hM : (sgM (place : Int)).toNat = 26 ∨ (sgM (place : Int)).toNat = 36 := by
        unfold sgM
        split
        · exact .inr rfl
        · exact .inl rfl
      rcases hM with e | e <;> rw [e] at this h3 <;> omega
    · obtain ⟨s, a1, rfl⟩ := mem z hz
      exact nm_name ⟨place, by omega⟩ ⟨size - 1 - place, by omega⟩ ⟨s, by omega⟩ (by simp only []; omega) (by simp only []; omega)
    · obtain ⟨s, a1, rfl⟩ := mem z hz
      exact nm_ok ⟨place, by omega⟩ ⟨size - 1 - place, by omega⟩ ⟨s, by omega⟩
    · obtain ⟨s, a1, rfl⟩ := mem z hz
      rw [nm_len (by omega) (by omega)]
      omega
    · obtain ⟨s, a1, rfl⟩ := mem z hz
      intro q
      refine nots_nm ⟨place, by omega⟩ ⟨size - 1 - place, by omega⟩ ⟨s, by omega⟩ ?_
      rw [← nm_list (by simp only []; omega) (by simp only []; omega)]
      exact List.mem_map_of_mem (f := fun z : Str => z.cps.toList) q
    · obtain ⟨s, a1, rfl⟩ := mem z hz
      obtain ⟨t, b1, rfl⟩ := mem y hy
      intro e
      have := congrArg Str.length e
      rw [str_app_len, nm_len (by omega) (by omega), nm_len (by omega) (by omega)] at this
      have z1 : (Str.ofString "z").length = 1 := rfl
      rw [z1] at this
      omega
  | two r hr =>
    have hl : (nmsW r).length = 12 := by simp [nmsW]
    have at_ : ∀ (k : Nat) (q : k < 12), (nmsW r)[k]'(by omega) = W12[(r + k) % 12]'(Nat.mod_lt _ (by decide)) := fun k q => by
      unfold nmsW
      rw [List.getElem_map, List.getElem_range, List.getD_eq_getElem?_getD, List.getElem?_eq_getElem (show (r + k) % 12 < W12.length from Nat.mod_lt _ (by decide))]
      rfl
    have mem : ∀ z ∈ nmsW r, z ∈ W12 := fun z hz => by
      obtain ⟨k, hk, e⟩ := List.mem_iff_getElem.mp hz
      rw [← e, at_ k (by omega)]
      exact List.getElem_mem _
    refine ⟨hl, ?_, fun z hz => (W12_name z (mem z hz)).1, fun z hz => (W12_name z (mem z hz)).2.1, fun z hz => (W12_name z (mem z hz)).2.2, fun z hz => (nots12 z (mem z hz)).1, fun y hy z hz => (nots12 z (mem z hz)).2 y (mem y hy)⟩
    refine List.pairwise_iff_getElem.mpr fun i j hi hj hij => ?_
    rw [hl] at hj
    rw [at_ i (by omega), at_ j (by omega)]
    intro e
    have e2 : (r + i) % 12 = (r + j) % 12 := nodup_at W12_nodup (Nat.mod_lt _ (by decide)) (Nat.mod_lt _ (by decide)) e
    omega

end Kv

namespace Kv
open PySem PySem.Spec PyProof.Rows L2 Hf
set_option autoImplicit false
/-! ### drawn programs are good -/
theorem zs_get {zs : List Str} {i : Nat} (h : i < zs.length) : zs.getD i "" = zs[i] := by
  rw [List.getD_eq_getElem?_getD, List.getElem?_eq_getElem h]; rfl
section
variable {zs : List Str} {hs : List Hh} (hh : HeadsOf zs hs)
include hh
theorem heads_at {h : Hh} (hm : h ∈ hs) : ∃ k, k < hs.length ∧ hs[k]? = some h ∧ HeadOf zs k h := by
  obtain ⟨k, hk, e⟩ := List.mem_iff_getElem.mp hm
  have e2 : hs[k]? = some h := by rw [List.getElem?_eq_getElem hk, e]
  exact ⟨k, hk, e2, hh.at_ k h e2⟩
theorem heads_nodup : (hs.map (·.nm)).Nodup := by
  have N := hh.dr.nice
  refine List.pairwise_iff_getElem.mpr fun i j hi hj hij => ?_
  rw [List.length_map] at hi hj
  have l4 := hh.l4
  have ei := hh.at_ i hs[i] (List.getElem?_eq_getElem hi)
  have ej := hh.at_ j hs[j] (List.getElem?_eq_getElem hj)
  rw [List.getElem_map, List.getElem_map, ei.nm, ej.nm, zs_get (by rw [N.len]; omega), zs_get (by rw [N.len]; omega)]
  intro e
  have := nodup_at N.nodup _ _ e
  omega
theorem head_nm {h : Hh} (hm : h ∈ hs) : h.nm ∈ zs := by
  obtain ⟨k, hk, _, e⟩ := heads_at hh hm
  have := hh.l4
  rw [e.nm, zs_get (by rw [hh.zl]; omega)]
  exact List.getElem_mem _
theorem head_ps {h : Hh} (hm : h ∈ hs) : ∀ z ∈ h.ps, z ∈ zs := by
  obtain ⟨k, hk, _, e⟩ := heads_at hh hm
  intro z hz
  rw [e.ps] at hz
  obtain ⟨j, hj, rfl⟩ := List.mem_map.mp hz
  rw [zs_get (by rw [hh.zl]; omega)]
  exact List.getElem_mem _
theorem head_nodup {h : Hh} (hm : h ∈ hs) : h.ps.Nodup := by
  have N := hh.dr.nice
  obtain ⟨k, hk, _, e⟩ := heads_at hh hm
  have l6 := e.pl
  rw [e.ps]
  refine List.pairwise_iff_getElem.mpr fun i j hi hj hij => ?_
  rw [List.length_map, List.length_range] at hi hj
  rw [List.getElem_map, List.getElem_map, List.getElem_range, List.getElem_range, zs_get (by rw [N.len]; omega), zs_get (by rw [N.len]; omega)]
  intro e
  have := nodup_at N.nodup _ _ e
  omega
theorem heads_Hs : Hs hs := ⟨fun e => by have := hh.l1; rw [e] at this; simp at this, fun h hm => by
  obtain ⟨k, _, _, e⟩ := heads_at hh hm
  exact e.kl, fun h hm => by
  obtain ⟨k, _, _, e⟩ := heads_at hh hm
  exact e.pl⟩
end
/-- the counts of heads -/
def cntH (hs : List Hh) : List (Str × Nat) := hs.map fun h => (h.nm, h.ps.length)
theorem cntB_head : ∀ {hs : List Hh}, (hs.map (·.nm)).Nodup → ∀ {h : Hh}, h ∈ hs → ∀ k, cntB (cntH hs) h.nm k = decide (h.ps.length = k)
  | [], _, _, hm, _ => by cases hm
  | a :: r, nd, h, hm, k => by
    rw [List.map_cons, List.nodup_cons] at nd
    unfold cntB cntH
    simp only [List.map_cons, lkD]
    rcases List.mem_cons.mp hm with e | hm
    · subst e
      rw [if_pos rfl]
    · have ne : a.nm ≠ h.nm := fun e => nd.1 (e ▸ List.mem_map_of_mem (f := fun h : Hh => h.nm) hm)
      rw [if_neg ne]
      exact cntB_head nd.2 hm k
theorem cntB_no : ∀ {hs : List Hh} {z : Str}, z ∉ hs.map (·.nm) → ∀ k, cntB (cntH hs) z k = false
  | [], _, _, _ => rfl
  | a :: r, z, h, k => by
    rw [List.map_cons, List.mem_cons, not_or] at h
    unfold cntB cntH
    simp only [List.map_cons, lkD]
    rw [if_neg (fun e => h.1 e.symm)]
    exact cntB_no h.2 k
theorem isS_str (y x : Str) : isS (.str y) x = decide (y = x) := rfl
theorem tagS : ∀ a ∈ (["value", "name", "refuse", "if", "do", "call"] : List Str), ∀ b ∈ (["value", "name", "refuse", "if", "do", "call"] : List Str), isS (.str a) b = decide (a = b) := fun _ _ _ _ => rfl
section
variable {ps : List Str} {cs : List (Str × Nat)}
theorem bb_val (k : Nat) (v : D) : bodyB ps cs (k + 1) (.tup [.str "value", v]) = (gd v && decide (wt v ≤ 50)) := by
  have e : isS (.str "value") "value" = true := by decide +kernel
  rw [bodyB, e, if_pos rfl]
theorem bb_nm (k : Nat) (v : D) : bodyB ps cs (k + 1) (.tup [.str "name", v]) = ps.any fun z => isS v z := by
  have e : isS (.str "name") "value" = false := by decide +kernel
  have e2 : isS (.str "name") "name" = true := by decide +kernel
  rw [bodyB, e, if_neg Bool.false_ne_true, e2, if_pos rfl]
theorem bb_ref (k : Nat) (v : D) : bodyB ps cs (k + 1) (.tup [.str "refuse", v]) = WD6.any fun z => isS v z := by
  have e : isS (.str "refuse") "value" = false := by decide +kernel
  have e2 : isS (.str "refuse") "name" = false := by decide +kernel
  have e3 : isS (.str "refuse") "refuse" = true := by decide +kernel
  rw [bodyB, e, if_neg Bool.false_ne_true, e2, if_neg Bool.false_ne_true, e3, if_pos rfl]
theorem bb_iff (k : Nat) (x y z : D) : bodyB ps cs (k + 1) (.tup [.str "if", x, y, z]) = [x, y, z].all (bodyB ps cs k) := by
  have e : isS (.str "if") "if" = true := by decide +kernel
  rw [bodyB, e, if_pos rfl]
theorem bb_do (k : Nat) (o c : D) : bodyB ps cs (k + 1) (.tup [.str "do", o, c]) = (canDo o c && allT (bodyB ps cs k) c) := by
  have e : isS (.str "do") "do" = true := by decide +kernel
  rw [bodyB, e, if_pos rfl]
theorem bb_call (k : Nat) (o c : D) : bodyB ps cs (k + 1) (.tup [.str "call", o, c]) = (canCall cs o c && allT (bodyB ps cs k) c) := by
  have e : isS (.str "call") "do" = false := by decide +kernel
  have e2 : isS (.str "call") "call" = true := by decide +kernel
  rw [bodyB, e, if_neg Bool.false_ne_true, e2, if_pos rfl]
end
theorem any_isS {ps : List Str} {z : Str} (h : z ∈ ps) : (ps.any fun y => isS (.str z) y) = true := by
  rw [List.any_eq_true]
  exact ⟨z, h, by simp [isS]⟩
theorem allT_ds {f : D → Bool} {xs : List E} (h : ∀ e ∈ xs, f e.d = true) : allT f (.tup (E.ds xs)) = true := by
  show (E.ds xs).all f = true
  rw [E.ds_map, List.all_map, List.all_eq_true]
  exact fun e he => h e he
theorem op3 : isOp "down" = true ∧ isOp "first" = true ∧ isOp "rest" = true ∧ opB "down" 1 = true ∧ opB "first" 1 = true ∧ opB "rest" 1 = true := by decide +kernel
theorem bodyB_val {ps : List Str} {cs : List (Str × Nat)} {v : Val} (h : v.isV = true) (k : Nat) : bodyB ps cs (k + 1) (E.d (.val v)) = true := by
  obtain ⟨h1, h2⟩ := isV_ok h
  rw [E.d, bb_val, v_gd, v_wt, h1]
  simpa using h2
theorem bodyB_nm {ps : List Str} {cs : List (Str × Nat)} {z : Str} (h : z ∈ ps) (k : Nat) : bodyB ps cs (k + 1) (E.d (.nm z)) = true := by
  rw [E.d, bb_nm, any_isS h]
theorem bodyB_doo {ps : List Str} {cs : List (Str × Nat)} {o : Str} {xs : List E} (k : Nat) (ho : isOp o = true) (hn : opB o xs.length = true) (h : ∀ e ∈ xs, bodyB ps cs k e.d = true) : bodyB ps cs (k + 1) (E.d (.doo o xs)) = true := by
  rw [E.d, bb_do, allT_ds h, canDo, E.ds_len, ho, hn]
  rfl
theorem bodyB_tame {ps kn : List Str} {cs : List (Str × Nat)} (hk : ∀ z ∈ kn, z ∈ ps) {e : E} (h : Tame kn e) (k : Nat) : bodyB ps cs (k + 3) e.d = true := by
  cases h with
  | val v h => exact bodyB_val h _
  | nm z h => exact bodyB_nm (hk z h) _
  | one o ho z h =>
    obtain ⟨o1, o2, o3, o4, o5, o6⟩ := op3
    refine bodyB_doo _ ?_ ?_ fun e he => ?_
    · rcases ho with rfl | rfl | rfl <;> assumption
    · rcases ho with rfl | rfl | rfl <;> assumption
    · simp at he
      subst he
      exact bodyB_nm (hk z h) _
  | two z h =>
    obtain ⟨o1, o2, o3, o4, o5, o6⟩ := op3
    refine bodyB_doo _ o3 o6 fun e he => ?_
    simp at he
    subst he
    refine bodyB_doo _ o3 o6 fun e he => ?_
    simp at he
    subst he
    exact bodyB_nm (hk z h) _
/-- a drawn body is one -/
theorem bodyB_ge {ps kn : List Str} {hs : List Hh} (hk : ∀ z ∈ kn, z ∈ ps) (nd : (hs.map (·.nm)).Nodup) {d : Nat} {e : E} (h : Ge ps kn hs d e) : ∀ k, d + 4 ≤ k → bodyB ps (cntH hs) k e.d = true := by
  induction h with
  | val d v h => exact fun k hd => by obtain ⟨m, rfl⟩ : ∃ m, k = m + 1 := ⟨k - 1, by omega⟩; exact bodyB_val h _
  | nm d z h => exact fun k hd => by obtain ⟨m, rfl⟩ : ∃ m, k = m + 1 := ⟨k - 1, by omega⟩; exact bodyB_nm h _
  | ref d w h => exact fun k hd => by obtain ⟨m, rfl⟩ : ∃ m, k = m + 1 := ⟨k - 1, by omega⟩; rw [E.d, bb_ref, any_isS h]
  | iff d a b c _ _ _ ia ib ic =>
    intro k hd
    obtain ⟨m, rfl⟩ : ∃ m, k = m + 1 := ⟨k - 1, by omega⟩
    rw [E.d, bb_iff]
    simp [ia m (by omega), ib m (by omega), ic m (by omega)]
  | doo d o xs ho hn _ _ ih _ =>
    intro k hd
    obtain ⟨m, rfl⟩ : ∃ m, k = m + 1 := ⟨k - 1, by omega⟩
    exact bodyB_doo _ ho hn fun e he => ih e he m (by omega)
  | call d f xs hf hn h1 _ ih =>
    intro k hd
    obtain ⟨m, rfl⟩ : ∃ m, k = m + 1 := ⟨k - 1, by omega⟩
    rw [E.d, bb_call, canCall, E.ds_len, cntB_head nd hf, hn, decide_eq_true rfl, Bool.true_and]
    refine allT_ds fun e he => ?_
    obtain ⟨i, hi, e2⟩ := List.mem_iff_getElem.mp he
    have e3 : xs[i]? = some e := by rw [List.getElem?_eq_getElem hi, e2]
    by_cases q : f.kn[i]? = some true
    · obtain ⟨j, rfl⟩ : ∃ j, m = j + 3 := ⟨m - 3, by omega⟩
      exact bodyB_tame hk (h1 i e e3 q) j
    · exact ih i e e3 q m (by omega)
/-! ### their things, their weight -/
theorem lk_isSome {α : Type} : ∀ {ks : List Str} {xs : List α} {z : Str}, (lkD ks xs z).isSome = true → z ∈ ks
  | k :: ks, x :: xs, z, h => by
    rw [lkD] at h
    by_cases e : k = z
    · rw [e]; exact List.mem_cons_self
    · rw [if_neg e] at h; exact List.mem_cons_of_mem _ (lk_isSome h)
  | [], _, _, h => by cases h
  | _ :: _, [], _, h => by cases h
theorem TK_ok : ∀ z ∈ TK, PyData.strOk z = true := by decide +kernel
theorem WD6_ok : ∀ z ∈ WD6, PyData.strOk z = true := by decide +kernel
theorem isOp_ok {o : Str} (h : isOp o = true) : PyData.strOk o = true := TK_ok o (lk_isSome h)
theorem tr_s (z : Str) (h : PyData.strOk z = true) : Tr (.str z) := .leaf (.str z h)
theorem tags_ok : PyData.strOk "value" = true ∧ PyData.strOk "name" = true ∧ PyData.strOk "refuse" = true ∧ PyData.strOk "if" = true ∧ PyData.strOk "do" = true ∧ PyData.strOk "call" = true := by decide +kernel
theorem tr2 {a b : D} (ha : Tr a) (hb : Tr b) : Tr (.tup [a, b]) := .tup fun d hd => by
  simp at hd
  rcases hd with rfl | rfl <;> assumption
theorem tr3 {a b c : D} (ha : Tr a) (hb : Tr b) (hc : Tr c) : Tr (.tup [a, b, c]) := .tup fun d hd => by
  simp at hd
  rcases hd with rfl | rfl | rfl <;> assumption
theorem tr4 {a b c e : D} (ha : Tr a) (hb : Tr b) (hc : Tr c) (he : Tr e) : Tr (.tup [a, b, c, e]) := .tup fun d hd => by
  simp at hd
  rcases hd with rfl | rfl | rfl | rfl <;> assumption
theorem trE {xs : List E} (h : ∀ e ∈ xs, Tr e.d) : Tr (.tup (E.ds xs)) := .tup fun d hd => by
  rw [E.ds_map] at hd
  obtain ⟨e, he, rfl⟩ := List.mem_map.mp hd
  exact h e he
theorem tame_tr {kn : List Str} (hk : ∀ z ∈ kn, PyData.strOk z = true) {e : E} (h : Tame kn e) : Tr e.d := by
  obtain ⟨t1, t2, t3, t4, t5, t6⟩ := tags_ok
  have nm : ∀ z ∈ kn, Tr (E.d (.nm z)) := fun z hz => tr2 (tr_s _ t2) (tr_s _ (hk z hz))
  have one : ∀ (o : Str) (e : E), PyData.strOk o = true → Tr e.d → Tr (E.d (.doo o [e])) := fun o e ho he => tr3 (tr_s _ t5) (tr_s _ ho) (trE fun a ha => by simp at ha; subst ha; exact he)
  cases h with
  | val v h => exact tr2 (tr_s _ t1) (v_tr v)
  | nm z h => exact nm z h
  | one o ho z h => exact one o _ (by rcases ho with rfl | rfl | rfl <;> decide +kernel) (nm z h)
  | two z h => exact one _ _ (by decide +kernel) (one _ _ (by decide +kernel) (nm z h))
theorem ge_tr {ps kn : List Str} {hs : List Hh} (hp : ∀ z ∈ ps, PyData.strOk z = true) (hk : ∀ z ∈ kn, PyData.strOk z = true) (hn : ∀ h ∈ hs, PyData.strOk h.nm = true) {d : Nat} {e : E} (h : Ge ps kn hs d e) : Tr e.d := by
  obtain ⟨t1, t2, t3, t4, t5, t6⟩ := tags_ok
  induction h with
  | val d v h => exact tr2 (tr_s _ t1) (v_tr v)
  | nm d z h => exact tr2 (tr_s _ t2) (tr_s _ (hp z h))
  | ref d w h => exact tr2 (tr_s _ t3) (tr_s _ (WD6_ok w h))
  | iff d a b c _ _ _ ia ib ic => exact tr4 (tr_s _ t4) ia ib ic
  | doo d o xs ho _ _ _ ih _ => exact tr3 (tr_s _ t5) (tr_s _ (isOp_ok ho)) (trE ih)
  | call d f xs hf _ h1 _ ih =>
    refine tr3 (tr_s _ t6) (tr_s _ (hn f hf)) (trE fun e he => ?_)
    obtain ⟨i, hi, e2⟩ := List.mem_iff_getElem.mp he
    have e3 : xs[i]? = some e := by rw [List.getElem?_eq_getElem hi, e2]
    by_cases q : f.kn[i]? = some true
    · exact tame_tr hk (h1 i e e3 q)
    · exact ih i e e3 q
/-- bounds of weight, number, depth -/
structure Bd (w s p : Nat) (e : E) : Prop where
  w : wt e.d ≤ w
  s : e.sz ≤ s
  p : e.dp ≤ p
theorem Bd.up {w s p w' s' p' : Nat} {e : E} (h : Bd w s p e) (hw : w ≤ w') (hs : s ≤ s') (hp : p ≤ p') : Bd w' s' p' e := ⟨by have := h.w; omega, by have := h.s; omega, by have := h.p; omega⟩
theorem bd_list {w s p : Nat} : ∀ {xs : List E}, (∀ e ∈ xs, Bd w s p e) → wts (E.ds xs) ≤ xs.length * w ∧ E.szs xs ≤ xs.length * s ∧ E.dps xs ≤ p
  | [], _ => by simp [E.ds, wts, E.szs, E.dps]
  | e :: r, h => by
    have h1 := h e List.mem_cons_self
    have h2 := bd_list (xs := r) fun a ha => h a (List.mem_cons_of_mem _ ha)
    have := h1.w
    have := h1.s
    have := h1.p
    simp only [E.ds, wts, E.szs, E.dps, List.length_cons, Nat.succ_mul]
    omega
theorem bd_parts {w s p : Nat} {xs : List E} (h : ∀ e ∈ xs, Bd w s p e) (hl : xs.length ≤ 8) : wts (E.ds xs) ≤ 8 * w ∧ E.szs xs ≤ 8 * s ∧ E.dps xs ≤ p := by
  obtain ⟨h1, h2, h3⟩ := bd_list h
  have a := Nat.mul_le_mul_right w hl
  have b := Nat.mul_le_mul_right s hl
  omega
theorem bd_doo {w s p : Nat} (o : Str) {xs : List E} (h : ∀ e ∈ xs, Bd w s p e) (hl : xs.length ≤ 8) : Bd (8 * w + 4) (8 * s + 1) (p + 1) (.doo o xs) := by
  obtain ⟨h1, h2, h3⟩ := bd_parts h hl
  refine ⟨?_, ?_, ?_⟩
  · simp only [E.d, wt, wts]; omega
  · simp only [E.sz]; omega
  · simp only [E.dp]; omega
theorem bd_call {w s p : Nat} (o : Str) {xs : List E} (h : ∀ e ∈ xs, Bd w s p e) (hl : xs.length ≤ 8) : Bd (8 * w + 4) (8 * s + 1) (p + 1) (.call o xs) := by
  obtain ⟨h1, h2, h3⟩ := bd_parts h hl
  refine ⟨?_, ?_, ?_⟩
  · simp only [E.d, wt, wts]; omega
  · simp only [E.sz]; omega
  · simp only [E.dp]; omega
theorem bd_iff {w s p : Nat} {a b c : E} (ha : Bd w s p a) (hb : Bd w s p b) (hc : Bd w s p c) : Bd (3 * w + 2) (3 * s + 1) (p + 1) (.iff a b c) := by
  have := ha.w; have := hb.w; have := hc.w; have := ha.s; have := hb.s; have := hc.s; have := ha.p; have := hb.p; have := hc.p
  refine ⟨?_, ?_, ?_⟩
  · simp only [E.d, wt, wts]; omega
  · simp only [E.sz]; omega
  · simp only [E.dp]; omega
theorem bd_val {v : Val} (h : v.isV = true) : Bd 60 1 1 (.val v) := by
  have := (isV_ok h).2
  exact ⟨by simp only [E.d, wt, wts, v_wt]; omega, by simp [E.sz], by simp [E.dp]⟩
theorem bd_nm (z : Str) : Bd 60 1 1 (.nm z) := ⟨by simp [E.d, wt, wts], by simp [E.sz], by simp [E.dp]⟩
theorem bd_ref (z : Str) : Bd 60 1 1 (.ref z) := ⟨by simp [E.d, wt, wts], by simp [E.sz], by simp [E.dp]⟩
theorem bd_tame {kn : List Str} {e : E} (h : Tame kn e) : Bd 60 4 3 e := by
  cases h with
  | val v h => exact (bd_val h).up (by omega) (by omega) (by omega)
  | nm z h => exact (bd_nm z).up (by omega) (by omega) (by omega)
  | one o ho z h => exact ⟨by simp [E.d, E.ds, wt, wts], by simp [E.sz, E.szs], by simp [E.dp, E.dps]⟩
  | two z h => exact ⟨by simp [E.d, E.ds, wt, wts], by simp [E.sz, E.szs], by simp [E.dp, E.dps]⟩
def wE : Nat → Nat
  | 0 => 60
  | d + 1 => 8 * wE d + 4
def sE : Nat → Nat
  | 0 => 4
  | d + 1 => 8 * sE d + 1
theorem wE_ge (d : Nat) : 60 ≤ wE d := by
  induction d with
  | zero => exact Nat.le_refl _
  | succ d ih => rw [wE]; omega
theorem sE_ge (d : Nat) : 4 ≤ sE d := by
  induction d with
  | zero => exact Nat.le_refl _
  | succ d ih => rw [sE]; omega
theorem opB8 {o : Str} {k : Nat} (h : opB o k = true) : k ≤ 8 := by
  unfold opB at h
  split at h
  · rename_i a b e
    have m := lkD_mem TK TV o _ e
    simp only [TV, List.mem_cons, List.not_mem_nil, or_false] at m
    rw [Bool.and_eq_true, decide_eq_true_eq, decide_eq_true_eq] at h
    rcases m with e | e | e | e | e | e | e | e | e | e | e | e <;> (simp only [D.tup.injEq, List.cons.injEq, D.int.injEq, and_true] at e; omega)
  · cases h
theorem ge_bd {ps kn : List Str} {hs : List Hh} (h6 : ∀ h ∈ hs, h.ps.length ≤ 6) {d : Nat} {e : E} (h : Ge ps kn hs d e) : Bd (wE d) (sE d) (d + 3) e := by
  induction h with
  | val d v h => exact (bd_val h).up (wE_ge d) (by have := sE_ge d; omega) (by omega)
  | nm d z h => exact (bd_nm z).up (wE_ge d) (by have := sE_ge d; omega) (by omega)
  | ref d w h => exact (bd_ref w).up (wE_ge d) (by have := sE_ge d; omega) (by omega)
  | iff d a b c _ _ _ ia ib ic => exact (bd_iff ia ib ic).up (by rw [wE]; omega) (by rw [sE]; omega) (by omega)
  | doo d o xs _ hn _ _ ih _ => exact (bd_doo o ih (opB8 hn)).up (by rw [wE]; omega) (by rw [sE]; omega) (by omega)
  | call d f xs hf hn h1 _ ih =>
    refine (bd_call f.nm (w := wE d) (s := sE d) (p := d + 3) (fun e he => ?_) (by have := h6 f hf; omega)).up (by rw [wE]; omega) (by rw [sE]; omega) (by omega)
    obtain ⟨i, hi, e2⟩ := List.mem_iff_getElem.mp he
    have e3 : xs[i]? = some e := by rw [List.getElem?_eq_getElem hi, e2]
    by_cases q : f.kn[i]? = some true
    · exact (bd_tame (h1 i e e3 q)).up (wE_ge d) (sE_ge d) (by omega)
    · exact ih i e e3 q

end Kv

namespace Kv
open PySem PySem.Spec PyProof.Rows L2 Hf
set_option autoImplicit false
def c__law_heads_of : Sts :=
    (.cons (.set 1 (.lst (.cons (.var 0) .nil)))
    (.cons (.set 2 (.lst .nil))
    (.cons (.ifs (.val (.cmp .Eq (.idx (.var 0) (.lit (.int 0))) (.lit (.str "if")))) (.cons (.set 2 (.slc (.var 0) (.some (.lit (.int 1))) .none))
    .nil) .nil)
    (.cons (.ifs (.val (.cmp .In (.idx (.var 0) (.lit (.int 0))) (.tup (.cons (.lit (.str "do")) (.cons (.lit (.str "call")) .nil))))) (.cons (.set 2 (.idx (.var 0) (.lit (.int 2))))
    .nil) .nil)
    (.cons (.for_ (.one 3) (.seq (.var 2)) (.cons (.set 1 (.bin .Add (.var 1) (.call "_law_heads_of" (.cons (.var 3) .nil))))
    .nil))
    (.cons (.ret (.var 1))
    .nil))))))
def c_rs__law_heads_of_1 : Sts := (.cons (.ifs (.val (.cmp .In (.idx (.var 0) (.lit (.int 0))) (.tup (.cons (.lit (.str "do")) (.cons (.lit (.str "call")) .nil))))) (.cons (.set 2 (.idx (.var 0) (.lit (.int 2)))) .nil) .nil) (.cons (.for_ (.one 3) (.seq (.var 2)) (.cons (.set 1 (.bin .Add (.var 1) (.call "_law_heads_of" (.cons (.var 3) .nil)))) .nil)) (.cons (.ret (.var 1)) .nil)))
abbrev en_rs__law_heads_of_1 (x0 : D) (L1 : List D) (p2 : Bool × D) : En := [some (false, x0), some (true, .lst L1), some p2, none]
def rs__law_heads_of_1 (pg : Pg) (n : Nat) : En → Kt → Rr := exsK (pg.tb n) pg.wf c_rs__law_heads_of_1
def c_rs__law_heads_of_2 : Sts := (.cons (.for_ (.one 3) (.seq (.var 2)) (.cons (.set 1 (.bin .Add (.var 1) (.call "_law_heads_of" (.cons (.var 3) .nil)))) .nil)) (.cons (.ret (.var 1)) .nil))
abbrev en_rs__law_heads_of_2 (x0 : D) (L1 : List D) (p2 : Bool × D) : En := [some (false, x0), some (true, .lst L1), some p2, none]
def rs__law_heads_of_2 (pg : Pg) (n : Nat) : En → Kt → Rr := exsK (pg.tb n) pg.wf c_rs__law_heads_of_2
abbrev en_lp__law_heads_of_3 (x0 : D) (p1 : Bool × D) (x2 : D) (y3 : Option (Bool × D)) : En := [some (false, x0), some p1, some (false, x2), y3]
def c_lp__law_heads_of_3 : Sts := (.cons (.set 1 (.bin .Add (.var 1) (.call "_law_heads_of" (.cons (.var 3) .nil)))) .nil)
def lp__law_heads_of_3 (pg : Pg) (n : Nat) : List D → En → (En → Rr) → Rr := forK (.one 3) (exsK (pg.tb n) pg.wf c_lp__law_heads_of_3)
def c_rs__law_heads_of_4 : Sts := (.cons (.ret (.var 1)) .nil)
abbrev en_rs__law_heads_of_4 (x0 : D) (p1 : Bool × D) (x2 : D) (y3 : Option (Bool × D)) : En := [some (false, x0), some p1, some (false, x2), y3]
def rs__law_heads_of_4 (pg : Pg) (n : Nat) : En → Kt → Rr := exsK (pg.tb n) pg.wf c_rs__law_heads_of_4
theorem rs__law_heads_of_4_eq {pg : Pg} {n : Nat} (x0 : D) (p1 : Bool × D) (x2 : D) (y3 : Option (Bool × D)) (kk : Kt) : rs__law_heads_of_4 pg n (en_rs__law_heads_of_4 x0 p1 x2 y3) kk = (.ok p1 : Rr) := by kernel_rfl
theorem lp__law_heads_of_3_nil {pg : Pg} {n : Nat} (ρ : En) (kk : En → Rr) : lp__law_heads_of_3 pg n [] ρ kk = kk ρ := (rfl)
theorem lp__law_heads_of_3_cons {pg : Pg} {n : Nat} (dd : D) (ds : List D) (x0 : D) (p1 : Bool × D) (x2 : D) (y3 : Option (Bool × D)) (kk : En → Rr) : lp__law_heads_of_3 pg n (dd :: ds) (en_lp__law_heads_of_3 x0 p1 x2 y3) kk = (((sndR (callN pg n "_law_heads_of" [dd])).bind fun v5 => opD .Add p1.2 v5).bind fun p6 => lp__law_heads_of_3 pg n ds (en_lp__law_heads_of_3 x0 p6 x2 (some (false, dd))) kk : Rr) := by kernel_rfl
theorem rs__law_heads_of_2_eq {pg : Pg} {n : Nat} (x0 : D) (L1 : List D) (p2 : Bool × D) (kk : Kt) : rs__law_heads_of_2 pg n (en_rs__law_heads_of_2 x0 L1 p2) kk = ((itemsW p2.2).bind fun l7 => lp__law_heads_of_3 pg n l7 (en_lp__law_heads_of_3 x0 (true, .lst L1) p2.2 (none)) (fun ρ => rs__law_heads_of_4 pg n ρ kk) : Rr) := by kernel_rfl
theorem rs__law_heads_of_1_eq {pg : Pg} {n : Nat} (x0 : D) (L1 : List D) (p2 : Bool × D) (kk : Kt) : rs__law_heads_of_1 pg n (en_rs__law_heads_of_1 x0 L1 p2) kk = (((sndR ((sndR (idxD x0 (.int 0))).bind fun v3 => okB (cmpD .In v3 (.tup [(.str "do"), (.str "call")])))).bind D.tru).bind fun t4 => if t4 = true then (idxD x0 (.int 2)).bind fun p8 => rs__law_heads_of_2 pg n (en_rs__law_heads_of_2 x0 L1 p8) kk else rs__law_heads_of_2 pg n (en_rs__law_heads_of_2 x0 L1 p2) kk : Rr) := by kernel_rfl
theorem S__law_heads_of {pg : Pg} {n : Nat} (h : ∃ N : List Str, N.length = 4 ∧ pg.fs.lookup ("_law_heads_of" : Str) = some ⟨N, 1, c__law_heads_of, false⟩) (x0 : D) : callN pg (n + 1) "_law_heads_of" [x0] = (((sndR ((sndR (idxD x0 (.int 0))).bind fun v1 => okB (cmpD .Eq v1 (.str "if")))).bind D.tru).bind fun t2 => if t2 = true then (slcD x0 (some 1) none).bind fun p9 => rs__law_heads_of_1 pg n (en_rs__law_heads_of_1 x0 [x0] p9) K0 else rs__law_heads_of_1 pg n (en_rs__law_heads_of_1 x0 [x0] (true, .lst [])) K0 : Rr) := by
  rw [k_run h]
  kernel_rfl
def c__law_put : Sts :=
    (.cons (.ifs (.val (.cmp .Eq (.var 1) (.lit (.int 0)))) (.cons (.ret (.var 2))
    .nil) .nil)
    (.cons (.set 1 (.bin .Sub (.var 1) (.lit (.int 1))))
    (.cons (.set 3 (.bi .list (.slc (.var 0) (.some (.lit (.int 1))) .none)))
    (.cons (.ifs (.val (.cmp .NotEq (.idx (.var 0) (.lit (.int 0))) (.lit (.str "if")))) (.cons (.set 3 (.bi .list (.idx (.var 0) (.lit (.int 2)))))
    .nil) .nil)
    (.cons (.for_ (.one 4) (.rng1 (.bi .len (.var 3))) (.cons (.set 5 (.bi .len (.call "_law_heads_of" (.cons (.idx (.var 3) (.var 4)) .nil))))
    (.cons (.ifs (.and (.val (.cmp .LtE (.lit (.int 0)) (.var 1))) (.val (.cmp .Lt (.var 1) (.var 5)))) (.cons (.put 3 (.var 4) (.call "_law_put" (.cons (.idx (.var 3) (.var 4)) (.cons (.var 1) (.cons (.var 2) .nil)))))
    .nil) .nil)
    (.cons (.set 1 (.bin .Sub (.var 1) (.var 5)))
    .nil))))
    (.cons (.ifs (.val (.cmp .Eq (.idx (.var 0) (.lit (.int 0))) (.lit (.str "if")))) (.cons (.ret (.bin .Add (.tup (.cons (.lit (.str "if")) .nil)) (.bi .tuple (.var 3))))
    .nil) .nil)
    (.cons (.ret (.tup (.cons (.idx (.var 0) (.lit (.int 0))) (.cons (.idx (.var 0) (.lit (.int 1))) (.cons (.bi .tuple (.var 3)) .nil)))))
    .nil)))))))
def c_rs__law_put_1 : Sts := (.cons (.for_ (.one 4) (.rng1 (.bi .len (.var 3))) (.cons (.set 5 (.bi .len (.call "_law_heads_of" (.cons (.idx (.var 3) (.var 4)) .nil)))) (.cons (.ifs (.and (.val (.cmp .LtE (.lit (.int 0)) (.var 1))) (.val (.cmp .Lt (.var 1) (.var 5)))) (.cons (.put 3 (.var 4) (.call "_law_put" (.cons (.idx (.var 3) (.var 4)) (.cons (.var 1) (.cons (.var 2) .nil))))) .nil) .nil) (.cons (.set 1 (.bin .Sub (.var 1) (.var 5))) .nil)))) (.cons (.ifs (.val (.cmp .Eq (.idx (.var 0) (.lit (.int 0))) (.lit (.str "if")))) (.cons (.ret (.bin .Add (.tup (.cons (.lit (.str "if")) .nil)) (.bi .tuple (.var 3)))) .nil) .nil) (.cons (.ret (.tup (.cons (.idx (.var 0) (.lit (.int 0))) (.cons (.idx (.var 0) (.lit (.int 1))) (.cons (.bi .tuple (.var 3)) .nil))))) .nil)))
abbrev en_rs__law_put_1 (x0 : D) (p1 : Bool × D) (x2 : D) (p3 : Bool × D) : En := [some (false, x0), some p1, some (false, x2), some p3, none, none]
def rs__law_put_1 (pg : Pg) (n : Nat) : En → Kt → Rr := exsK (pg.tb n) pg.wf c_rs__law_put_1
abbrev en_lp__law_put_2 (x0 : D) (p1 : Bool × D) (x2 : D) (L3 : List D) (y4 : Option (Bool × D)) (y5 : Option (Bool × D)) : En := [some (false, x0), some p1, some (false, x2), some (true, .lst L3), y4, y5]
def c_lp__law_put_2 : Sts := (.cons (.set 5 (.bi .len (.call "_law_heads_of" (.cons (.idx (.var 3) (.var 4)) .nil)))) (.cons (.ifs (.and (.val (.cmp .LtE (.lit (.int 0)) (.var 1))) (.val (.cmp .Lt (.var 1) (.var 5)))) (.cons (.put 3 (.var 4) (.call "_law_put" (.cons (.idx (.var 3) (.var 4)) (.cons (.var 1) (.cons (.var 2) .nil))))) .nil) .nil) (.cons (.set 1 (.bin .Sub (.var 1) (.var 5))) .nil)))
def lp__law_put_2 (pg : Pg) (n : Nat) : List D → En → (En → Rr) → Rr := forK (.one 4) (exsK (pg.tb n) pg.wf c_lp__law_put_2)
def c_rs__law_put_3 : Sts := (.cons (.ifs (.val (.cmp .Eq (.idx (.var 0) (.lit (.int 0))) (.lit (.str "if")))) (.cons (.ret (.bin .Add (.tup (.cons (.lit (.str "if")) .nil)) (.bi .tuple (.var 3)))) .nil) .nil) (.cons (.ret (.tup (.cons (.idx (.var 0) (.lit (.int 0))) (.cons (.idx (.var 0) (.lit (.int 1))) (.cons (.bi .tuple (.var 3)) .nil))))) .nil))
abbrev en_rs__law_put_3 (x0 : D) (p1 : Bool × D) (x2 : D) (L3 : List D) (y4 : Option (Bool × D)) (y5 : Option (Bool × D)) : En := [some (false, x0), some p1, some (false, x2), some (true, .lst L3), y4, y5]
def rs__law_put_3 (pg : Pg) (n : Nat) : En → Kt → Rr := exsK (pg.tb n) pg.wf c_rs__law_put_3
theorem rs__law_put_3_eq {pg : Pg} {n : Nat} (x0 : D) (p1 : Bool × D) (x2 : D) (L3 : List D) (y4 : Option (Bool × D)) (y5 : Option (Bool × D)) (kk : Kt) : rs__law_put_3 pg n (en_rs__law_put_3 x0 p1 x2 L3 y4 y5) kk = (((sndR ((sndR (idxD x0 (.int 0))).bind fun v7 => okB (cmpD .Eq v7 (.str "if")))).bind D.tru).bind fun t8 => if t8 = true then ((sndR (biD .tuple (.lst L3))).bind fun v9 => opD .Add (.tup [(.str "if")]) v9) else ((idxD x0 (.int 0)).bind fun v13 => ((idxD x0 (.int 1)).bind fun v11 => ((biD .tuple (.lst L3)).bind fun v10 => .ok (v10.2 :: [])).bind fun l12 => .ok (v11.2 :: l12)).bind fun l14 => .ok (v13.2 :: l14)).bind fun l15 => if (l15 : List D).length ≤ sizeLine then okF (.tup l15) else .fail : Rr) := by kernel_rfl
theorem lp__law_put_2_nil {pg : Pg} {n : Nat} (ρ : En) (kk : En → Rr) : lp__law_put_2 pg n [] ρ kk = kk ρ := (rfl)
theorem lp__law_put_2_cons {pg : Pg} {n : Nat} (dd : D) (ds : List D) (x0 : D) (p1 : Bool × D) (x2 : D) (L3 : List D) (y4 : Option (Bool × D)) (y5 : Option (Bool × D)) (kk : En → Rr) : lp__law_put_2 pg n (dd :: ds) (en_lp__law_put_2 x0 p1 x2 L3 y4 y5) kk = (((sndR (((idxD (.lst L3) dd).bind fun v16 => .ok (v16.2 :: [])).bind fun l17 => callN pg n "_law_heads_of" l17)).bind fun v18 => biD .len v18).bind fun p19 => (((sndR (okB (cmpD .LtE (.int 0) p1.2))).bind D.tru).bind fun t20 => if t20 = true then (sndR (okB (cmpD .Lt p1.2 p19.2))).bind D.tru else .ok false).bind fun t21 => if t21 = true then ((((idxD (.lst L3) dd).bind fun v22 => .ok (v22.2 :: [p1.2, x2])).bind fun l23 => callN pg n "_law_put" l23).bind fun v26 => match (dd : D) with | .int i25 => (match ixN L3.length i25 with | some n24 => (opD .Sub p1.2 p19.2).bind fun p28 => lp__law_put_2 pg n ds (en_lp__law_put_2 x0 p28 x2 (L3.set n24 v26.2) (some (false, dd)) (some p19)) kk | none => .fail) | _ => .fail) else (opD .Sub p1.2 p19.2).bind fun p29 => lp__law_put_2 pg n ds (en_lp__law_put_2 x0 p29 x2 L3 (some (false, dd)) (some p19)) kk : Rr) := by kernel_rfl
theorem rs__law_put_1_eq {pg : Pg} {n : Nat} (x0 : D) (p1 : Bool × D) (x2 : D) (p3 : Bool × D) (kk : Kt) : rs__law_put_1 pg n (en_rs__law_put_1 x0 p1 x2 p3) kk = (((intR (sndR (biD .len p3.2))).bind fun i31 => rngD 0 i31).bind fun l30 => lp__law_put_2 pg n l30 [some (false, x0), some p1, some (false, x2), some p3, none, none] (fun ρ => rs__law_put_3 pg n ρ kk) : Rr) := by kernel_rfl
theorem S__law_put {pg : Pg} {n : Nat} (h : ∃ N : List Str, N.length = 6 ∧ pg.fs.lookup ("_law_put" : Str) = some ⟨N, 3, c__law_put, false⟩) (x0 x1 x2 : D) : callN pg (n + 1) "_law_put" [x0, x1, x2] = (((sndR (okB (cmpD .Eq x1 (.int 0)))).bind D.tru).bind fun t1 => if t1 = true then (.ok (false, x2)) else (opD .Sub x1 (.int 1)).bind fun p2 => ((sndR (slcD x0 (some 1) none)).bind fun v3 => biD .list v3).bind fun p4 => ((sndR ((sndR (idxD x0 (.int 0))).bind fun v5 => okB (cmpD .NotEq v5 (.str "if")))).bind D.tru).bind fun t6 => if t6 = true then ((sndR (idxD x0 (.int 2))).bind fun v32 => biD .list v32).bind fun p33 => rs__law_put_1 pg n (en_rs__law_put_1 x0 p2 x2 p33) K0 else rs__law_put_1 pg n (en_rs__law_put_1 x0 p2 x2 p4) K0 : Rr) := by
  rw [k_run h]
  kernel_rfl
def c__law_odd : Sts :=
    (.cons (.set 2 (.tup (.cons (.lit (.str "value")) (.cons (.lit (.int 1)) .nil))))
    (.cons (.set 3 (.lst (.cons (.tup (.cons (.lit (.str "value")) (.cons (.lit (.bl true)) .nil))) (.cons (.tup (.cons (.lit (.str "value")) (.cons (.bin .Pow (.lit (.int 10)) (.lit (.int 18))) .nil))) (.cons (.tup (.cons (.lit (.str "value")) (.cons (.bin .Mult (.tup (.cons (.lit (.int 0)) .nil)) (.lit (.int 50))) .nil))) (.cons (.tup (.cons (.lit (.str "value")) (.cons (.tup (.cons (.lit (.str "a")) .nil)) .nil))) (.cons (.tup (.cons (.lit (.str "value")) (.cons (.lit (.int 1)) (.cons (.lit (.int 1)) .nil)))) .nil)))))))
    (.cons (.set 3 (.bin .Add (.var 3) (.lst (.cons (.tup (.cons (.lit (.str "value")) (.cons (.lit .non) .nil))) (.cons (.tup (.cons (.lit (.str "name")) (.cons (.lit (.str "zz9")) .nil))) (.cons (.tup (.cons (.lit (.str "name")) (.cons (.bin .Add (.idx (.idx (.var 0) (.lit (.int 0))) (.lit (.int 0))) (.lit (.str "z"))) .nil))) (.cons (.tup (.cons (.lit (.str "refuse")) (.cons (.lit (.str "TooLong")) .nil))) .nil)))))))
    (.cons (.set 3 (.bin .Add (.var 3) (.lst (.cons (.tup (.cons (.lit (.str "refuse")) (.cons (.lit (.str "refused")) .nil))) (.cons (.tup (.cons (.lit (.str "if")) (.cons (.var 2) (.cons (.var 2) .nil)))) (.cons (.tup (.cons (.lit (.str "if")) (.cons (.var 2) (.cons (.var 2) (.cons (.var 2) (.cons (.var 2) .nil)))))) (.cons (.tup (.cons (.lit (.str "do")) (.cons (.lit (.str "plus")) (.cons (.tup (.cons (.var 2) .nil)) .nil)))) .nil)))))))
    (.cons (.set 3 (.bin .Add (.var 3) (.lst (.cons (.tup (.cons (.lit (.str "do")) (.cons (.lit (.str "plus")) (.cons (.tup (.cons (.var 2) (.cons (.var 2) (.cons (.var 2) .nil)))) .nil)))) (.cons (.tup (.cons (.lit (.str "do")) (.cons (.lit (.str "mod")) (.cons (.tup (.cons (.var 2) (.cons (.var 2) .nil))) .nil)))) (.cons (.tup (.cons (.lit (.str "do")) (.cons (.lit (.str "list")) (.cons (.bin .Mult (.tup (.cons (.var 2) .nil)) (.lit (.int 9))) .nil)))) .nil))))))
    (.cons (.set 3 (.bin .Add (.var 3) (.lst (.cons (.tup (.cons (.lit (.str "do")) (.cons (.lit (.str "first")) (.cons (.tup .nil) .nil)))) (.cons (.tup (.cons (.lit (.str "do")) (.cons (.lit (.str "if")) (.cons (.tup (.cons (.var 2) (.cons (.var 2) (.cons (.var 2) .nil)))) .nil)))) (.cons (.tup (.cons (.lit (.str "call")) (.cons (.lit (.str "zz9")) (.cons (.tup .nil) .nil)))) (.cons (.tup (.cons (.lit (.str "stop")) (.cons (.lit (.int 1)) .nil))) .nil)))))))
    (.cons (.set 3 (.bin .Add (.var 3) (.lst (.cons (.tup (.cons (.lit (.str "call")) (.cons (.idx (.idx (.var 0) (.lit (.int 0))) (.lit (.int 0))) (.cons (.bin .Mult (.tup (.cons (.var 2) .nil)) (.bin .Add (.bi .len (.idx (.idx (.var 0) (.lit (.int 0))) (.lit (.int 1)))) (.lit (.int 1)))) .nil)))) (.cons (.tup (.cons (.lit (.str "call")) (.cons (.lit (.str "plus")) (.cons (.tup (.cons (.var 2) (.cons (.var 2) .nil))) .nil)))) .nil)))))
    (.cons (.ret (.idx (.var 3) (.var 1)))
    .nil))))))))
theorem S__law_odd {pg : Pg} {n : Nat} (h : ∃ N : List Str, N.length = 4 ∧ pg.fs.lookup ("_law_odd" : Str) = some ⟨N, 2, c__law_odd, false⟩) (x0 x1 : D) : callN pg (n + 1) "_law_odd" [x0, x1] = ((((((((opD .Pow (.int 10) (.int 18)).bind fun v1 => .ok (v1.2 :: [])).bind fun l2 => .ok ((.str "value") :: l2)).bind fun l3 => if (l3 : List D).length ≤ sizeLine then okF (.tup l3) else .fail).bind fun v8 => (((((opD .Mult (.tup [(.int 0)]) (.int 50)).bind fun v4 => .ok (v4.2 :: [])).bind fun l5 => .ok ((.str "value") :: l5)).bind fun l6 => if (l6 : List D).length ≤ sizeLine then okF (.tup l6) else .fail).bind fun v7 => .ok (v7.2 :: [(.tup [(.str "value"), (.tup [(.str "a")])]), (.tup [(.str "value"), (.int 1), (.int 1)])])).bind fun l9 => .ok (v8.2 :: l9)).bind fun l10 => .ok ((.tup [(.str "value"), (.bl true)]) :: l10)).bind fun l11 => if (l11 : List D).length ≤ sizeLine then .ok (true, .lst l11) else .fail).bind fun p12 => ((sndR (((((((((sndR ((sndR (idxD x0 (.int 0))).bind fun v13 => idxD v13 (.int 0))).bind fun v14 => opD .Add v14 (.str "z")).bind fun v15 => .ok (v15.2 :: [])).bind fun l16 => .ok ((.str "name") :: l16)).bind fun l17 => if (l17 : List D).length ≤ sizeLine then okF (.tup l17) else .fail).bind fun v18 => .ok (v18.2 :: [(.tup [(.str "refuse"), (.str "TooLong")])])).bind fun l19 => .ok ((.tup [(.str "name"), (.str "zz9")]) :: l19)).bind fun l20 => .ok ((.tup [(.str "value"), .non]) :: l20)).bind fun l21 => if (l21 : List D).length ≤ sizeLine then .ok (true, .lst l21) else .fail)).bind fun v22 => opD .Add p12.2 v22).bind fun p23 => (opD .Add p23.2 (.lst [(.tup [(.str "refuse"), (.str "refused")]), (.tup [(.str "if"), (.tup [(.str "value"), (.int 1)]), (.tup [(.str "value"), (.int 1)])]), (.tup [(.str "if"), (.tup [(.str "value"), (.int 1)]), (.tup [(.str "value"), (.int 1)]), (.tup [(.str "value"), (.int 1)]), (.tup [(.str "value"), (.int 1)])]), (.tup [(.str "do"), (.str "plus"), (.tup [(.tup [(.str "value"), (.int 1)])])])])).bind fun p24 => ((sndR (((((((((opD .Mult (.tup [(.tup [(.str "value"), (.int 1)])]) (.int 9)).bind fun v25 => .ok (v25.2 :: [])).bind fun l26 => .ok ((.str "list") :: l26)).bind fun l27 => .ok ((.str "do") :: l27)).bind fun l28 => if (l28 : List D).length ≤ sizeLine then okF (.tup l28) else .fail).bind fun v29 => .ok (v29.2 :: [])).bind fun l30 => .ok ((.tup [(.str "do"), (.str "mod"), (.tup [(.tup [(.str "value"), (.int 1)]), (.tup [(.str "value"), (.int 1)])])]) :: l30)).bind fun l31 => .ok ((.tup [(.str "do"), (.str "plus"), (.tup [(.tup [(.str "value"), (.int 1)]), (.tup [(.str "value"), (.int 1)]), (.tup [(.str "value"), (.int 1)])])]) :: l31)).bind fun l32 => if (l32 : List D).length ≤ sizeLine then .ok (true, .lst l32) else .fail)).bind fun v33 => opD .Add p24.2 v33).bind fun p34 => (opD .Add p34.2 (.lst [(.tup [(.str "do"), (.str "first"), (.tup [])]), (.tup [(.str "do"), (.str "if"), (.tup [(.tup [(.str "value"), (.int 1)]), (.tup [(.str "value"), (.int 1)]), (.tup [(.str "value"), (.int 1)])])]), (.tup [(.str "call"), (.str "zz9"), (.tup [])]), (.tup [(.str "stop"), (.int 1)])])).bind fun p35 => ((sndR (((((((sndR (idxD x0 (.int 0))).bind fun v36 => idxD v36 (.int 0)).bind fun v42 => (((sndR ((sndR ((sndR ((sndR (idxD x0 (.int 0))).bind fun v37 => idxD v37 (.int 1))).bind fun v38 => biD .len v38)).bind fun v39 => opD .Add v39 (.int 1))).bind fun v40 => opD .Mult (.tup [(.tup [(.str "value"), (.int 1)])]) v40).bind fun v41 => .ok (v41.2 :: [])).bind fun l43 => .ok (v42.2 :: l43)).bind fun l44 => .ok ((.str "call") :: l44)).bind fun l45 => if (l45 : List D).length ≤ sizeLine then okF (.tup l45) else .fail).bind fun v46 => .ok (v46.2 :: [(.tup [(.str "call"), (.str "plus"), (.tup [(.tup [(.str "value"), (.int 1)]), (.tup [(.str "value"), (.int 1)])])])])).bind fun l47 => if (l47 : List D).length ≤ sizeLine then .ok (true, .lst l47) else .fail)).bind fun v48 => opD .Add p35.2 v48).bind fun p49 => idxD p49.2 x1 : Rr) := by
  rw [k_run h]
  kernel_rfl
def c__law_deep : Sts :=
    (.cons (.set 1 (.tup (.cons (.lit (.str "value")) (.cons (.lit (.int 1)) .nil))))
    (.cons (.for_ (.one 2) (.rng1 (.bin .Sub (.var 0) (.lit (.int 1)))) (.cons (.set 3 (.lst (.cons (.tup (.cons (.lit (.str "do")) (.cons (.lit (.str "list")) (.cons (.tup (.cons (.var 1) .nil)) .nil)))) (.cons (.tup (.cons (.lit (.str "if")) (.cons (.var 1) (.cons (.tup (.cons (.lit (.str "value")) (.cons (.lit (.int 0)) .nil))) (.cons (.tup (.cons (.lit (.str "value")) (.cons (.lit (.int 2)) .nil))) .nil))))) .nil))))
    (.cons (.app 3 (.tup (.cons (.lit (.str "do")) (.cons (.lit (.str "plus")) (.cons (.tup (.cons (.tup (.cons (.lit (.str "value")) (.cons (.lit (.int 3)) .nil))) (.cons (.var 1) .nil))) .nil)))))
    (.cons (.set 1 (.idx (.var 3) (.bin .Mod (.bin .Add (.var 2) (.var 0)) (.lit (.int 3)))))
    .nil))))
    (.cons (.ret (.var 1))
    .nil)))
abbrev en_lp__law_deep_1 (x0 : D) (p1 : Bool × D) (y2 : Option (Bool × D)) (y3 : Option (Bool × D)) : En := [some (false, x0), some p1, y2, y3]
def c_lp__law_deep_1 : Sts := (.cons (.set 3 (.lst (.cons (.tup (.cons (.lit (.str "do")) (.cons (.lit (.str "list")) (.cons (.tup (.cons (.var 1) .nil)) .nil)))) (.cons (.tup (.cons (.lit (.str "if")) (.cons (.var 1) (.cons (.tup (.cons (.lit (.str "value")) (.cons (.lit (.int 0)) .nil))) (.cons (.tup (.cons (.lit (.str "value")) (.cons (.lit (.int 2)) .nil))) .nil))))) .nil)))) (.cons (.app 3 (.tup (.cons (.lit (.str "do")) (.cons (.lit (.str "plus")) (.cons (.tup (.cons (.tup (.cons (.lit (.str "value")) (.cons (.lit (.int 3)) .nil))) (.cons (.var 1) .nil))) .nil))))) (.cons (.set 1 (.idx (.var 3) (.bin .Mod (.bin .Add (.var 2) (.var 0)) (.lit (.int 3))))) .nil)))
def lp__law_deep_1 (pg : Pg) (n : Nat) : List D → En → (En → Rr) → Rr := forK (.one 2) (exsK (pg.tb n) pg.wf c_lp__law_deep_1)
def c_rs__law_deep_2 : Sts := (.cons (.ret (.var 1)) .nil)
abbrev en_rs__law_deep_2 (x0 : D) (p1 : Bool × D) (y2 : Option (Bool × D)) (y3 : Option (Bool × D)) : En := [some (false, x0), some p1, y2, y3]
def rs__law_deep_2 (pg : Pg) (n : Nat) : En → Kt → Rr := exsK (pg.tb n) pg.wf c_rs__law_deep_2
theorem rs__law_deep_2_eq {pg : Pg} {n : Nat} (x0 : D) (p1 : Bool × D) (y2 : Option (Bool × D)) (y3 : Option (Bool × D)) (kk : Kt) : rs__law_deep_2 pg n (en_rs__law_deep_2 x0 p1 y2 y3) kk = (.ok p1 : Rr) := by kernel_rfl
theorem lp__law_deep_1_nil {pg : Pg} {n : Nat} (ρ : En) (kk : En → Rr) : lp__law_deep_1 pg n [] ρ kk = kk ρ := (rfl)
theorem lp__law_deep_1_cons {pg : Pg} {n : Nat} (dd : D) (ds : List D) (x0 : D) (p1 : Bool × D) (y2 : Option (Bool × D)) (y3 : Option (Bool × D)) (kk : En → Rr) : lp__law_deep_1 pg n (dd :: ds) (en_lp__law_deep_1 x0 p1 y2 y3) kk = (if ([(.tup [(.str "do"), (.str "list"), (.tup [p1.2])]), (.tup [(.str "if"), p1.2, (.tup [(.str "value"), (.int 0)]), (.tup [(.str "value"), (.int 2)])])] : List D).length < sizeLine then ((sndR ((sndR (opD .Add dd x0)).bind fun v1 => opD .Mod v1 (.int 3))).bind fun v2 => idxD (.lst ([(.tup [(.str "do"), (.str "list"), (.tup [p1.2])]), (.tup [(.str "if"), p1.2, (.tup [(.str "value"), (.int 0)]), (.tup [(.str "value"), (.int 2)])])] ++ [(.tup [(.str "do"), (.str "plus"), (.tup [(.tup [(.str "value"), (.int 3)]), p1.2])])])) v2).bind fun p3 => lp__law_deep_1 pg n ds (en_lp__law_deep_1 x0 p3 (some (false, dd)) (some (true, .lst ([(.tup [(.str "do"), (.str "list"), (.tup [p1.2])]), (.tup [(.str "if"), p1.2, (.tup [(.str "value"), (.int 0)]), (.tup [(.str "value"), (.int 2)])])] ++ [(.tup [(.str "do"), (.str "plus"), (.tup [(.tup [(.str "value"), (.int 3)]), p1.2])])])))) kk else .fail : Rr) := by kernel_rfl
theorem S__law_deep {pg : Pg} {n : Nat} (h : ∃ N : List Str, N.length = 4 ∧ pg.fs.lookup ("_law_deep" : Str) = some ⟨N, 1, c__law_deep, false⟩) (x0 : D) : callN pg (n + 1) "_law_deep" [x0] = (((intR (sndR (opD .Sub x0 (.int 1)))).bind fun i5 => rngD 0 i5).bind fun l4 => lp__law_deep_1 pg n l4 (en_lp__law_deep_1 x0 (false, (.tup [(.str "value"), (.int 1)])) (none) (none)) (fun ρ => rs__law_deep_2 pg n ρ K0) : Rr) := by
  rw [k_run h]
  kernel_rfl
def c__law_with : Sts :=
    (.cons (.ret (.bin .Add (.bin .Add (.slc (.var 0) .none (.some (.var 1))) (.tup (.cons (.var 2) .nil))) (.slc (.var 0) (.some (.bin .Add (.var 1) (.lit (.int 1)))) .none)))
    .nil)
theorem S__law_with {pg : Pg} {n : Nat} (h : ∃ N : List Str, N.length = 3 ∧ pg.fs.lookup ("_law_with" : Str) = some ⟨N, 3, c__law_with, false⟩) (x0 x1 x2 : D) : callN pg (n + 1) "_law_with" [x0, x1, x2] = ((sndR ((sndR (((intR (Res.ok x1)).bind fun i1 => Res.ok (some i1)).bind fun o2 => slcD x0 none o2)).bind fun v3 => opD .Add v3 (.tup [x2]))).bind fun v4 => (sndR (((intR (sndR (opD .Add x1 (.int 1)))).bind fun i5 => Res.ok (some i5)).bind fun o6 => slcD x0 o6 none)).bind fun v7 => opD .Add v4 v7 : Rr) := by
  rw [k_run h]
  kernel_rfl
def c__law_spoilt : Sts :=
    (.cons (.set 4 (.bin .Mod (.var 3) (.bi .len (.var 0))))
    (.cons (.set 5 (.bin .FloorDiv (.var 3) (.lit (.int 7))))
    (.cons (.sets (.tup [6, 7, 8]) (.idx (.var 0) (.var 4)))
    (.cons (.ifs (.val (.cmp .Lt (.var 2) (.lit (.int 22)))) (.cons (.set 9 (.bin .Mod (.var 5) (.bi .len (.call "_law_heads_of" (.cons (.var 8) .nil)))))
    (.cons (.ret (.call "_law_with" (.cons (.var 0) (.cons (.var 4) (.cons (.tup (.cons (.var 6) (.cons (.var 7) (.cons (.call "_law_put" (.cons (.var 8) (.cons (.var 9) (.cons (.call "_law_odd" (.cons (.var 1) (.cons (.var 2) .nil))) .nil)))) .nil)))) .nil)))))
    .nil)) .nil)
    (.cons (.ifs (.val (.cmp .Eq (.var 2) (.lit (.int 22)))) (.cons (.ret (.bin .Add (.var 0) (.tup (.cons (.tup (.cons (.var 6) (.cons (.tup .nil) (.cons (.tup (.cons (.lit (.str "value")) (.cons (.lit (.int 0)) .nil))) .nil)))) .nil))))
    .nil) .nil)
    (.cons (.ifs (.val (.cmp .Eq (.var 2) (.lit (.int 23)))) (.cons (.ret (.tup .nil))
    .nil) .nil)
    (.cons (.ifs (.val (.cmp .Eq (.var 2) (.lit (.int 24)))) (.cons (.set 10 (.lst (.cons (.lit (.str "if")) (.cons (.lit (.str "list")) (.cons (.lit (.str "A")) (.cons (.lit (.str "")) (.cons (.lit (.str "ninesigns")) (.cons (.lit (.str "1a")) (.cons (.lit (.str "refuse")) (.cons (.lit (.str "a-b")) .nil))))))))))
    (.cons (.ret (.call "_law_with" (.cons (.var 0) (.cons (.var 4) (.cons (.tup (.cons (.idx (.var 10) (.bin .Mod (.var 5) (.lit (.int 8)))) (.cons (.var 7) (.cons (.var 8) .nil)))) .nil)))))
    .nil)) .nil)
    (.cons (.ifs (.val (.cmp .Eq (.var 2) (.lit (.int 25)))) (.cons (.ret (.call "_law_with" (.cons (.var 0) (.cons (.var 4) (.cons (.tup (.cons (.var 6) (.cons (.bin .Add (.var 7) (.tup (.cons (.lit (.str "ya")) (.cons (.lit (.str "yb")) (.cons (.lit (.str "yc")) (.cons (.lit (.str "yd")) (.cons (.lit (.str "ye")) (.cons (.lit (.str "yf")) (.cons (.lit (.str "yg")) .nil))))))))) (.cons (.var 8) .nil)))) .nil)))))
    .nil) .nil)
    (.cons (.ifs (.val (.cmp .Eq (.var 2) (.lit (.int 26)))) (.cons (.ret (.call "_law_with" (.cons (.var 0) (.cons (.var 4) (.cons (.tup (.cons (.var 6) (.cons (.bin .Add (.var 7) (.tup (.cons (.lit (.str "ya")) (.cons (.lit (.str "ya")) .nil)))) (.cons (.var 8) .nil)))) .nil)))))
    .nil) .nil)
    (.cons (.ifs (.val (.cmp .Eq (.var 2) (.lit (.int 27)))) (.cons (.ret (.call "_law_with" (.cons (.var 0) (.cons (.var 4) (.cons (.tup (.cons (.var 6) (.cons (.bin .Add (.var 7) (.tup (.cons (.idx (.lst (.cons (.lit (.str "same")) (.cons (.lit (.str "Ab")) (.cons (.lit (.str "")) (.cons (.lit (.str "if")) .nil))))) (.bin .Mod (.var 5) (.lit (.int 4)))) .nil))) (.cons (.var 8) .nil)))) .nil)))))
    .nil) .nil)
    (.cons (.ret (.call "_law_with" (.cons (.var 0) (.cons (.var 4) (.cons (.tup (.cons (.var 6) (.cons (.var 7) (.cons (.call "_law_deep" (.cons (.lit (.int 21)) .nil)) .nil)))) .nil)))))
    .nil)))))))))))
theorem S__law_spoilt {pg : Pg} {n : Nat} (h : ∃ N : List Str, N.length = 11 ∧ pg.fs.lookup ("_law_spoilt" : Str) = some ⟨N, 4, c__law_spoilt, false⟩) (x0 x1 x2 x3 : D) : callN pg (n + 1) "_law_spoilt" [x0, x1, x2, x3] = (((sndR (biD .len x0)).bind fun v1 => opD .Mod x3 v1).bind fun p2 => (opD .FloorDiv x3 (.int 7)).bind fun p3 => (idxD x0 p2.2).bind fun v69 => tup3 v69.2 (fun d4 d5 d6 => ((sndR (okB (cmpD .Lt x2 (.int 22)))).bind D.tru).bind fun t7 => if t7 = true then (((sndR ((sndR (callN pg n "_law_heads_of" [d6])).bind fun v8 => biD .len v8)).bind fun v9 => opD .Mod p3.2 v9).bind fun p10 => ((((((((((((callN pg n "_law_odd" [x1, x2]).bind fun v11 => .ok (v11.2 :: [])).bind fun l12 => .ok (p10.2 :: l12)).bind fun l13 => .ok (d6 :: l13)).bind fun l14 => callN pg n "_law_put" l14).bind fun v15 => .ok (v15.2 :: [])).bind fun l16 => .ok (d5 :: l16)).bind fun l17 => .ok (d4 :: l17)).bind fun l18 => if (l18 : List D).length ≤ sizeLine then okF (.tup l18) else .fail).bind fun v19 => .ok (v19.2 :: [])).bind fun l20 => .ok (p2.2 :: l20)).bind fun l21 => .ok (x0 :: l21)).bind fun l22 => callN pg n "_law_with" l22) else ((sndR (okB (cmpD .Eq x2 (.int 22)))).bind D.tru).bind fun t23 => if t23 = true then (opD .Add x0 (.tup [(.tup [d4, (.tup []), (.tup [(.str "value"), (.int 0)])])])) else ((sndR (okB (cmpD .Eq x2 (.int 23)))).bind D.tru).bind fun t24 => if t24 = true then (Res.ok (false, (.tup []))) else ((sndR (okB (cmpD .Eq x2 (.int 24)))).bind D.tru).bind fun t25 => if t25 = true then ((((((((sndR (opD .Mod p3.2 (.int 8))).bind fun v26 => idxD (.lst [(.str "if"), (.str "list"), (.str "A"), (.str ""), (.str "ninesigns"), (.str "1a"), (.str "refuse"), (.str "a-b")]) v26).bind fun v27 => .ok (v27.2 :: [d5, d6])).bind fun l28 => if (l28 : List D).length ≤ sizeLine then okF (.tup l28) else .fail).bind fun v29 => .ok (v29.2 :: [])).bind fun l30 => .ok (p2.2 :: l30)).bind fun l31 => .ok (x0 :: l31)).bind fun l32 => callN pg n "_law_with" l32) else ((sndR (okB (cmpD .Eq x2 (.int 25)))).bind D.tru).bind fun t33 => if t33 = true then ((((((((opD .Add d5 (.tup [(.str "ya"), (.str "yb"), (.str "yc"), (.str "yd"), (.str "ye"), (.str "yf"), (.str "yg")])).bind fun v34 => .ok (v34.2 :: [d6])).bind fun l35 => .ok (d4 :: l35)).bind fun l36 => if (l36 : List D).length ≤ sizeLine then okF (.tup l36) else .fail).bind fun v37 => .ok (v37.2 :: [])).bind fun l38 => .ok (p2.2 :: l38)).bind fun l39 => .ok (x0 :: l39)).bind fun l40 => callN pg n "_law_with" l40) else ((sndR (okB (cmpD .Eq x2 (.int 26)))).bind D.tru).bind fun t41 => if t41 = true then ((((((((opD .Add d5 (.tup [(.str "ya"), (.str "ya")])).bind fun v42 => .ok (v42.2 :: [d6])).bind fun l43 => .ok (d4 :: l43)).bind fun l44 => if (l44 : List D).length ≤ sizeLine then okF (.tup l44) else .fail).bind fun v45 => .ok (v45.2 :: [])).bind fun l46 => .ok (p2.2 :: l46)).bind fun l47 => .ok (x0 :: l47)).bind fun l48 => callN pg n "_law_with" l48) else ((sndR (okB (cmpD .Eq x2 (.int 27)))).bind D.tru).bind fun t49 => if t49 = true then (((((((((sndR ((((sndR (opD .Mod p3.2 (.int 4))).bind fun v50 => idxD (.lst [(.str "same"), (.str "Ab"), (.str ""), (.str "if")]) v50).bind fun v51 => .ok (v51.2 :: [])).bind fun l52 => if (l52 : List D).length ≤ sizeLine then okF (.tup l52) else .fail)).bind fun v53 => opD .Add d5 v53).bind fun v54 => .ok (v54.2 :: [d6])).bind fun l55 => .ok (d4 :: l55)).bind fun l56 => if (l56 : List D).length ≤ sizeLine then okF (.tup l56) else .fail).bind fun v57 => .ok (v57.2 :: [])).bind fun l58 => .ok (p2.2 :: l58)).bind fun l59 => .ok (x0 :: l59)).bind fun l60 => callN pg n "_law_with" l60) else ((((((((callN pg n "_law_deep" [(.int 21)]).bind fun v61 => .ok (v61.2 :: [])).bind fun l62 => .ok (d5 :: l62)).bind fun l63 => .ok (d4 :: l63)).bind fun l64 => if (l64 : List D).length ≤ sizeLine then okF (.tup l64) else .fail).bind fun v65 => .ok (v65.2 :: [])).bind fun l66 => .ok (p2.2 :: l66)).bind fun l67 => .ok (x0 :: l67)).bind fun l68 => callN pg n "_law_with" l68) : Rr) := by
  rw [k_run h]
  kernel_rfl
def c__law_truth : Sts :=
    (.cons (.ret (.and (.isi (.var 0) .bool) (.cmp .Eq (.var 0) (.var 1))))
    .nil)
theorem S__law_truth {pg : Pg} {n : Nat} (h : ∃ N : List Str, N.length = 2 ∧ pg.fs.lookup ("_law_truth" : Str) = some ⟨N, 2, c__law_truth, false⟩) (x0 x1 : D) : callN pg (n + 1) "_law_truth" [x0, x1] = ((okB (isiD x0 .bool)).bind fun v1 => (D.tru v1.2).bind fun t2 => if t2 = true then okB (cmpD .Eq x0 x1) else .ok v1 : Rr) := by
  rw [k_run h]
  kernel_rfl
def c__law_is_name : Sts :=
    (.cons (.set 1 (.lst (.cons (.lit (.str "plus")) (.cons (.lit (.str "minus")) (.cons (.lit (.str "times")) (.cons (.lit (.str "over")) (.cons (.lit (.str "less")) (.cons (.lit (.str "same")) (.cons (.lit (.str "join")) (.cons (.lit (.str "first")) (.cons (.lit (.str "rest")) (.cons (.lit (.str "empty")) (.cons (.lit (.str "down")) (.cons (.lit (.str "list")) .nil))))))))))))))
    (.cons (.ifs (.or (.val (.cmp .In (.var 0) (.var 1))) (.or (.val (.cmp .In (.var 0) (.tup (.cons (.lit (.str "if")) (.cons (.lit (.str "refuse")) (.cons (.lit (.str "")) .nil)))))) (.or (.val (.cmp .Gt (.bi .len (.var 0)) (.lit (.int 8)))) (.val (.cmp .In (.idx (.var 0) (.lit (.int 0))) (.lit (.str "0123456789"))))))) (.cons (.ret (.lit (.bl false)))
    .nil) .nil)
    (.cons (.ret (.cmp .Eq (.bi .len (.comp (.one 2) [2] (.seq (.var 0)) (.one (.val (.cmp .NotIn (.var 2) (.lit (.str "abcdefghijklmnopqrstuvwxyz0123456789"))))) (.var 2))) (.lit (.int 0))))
    .nil)))
theorem S__law_is_name {pg : Pg} {n : Nat} (h : ∃ N : List Str, N.length = 3 ∧ pg.fs.lookup ("_law_is_name" : Str) = some ⟨N, 1, c__law_is_name, false⟩) (x0 : D) : callN pg (n + 1) "_law_is_name" [x0] = ((((sndR (okB (cmpD .In x0 (.lst [(.str "plus"), (.str "minus"), (.str "times"), (.str "over"), (.str "less"), (.str "same"), (.str "join"), (.str "first"), (.str "rest"), (.str "empty"), (.str "down"), (.str "list")])))).bind D.tru).bind fun t1 => if t1 = true then .ok true else ((sndR (okB (cmpD .In x0 (.tup [(.str "if"), (.str "refuse"), (.str "")])))).bind D.tru).bind fun t2 => if t2 = true then .ok true else ((sndR ((sndR (biD .len x0)).bind fun v4 => okB (cmpD .Gt v4 (.int 8)))).bind D.tru).bind fun t3 => if t3 = true then .ok true else (sndR ((sndR (idxD x0 (.int 0))).bind fun v5 => okB (cmpD .In v5 (.str "0123456789")))).bind D.tru).bind fun t6 => if t6 = true then (Res.ok (false, (.bl false))) else (sndR ((sndR ((itemsW x0).bind fun l9 => if l9.length ≤ sizeLine then (compL (fun z7 => noX (((sndR (okB (cmpD .NotIn z7 (.str "abcdefghijklmnopqrstuvwxyz0123456789")))).bind D.tru).bind fun t8 => if t8 = true then Res.ok (some z7) else .ok none)) l9).bind fun w10 => .ok (true, .lst w10) else .fail)).bind fun v11 => biD .len v11)).bind fun v12 => okB (cmpD .Eq v12 (.int 0)) : Rr) := by
  rw [k_run h]
  kernel_rfl
def c__law_text : Sts :=
    (.cons (.set 1 (.lst (.cons (.lit (.str "plus")) (.cons (.lit (.str "rest")) (.cons (.lit (.str "if")) (.cons (.lit (.str "refuse")) (.cons (.lit (.str "")) (.cons (.lit (.str "ab9")) (.cons (.lit (.str "abcdefgh")) (.cons (.lit (.str "abcdefghi")) .nil))))))))))
    (.cons (.set 1 (.bin .Add (.var 1) (.lst (.cons (.lit (.str "9a")) (.cons (.lit (.str "a_b")) (.cons (.lit (.str "listx")) (.cons (.lit (.str "ifs")) (.cons (.lit (.str "a")) (.cons (.lit (.str "refuses")) .nil)))))))))
    (.cons (.ifs (.val (.cmp .Eq (.bin .Mod (.var 0) (.lit (.int 2))) (.lit (.int 0)))) (.cons (.ret (.idx (.var 1) (.bin .Mod (.bin .FloorDiv (.var 0) (.lit (.int 2))) (.lit (.int 14)))))
    .nil) .nil)
    (.cons (.set 2 (.bin .Add (.lit (.int 1)) (.bin .Mod (.bin .FloorDiv (.var 0) (.lit (.int 2))) (.lit (.int 9)))))
    (.cons (.set 3 (.idx (.lit (.str "abz059{`@/: AZ-_.")) (.bin .Mod (.bin .FloorDiv (.var 0) (.lit (.int 18))) (.lit (.int 17)))))
    (.cons (.set 4 (.bin .Mod (.bin .FloorDiv (.var 0) (.lit (.int 306))) (.var 2)))
    (.cons (.ret (.bin .Add (.bin .Add (.bin .Mult (.lit (.str "a")) (.var 4)) (.var 3)) (.bin .Mult (.lit (.str "a")) (.bin .Sub (.bin .Sub (.var 2) (.lit (.int 1))) (.var 4)))))
    .nil)))))))
theorem S__law_text {pg : Pg} {n : Nat} (h : ∃ N : List Str, N.length = 5 ∧ pg.fs.lookup ("_law_text" : Str) = some ⟨N, 1, c__law_text, false⟩) (x0 : D) : callN pg (n + 1) "_law_text" [x0] = ((opD .Add (.lst [(.str "plus"), (.str "rest"), (.str "if"), (.str "refuse"), (.str ""), (.str "ab9"), (.str "abcdefgh"), (.str "abcdefghi")]) (.lst [(.str "9a"), (.str "a_b"), (.str "listx"), (.str "ifs"), (.str "a"), (.str "refuses")])).bind fun p1 => ((sndR ((sndR (opD .Mod x0 (.int 2))).bind fun v2 => okB (cmpD .Eq v2 (.int 0)))).bind D.tru).bind fun t3 => if t3 = true then ((sndR ((sndR (opD .FloorDiv x0 (.int 2))).bind fun v4 => opD .Mod v4 (.int 14))).bind fun v5 => idxD p1.2 v5) else ((sndR ((sndR (opD .FloorDiv x0 (.int 2))).bind fun v6 => opD .Mod v6 (.int 9))).bind fun v7 => opD .Add (.int 1) v7).bind fun p8 => ((sndR ((sndR (opD .FloorDiv x0 (.int 18))).bind fun v9 => opD .Mod v9 (.int 17))).bind fun v10 => idxD (.str "abz059{`@/: AZ-_.") v10).bind fun p11 => ((sndR (opD .FloorDiv x0 (.int 306))).bind fun v12 => opD .Mod v12 p8.2).bind fun p13 => (sndR ((sndR (opD .Mult (.str "a") p13.2)).bind fun v14 => opD .Add v14 p11.2)).bind fun v15 => (sndR ((sndR ((sndR (opD .Sub p8.2 (.int 1))).bind fun v16 => opD .Sub v16 p13.2)).bind fun v17 => opD .Mult (.str "a") v17)).bind fun v18 => opD .Add v15 v18 : Rr) := by
  rw [k_run h]
  kernel_rfl
def c__law_sure : Sts :=
    (.cons (.set 0 (.tup (.cons (.lit (.str "name")) (.cons (.lit (.str "x")) .nil))))
    (.cons (.set 1 (.tup (.cons (.lit (.str "refuse")) (.cons (.lit (.str "NoList")) .nil))))
    (.cons (.set 2 (.lst (.cons (.var 0) (.cons (.var 1) (.cons (.call "_law_deep" (.cons (.lit (.int 20)) .nil)) (.cons (.tup (.cons (.lit (.str "call")) (.cons (.lit (.str "a")) (.cons (.tup (.cons (.var 0) .nil)) .nil)))) (.cons (.tup (.cons (.lit (.str "do")) (.cons (.lit (.str "list")) (.cons (.bin .Mult (.tup (.cons (.var 0) .nil)) (.lit (.int 8))) .nil)))) (.cons (.tup (.cons (.lit (.str "value")) (.cons (.bin .Mult (.tup (.cons (.lit (.int 0)) .nil)) (.lit (.int 49))) .nil))) .nil))))))))
    (.cons (.set 3 (.lst (.cons (.call "_law_deep" (.cons (.lit (.int 21)) .nil)) (.cons (.tup (.cons (.lit (.str "call")) (.cons (.lit (.str "a")) (.cons (.tup .nil) .nil)))) (.cons (.tup (.cons (.lit (.str "call")) (.cons (.lit (.str "a")) (.cons (.tup (.cons (.var 0) (.cons (.var 0) .nil))) .nil)))) (.cons (.tup (.cons (.lit (.str "do")) (.cons (.lit (.str "list")) (.cons (.bin .Mult (.tup (.cons (.var 0) .nil)) (.lit (.int 9))) .nil)))) (.cons (.tup (.cons (.lit (.str "name")) (.cons (.lit (.str "y")) .nil))) .nil)))))))
    (.cons (.set 3 (.bin .Add (.var 3) (.lst (.cons (.tup (.cons (.lit (.str "value")) (.cons (.bin .Mult (.tup (.cons (.lit (.int 0)) .nil)) (.lit (.int 50))) .nil))) (.cons (.tup (.cons (.lit (.str "refuse")) (.cons (.lit (.str "TooLong")) .nil))) (.cons (.tup (.cons (.lit (.str "call")) (.cons (.lit (.str "b")) (.cons (.tup (.cons (.var 0) .nil)) .nil)))) (.cons (.tup (.cons (.lit (.str "do")) (.cons (.lit (.str "plus")) (.cons (.tup (.cons (.var 0) .nil)) .nil)))) (.cons (.tup (.cons (.lit (.str "if")) (.cons (.var 0) (.cons (.var 0) .nil)))) .nil))))))))
    (.cons (.for_ (.one 4) (.seq (.bin .Add (.var 2) (.var 3))) (.cons (.ifs (.val (.cmp .NotEq (.call "is_good" (.cons (.tup (.cons (.tup (.cons (.lit (.str "a")) (.cons (.tup (.cons (.lit (.str "x")) .nil)) (.cons (.var 4) .nil)))) .nil)) .nil)) (.cmp .In (.var 4) (.var 2)))) (.cons (.ret (.lit (.bl false)))
    .nil) .nil)
    .nil))
    (.cons (.set 5 (.tup (.cons (.lit (.str "x")) (.cons (.lit (.str "b")) (.cons (.lit (.str "c")) (.cons (.lit (.str "d")) (.cons (.lit (.str "e")) (.cons (.lit (.str "f")) .nil))))))))
    (.cons (.ifs (.or (.not (.val (.call "is_good" (.cons (.tup (.cons (.tup (.cons (.lit (.str "a")) (.cons (.var 5) (.cons (.var 0) .nil)))) .nil)) .nil)))) (.or (.val (.call "is_good" (.cons (.tup (.cons (.tup (.cons (.lit (.str "a")) (.cons (.bin .Add (.var 5) (.tup (.cons (.lit (.str "g")) .nil))) (.cons (.var 0) .nil)))) .nil)) .nil))) (.val (.call "is_good" (.cons (.tup (.cons (.tup (.cons (.lit (.str "a")) (.cons (.tup (.cons (.lit (.str "x")) (.cons (.lit (.str "x")) .nil))) (.cons (.var 0) .nil)))) .nil)) .nil))))) (.cons (.ret (.lit (.bl false)))
    .nil) .nil)
    (.cons (.ret (.not (.call "is_good" (.cons (.tup (.cons (.tup (.cons (.lit (.str "a")) (.cons (.tup (.cons (.lit (.str "x")) .nil)) (.cons (.var 0) .nil)))) (.cons (.tup (.cons (.lit (.str "a")) (.cons (.tup .nil) (.cons (.tup (.cons (.lit (.str "value")) (.cons (.lit (.int 1)) .nil))) .nil)))) .nil))) .nil))))
    .nil)))))))))
abbrev en_lp__law_sure_1 (x0 : D) (x1 : D) (p2 : Bool × D) (p3 : Bool × D) (y4 : Option (Bool × D)) : En := [some (false, x0), some (false, x1), some p2, some p3, y4, none]
def c_lp__law_sure_1 : Sts := (.cons (.ifs (.val (.cmp .NotEq (.call "is_good" (.cons (.tup (.cons (.tup (.cons (.lit (.str "a")) (.cons (.tup (.cons (.lit (.str "x")) .nil)) (.cons (.var 4) .nil)))) .nil)) .nil)) (.cmp .In (.var 4) (.var 2)))) (.cons (.ret (.lit (.bl false))) .nil) .nil) .nil)
def lp__law_sure_1 (pg : Pg) (n : Nat) : List D → En → (En → Rr) → Rr := forK (.one 4) (exsK (pg.tb n) pg.wf c_lp__law_sure_1)
def c_rs__law_sure_2 : Sts := (.cons (.set 5 (.tup (.cons (.lit (.str "x")) (.cons (.lit (.str "b")) (.cons (.lit (.str "c")) (.cons (.lit (.str "d")) (.cons (.lit (.str "e")) (.cons (.lit (.str "f")) .nil)))))))) (.cons (.ifs (.or (.not (.val (.call "is_good" (.cons (.tup (.cons (.tup (.cons (.lit (.str "a")) (.cons (.var 5) (.cons (.var 0) .nil)))) .nil)) .nil)))) (.or (.val (.call "is_good" (.cons (.tup (.cons (.tup (.cons (.lit (.str "a")) (.cons (.bin .Add (.var 5) (.tup (.cons (.lit (.str "g")) .nil))) (.cons (.var 0) .nil)))) .nil)) .nil))) (.val (.call "is_good" (.cons (.tup (.cons (.tup (.cons (.lit (.str "a")) (.cons (.tup (.cons (.lit (.str "x")) (.cons (.lit (.str "x")) .nil))) (.cons (.var 0) .nil)))) .nil)) .nil))))) (.cons (.ret (.lit (.bl false))) .nil) .nil) (.cons (.ret (.not (.call "is_good" (.cons (.tup (.cons (.tup (.cons (.lit (.str "a")) (.cons (.tup (.cons (.lit (.str "x")) .nil)) (.cons (.var 0) .nil)))) (.cons (.tup (.cons (.lit (.str "a")) (.cons (.tup .nil) (.cons (.tup (.cons (.lit (.str "value")) (.cons (.lit (.int 1)) .nil))) .nil)))) .nil))) .nil)))) .nil)))
abbrev en_rs__law_sure_2 (x0 : D) (x1 : D) (p2 : Bool × D) (p3 : Bool × D) (y4 : Option (Bool × D)) : En := [some (false, x0), some (false, x1), some p2, some p3, y4, none]
def rs__law_sure_2 (pg : Pg) (n : Nat) : En → Kt → Rr := exsK (pg.tb n) pg.wf c_rs__law_sure_2
theorem rs__law_sure_2_eq {pg : Pg} {n : Nat} (x0 : D) (x1 : D) (p2 : Bool × D) (p3 : Bool × D) (y4 : Option (Bool × D)) (kk : Kt) : rs__law_sure_2 pg n (en_rs__law_sure_2 x0 x1 p2 p3 y4) kk = (((((sndR (callN pg n "is_good" [(.tup [(.tup [(.str "a"), (.tup [(.str "x"), (.str "b"), (.str "c"), (.str "d"), (.str "e"), (.str "f")]), x0])])])).bind D.tru).bind fun t37 => .ok (!t37)).bind fun t36 => if t36 = true then .ok true else ((sndR ((((((((opD .Add (.tup [(.str "x"), (.str "b"), (.str "c"), (.str "d"), (.str "e"), (.str "f")]) (.tup [(.str "g")])).bind fun v39 => .ok (v39.2 :: [x0])).bind fun l40 => .ok ((.str "a") :: l40)).bind fun l41 => if (l41 : List D).length ≤ sizeLine then okF (.tup l41) else .fail).bind fun v42 => .ok (v42.2 :: [])).bind fun l43 => if (l43 : List D).length ≤ sizeLine then okF (.tup l43) else .fail).bind fun v44 => .ok (v44.2 :: [])).bind fun l45 => callN pg n "is_good" l45)).bind D.tru).bind fun t38 => if t38 = true then .ok true else (sndR (callN pg n "is_good" [(.tup [(.tup [(.str "a"), (.tup [(.str "x"), (.str "x")]), x0])])])).bind D.tru).bind fun t46 => if t46 = true then (Res.ok (false, (.bl false))) else (sndR (callN pg n "is_good" [(.tup [(.tup [(.str "a"), (.tup [(.str "x")]), x0]), (.tup [(.str "a"), (.tup []), (.tup [(.str "value"), (.int 1)])])])])).bind fun v47 => (D.tru v47).bind fun t48 => okF (.bl (!t48)) : Rr) := by kernel_rfl
theorem lp__law_sure_1_nil {pg : Pg} {n : Nat} (ρ : En) (kk : En → Rr) : lp__law_sure_1 pg n [] ρ kk = kk ρ := (rfl)
theorem lp__law_sure_1_cons {pg : Pg} {n : Nat} (dd : D) (ds : List D) (x0 : D) (x1 : D) (p2 : Bool × D) (p3 : Bool × D) (y4 : Option (Bool × D)) (kk : En → Rr) : lp__law_sure_1 pg n (dd :: ds) (en_lp__law_sure_1 x0 x1 p2 p3 y4) kk = (((sndR ((sndR (callN pg n "is_good" [(.tup [(.tup [(.str "a"), (.tup [(.str "x")]), dd])])])).bind fun v49 => (sndR (okB (cmpD .In dd p2.2))).bind fun v50 => okB (cmpD .NotEq v49 v50))).bind D.tru).bind fun t51 => if t51 = true then (Res.ok (false, (.bl false))) else lp__law_sure_1 pg n ds (en_lp__law_sure_1 x0 x1 p2 p3 (some (false, dd))) kk : Rr) := by kernel_rfl
theorem S__law_sure {pg : Pg} {n : Nat} (h : ∃ N : List Str, N.length = 6 ∧ pg.fs.lookup ("_law_sure" : Str) = some ⟨N, 0, c__law_sure, false⟩) : callN pg (n + 1) "_law_sure" [] = ((((((callN pg n "_law_deep" [(.int 20)]).bind fun v12 => (((((((opD .Mult (.tup [(.tup [(.str "name"), (.str "x")])]) (.int 8)).bind fun v1 => .ok (v1.2 :: [])).bind fun l2 => .ok ((.str "list") :: l2)).bind fun l3 => .ok ((.str "do") :: l3)).bind fun l4 => if (l4 : List D).length ≤ sizeLine then okF (.tup l4) else .fail).bind fun v9 => (((((opD .Mult (.tup [(.int 0)]) (.int 49)).bind fun v5 => .ok (v5.2 :: [])).bind fun l6 => .ok ((.str "value") :: l6)).bind fun l7 => if (l7 : List D).length ≤ sizeLine then okF (.tup l7) else .fail).bind fun v8 => .ok (v8.2 :: [])).bind fun l10 => .ok (v9.2 :: l10)).bind fun l11 => .ok ((.tup [(.str "call"), (.str "a"), (.tup [(.tup [(.str "name"), (.str "x")])])]) :: l11)).bind fun l13 => .ok (v12.2 :: l13)).bind fun l14 => .ok ((.tup [(.str "refuse"), (.str "NoList")]) :: l14)).bind fun l15 => .ok ((.tup [(.str "name"), (.str "x")]) :: l15)).bind fun l16 => if (l16 : List D).length ≤ sizeLine then .ok (true, .lst l16) else .fail).bind fun p17 => (((callN pg n "_law_deep" [(.int 21)]).bind fun v25 => ((((((((opD .Mult (.tup [(.tup [(.str "name"), (.str "x")])]) (.int 9)).bind fun v18 => .ok (v18.2 :: [])).bind fun l19 => .ok ((.str "list") :: l19)).bind fun l20 => .ok ((.str "do") :: l20)).bind fun l21 => if (l21 : List D).length ≤ sizeLine then okF (.tup l21) else .fail).bind fun v22 => .ok (v22.2 :: [(.tup [(.str "name"), (.str "y")])])).bind fun l23 => .ok ((.tup [(.str "call"), (.str "a"), (.tup [(.tup [(.str "name"), (.str "x")]), (.tup [(.str "name"), (.str "x")])])]) :: l23)).bind fun l24 => .ok ((.tup [(.str "call"), (.str "a"), (.tup [])]) :: l24)).bind fun l26 => .ok (v25.2 :: l26)).bind fun l27 => if (l27 : List D).length ≤ sizeLine then .ok (true, .lst l27) else .fail).bind fun p28 => ((sndR ((((((opD .Mult (.tup [(.int 0)]) (.int 50)).bind fun v29 => .ok (v29.2 :: [])).bind fun l30 => .ok ((.str "value") :: l30)).bind fun l31 => if (l31 : List D).length ≤ sizeLine then okF (.tup l31) else .fail).bind fun v32 => .ok (v32.2 :: [(.tup [(.str "refuse"), (.str "TooLong")]), (.tup [(.str "call"), (.str "b"), (.tup [(.tup [(.str "name"), (.str "x")])])]), (.tup [(.str "do"), (.str "plus"), (.tup [(.tup [(.str "name"), (.str "x")])])]), (.tup [(.str "if"), (.tup [(.str "name"), (.str "x")]), (.tup [(.str "name"), (.str "x")])])])).bind fun l33 => if (l33 : List D).length ≤ sizeLine then .ok (true, .lst l33) else .fail)).bind fun v34 => opD .Add p28.2 v34).bind fun p35 => ((sndR (opD .Add p17.2 p35.2)).bind itemsW).bind fun l52 => lp__law_sure_1 pg n l52 (en_lp__law_sure_1 (.tup [(.str "name"), (.str "x")]) (.tup [(.str "refuse"), (.str "NoList")]) p17 p35 (none)) (fun ρ => rs__law_sure_2 pg n ρ K0) : Rr) := by
  rw [k_run h]
  kernel_rfl
def c_law : Sts :=
    (.cons (.set 1 (.call "_law_heads" (.cons (.var 0) .nil)))
    (.cons (.set 2 (.call "_law_program" (.cons (.var 0) (.cons (.var 1) .nil))))
    (.cons (.set 3 (.bin .Mod (.call "_law_cell_at" (.cons (.var 0) (.cons (.lit (.int 15)) .nil))) (.lit (.int 44))))
    (.cons (.set 4 (.cmp .Gt (.var 3) (.lit (.int 28))))
    (.cons (.ifs (.val (.cmp .Eq (.var 3) (.lit (.int 29)))) (.cons (.set 2 (.bin .Add (.slc (.var 2) .none (.some (.neg (.lit (.int 1))))) (.tup (.cons (.tup (.cons (.idx (.idx (.var 2) (.neg (.lit (.int 1)))) (.lit (.int 0))) (.cons (.idx (.idx (.var 2) (.neg (.lit (.int 1)))) (.lit (.int 1))) (.cons (.call "_law_deep" (.cons (.lit (.int 20)) .nil)) .nil)))) .nil))))
    .nil) .nil)
    (.cons (.ifs (.not (.val (.var 4))) (.cons (.set 2 (.call "_law_spoilt" (.cons (.var 2) (.cons (.var 1) (.cons (.var 3) (.cons (.call "_law_cell_at" (.cons (.var 0) (.cons (.lit (.int 16)) .nil))) .nil))))))
    .nil) .nil)
    (.cons (.set 5 (.call "_law_text" (.cons (.call "_law_cell_at" (.cons (.var 0) (.cons (.lit (.int 17)) .nil))) .nil)))
    (.cons (.for_ (.one 6) (.rng1 (.lit (.int 2))) (.cons (.ifs (.or (.not (.val (.call "_law_truth" (.cons (.call "is_good" (.cons (.var 2) .nil)) (.cons (.var 4) .nil))))) (.not (.val (.call "_law_truth" (.cons (.call "is_name" (.cons (.var 5) .nil)) (.cons (.call "_law_is_name" (.cons (.var 5) .nil)) .nil)))))) (.cons (.ret (.lit (.bl false)))
    .nil) .nil)
    (.cons (.ifs (.or (.val (.cmp .IsNot (.call "is_good" (.cons (.tup (.cons (.tup (.cons (.lit (.str "a")) (.cons (.tup .nil) (.cons (.tup (.cons (.lit (.str "name")) (.cons (.lit (.str "b")) .nil))) .nil)))) .nil)) .nil)) (.lit (.bl false)))) (.val (.cmp .IsNot (.call "is_good" (.cons (.tup (.cons (.tup (.cons (.lit (.str "a")) (.cons (.tup (.cons (.lit (.str "b")) .nil)) (.cons (.tup (.cons (.lit (.str "name")) (.cons (.lit (.str "b")) .nil))) .nil)))) .nil)) .nil)) (.lit (.bl true))))) (.cons (.ret (.lit (.bl false)))
    .nil) .nil)
    .nil)))
    (.cons (.ret (.call "_law_sure" .nil))
    .nil)))))))))
def c_rs_law_1 : Sts := (.cons (.ifs (.not (.val (.var 4))) (.cons (.set 2 (.call "_law_spoilt" (.cons (.var 2) (.cons (.var 1) (.cons (.var 3) (.cons (.call "_law_cell_at" (.cons (.var 0) (.cons (.lit (.int 16)) .nil))) .nil)))))) .nil) .nil) (.cons (.set 5 (.call "_law_text" (.cons (.call "_law_cell_at" (.cons (.var 0) (.cons (.lit (.int 17)) .nil))) .nil))) (.cons (.for_ (.one 6) (.rng1 (.lit (.int 2))) (.cons (.ifs (.or (.not (.val (.call "_law_truth" (.cons (.call "is_good" (.cons (.var 2) .nil)) (.cons (.var 4) .nil))))) (.not (.val (.call "_law_truth" (.cons (.call "is_name" (.cons (.var 5) .nil)) (.cons (.call "_law_is_name" (.cons (.var 5) .nil)) .nil)))))) (.cons (.ret (.lit (.bl false))) .nil) .nil) (.cons (.ifs (.or (.val (.cmp .IsNot (.call "is_good" (.cons (.tup (.cons (.tup (.cons (.lit (.str "a")) (.cons (.tup .nil) (.cons (.tup (.cons (.lit (.str "name")) (.cons (.lit (.str "b")) .nil))) .nil)))) .nil)) .nil)) (.lit (.bl false)))) (.val (.cmp .IsNot (.call "is_good" (.cons (.tup (.cons (.tup (.cons (.lit (.str "a")) (.cons (.tup (.cons (.lit (.str "b")) .nil)) (.cons (.tup (.cons (.lit (.str "name")) (.cons (.lit (.str "b")) .nil))) .nil)))) .nil)) .nil)) (.lit (.bl true))))) (.cons (.ret (.lit (.bl false))) .nil) .nil) .nil))) (.cons (.ret (.call "_law_sure" .nil)) .nil))))
abbrev en_rs_law_1 (x0 : D) (x1 : D) (p2 : Bool × D) (p3 : Bool × D) (p4 : Bool × D) : En := [some (false, x0), some (false, x1), some p2, some p3, some p4, none, none]
def rs_law_1 (pg : Pg) (n : Nat) : En → Kt → Rr := exsK (pg.tb n) pg.wf c_rs_law_1
def c_rs_law_2 : Sts := (.cons (.set 5 (.call "_law_text" (.cons (.call "_law_cell_at" (.cons (.var 0) (.cons (.lit (.int 17)) .nil))) .nil))) (.cons (.for_ (.one 6) (.rng1 (.lit (.int 2))) (.cons (.ifs (.or (.not (.val (.call "_law_truth" (.cons (.call "is_good" (.cons (.var 2) .nil)) (.cons (.var 4) .nil))))) (.not (.val (.call "_law_truth" (.cons (.call "is_name" (.cons (.var 5) .nil)) (.cons (.call "_law_is_name" (.cons (.var 5) .nil)) .nil)))))) (.cons (.ret (.lit (.bl false))) .nil) .nil) (.cons (.ifs (.or (.val (.cmp .IsNot (.call "is_good" (.cons (.tup (.cons (.tup (.cons (.lit (.str "a")) (.cons (.tup .nil) (.cons (.tup (.cons (.lit (.str "name")) (.cons (.lit (.str "b")) .nil))) .nil)))) .nil)) .nil)) (.lit (.bl false)))) (.val (.cmp .IsNot (.call "is_good" (.cons (.tup (.cons (.tup (.cons (.lit (.str "a")) (.cons (.tup (.cons (.lit (.str "b")) .nil)) (.cons (.tup (.cons (.lit (.str "name")) (.cons (.lit (.str "b")) .nil))) .nil)))) .nil)) .nil)) (.lit (.bl true))))) (.cons (.ret (.lit (.bl false))) .nil) .nil) .nil))) (.cons (.ret (.call "_law_sure" .nil)) .nil)))
abbrev en_rs_law_2 (x0 : D) (x1 : D) (p2 : Bool × D) (p3 : Bool × D) (p4 : Bool × D) : En := [some (false, x0), some (false, x1), some p2, some p3, some p4, none, none]
def rs_law_2 (pg : Pg) (n : Nat) : En → Kt → Rr := exsK (pg.tb n) pg.wf c_rs_law_2
abbrev en_lp_law_3 (x0 : D) (x1 : D) (p2 : Bool × D) (p3 : Bool × D) (p4 : Bool × D) (p5 : Bool × D) (y6 : Option (Bool × D)) : En := [some (false, x0), some (false, x1), some p2, some p3, some p4, some p5, y6]
def c_lp_law_3 : Sts := (.cons (.ifs (.or (.not (.val (.call "_law_truth" (.cons (.call "is_good" (.cons (.var 2) .nil)) (.cons (.var 4) .nil))))) (.not (.val (.call "_law_truth" (.cons (.call "is_name" (.cons (.var 5) .nil)) (.cons (.call "_law_is_name" (.cons (.var 5) .nil)) .nil)))))) (.cons (.ret (.lit (.bl false))) .nil) .nil) (.cons (.ifs (.or (.val (.cmp .IsNot (.call "is_good" (.cons (.tup (.cons (.tup (.cons (.lit (.str "a")) (.cons (.tup .nil) (.cons (.tup (.cons (.lit (.str "name")) (.cons (.lit (.str "b")) .nil))) .nil)))) .nil)) .nil)) (.lit (.bl false)))) (.val (.cmp .IsNot (.call "is_good" (.cons (.tup (.cons (.tup (.cons (.lit (.str "a")) (.cons (.tup (.cons (.lit (.str "b")) .nil)) (.cons (.tup (.cons (.lit (.str "name")) (.cons (.lit (.str "b")) .nil))) .nil)))) .nil)) .nil)) (.lit (.bl true))))) (.cons (.ret (.lit (.bl false))) .nil) .nil) .nil))
def lp_law_3 (pg : Pg) (n : Nat) : List D → En → (En → Rr) → Rr := forK (.one 6) (exsK (pg.tb n) pg.wf c_lp_law_3)
def c_rs_law_4 : Sts := (.cons (.ret (.call "_law_sure" .nil)) .nil)
abbrev en_rs_law_4 (x0 : D) (x1 : D) (p2 : Bool × D) (p3 : Bool × D) (p4 : Bool × D) (p5 : Bool × D) (y6 : Option (Bool × D)) : En := [some (false, x0), some (false, x1), some p2, some p3, some p4, some p5, y6]
def rs_law_4 (pg : Pg) (n : Nat) : En → Kt → Rr := exsK (pg.tb n) pg.wf c_rs_law_4
theorem rs_law_4_eq {pg : Pg} {n : Nat} (x0 : D) (x1 : D) (p2 : Bool × D) (p3 : Bool × D) (p4 : Bool × D) (p5 : Bool × D) (y6 : Option (Bool × D)) (kk : Kt) : rs_law_4 pg n (en_rs_law_4 x0 x1 p2 p3 p4 p5 y6) kk = (callN pg n "_law_sure" [] : Rr) := by kernel_rfl
theorem lp_law_3_nil {pg : Pg} {n : Nat} (ρ : En) (kk : En → Rr) : lp_law_3 pg n [] ρ kk = kk ρ := (rfl)
theorem lp_law_3_cons {pg : Pg} {n : Nat} (dd : D) (ds : List D) (x0 : D) (x1 : D) (p2 : Bool × D) (p3 : Bool × D) (p4 : Bool × D) (p5 : Bool × D) (y6 : Option (Bool × D)) (kk : En → Rr) : lp_law_3 pg n (dd :: ds) (en_lp_law_3 x0 x1 p2 p3 p4 p5 y6) kk = (((((sndR (((callN pg n "is_good" [p2.2]).bind fun v14 => .ok (v14.2 :: [p4.2])).bind fun l15 => callN pg n "_law_truth" l15)).bind D.tru).bind fun t13 => .ok (!t13)).bind fun t12 => if t12 = true then .ok true else ((sndR (((callN pg n "is_name" [p5.2]).bind fun v18 => ((callN pg n "_law_is_name" [p5.2]).bind fun v17 => .ok (v17.2 :: [])).bind fun l19 => .ok (v18.2 :: l19)).bind fun l20 => callN pg n "_law_truth" l20)).bind D.tru).bind fun t16 => .ok (!t16)).bind fun t21 => if t21 = true then (Res.ok (false, (.bl false))) else (((sndR ((sndR (callN pg n "is_good" [(.tup [(.tup [(.str "a"), (.tup []), (.tup [(.str "name"), (.str "b")])])])])).bind fun v23 => okB (cmpD .IsNot v23 (.bl false)))).bind D.tru).bind fun t22 => if t22 = true then .ok true else (sndR ((sndR (callN pg n "is_good" [(.tup [(.tup [(.str "a"), (.tup [(.str "b")]), (.tup [(.str "name"), (.str "b")])])])])).bind fun v24 => okB (cmpD .IsNot v24 (.bl true)))).bind D.tru).bind fun t25 => if t25 = true then (Res.ok (false, (.bl false))) else lp_law_3 pg n ds (en_lp_law_3 x0 x1 (false, p2.2) p3 (false, p4.2) (false, p5.2) (some (false, dd))) kk : Rr) := by kernel_rfl
theorem rs_law_2_eq {pg : Pg} {n : Nat} (x0 : D) (x1 : D) (p2 : Bool × D) (p3 : Bool × D) (p4 : Bool × D) (kk : Kt) : rs_law_2 pg n (en_rs_law_2 x0 x1 p2 p3 p4) kk = ((((callN pg n "_law_cell_at" [x0, (.int 17)]).bind fun v9 => .ok (v9.2 :: [])).bind fun l10 => callN pg n "_law_text" l10).bind fun p11 => (rngD 0 2).bind fun l26 => lp_law_3 pg n l26 (en_lp_law_3 x0 x1 p2 p3 p4 p11 (none)) (fun ρ => rs_law_4 pg n ρ kk) : Rr) := by kernel_rfl
theorem rs_law_1_eq {pg : Pg} {n : Nat} (x0 : D) (x1 : D) (p2 : Bool × D) (p3 : Bool × D) (p4 : Bool × D) (kk : Kt) : rs_law_1 pg n (en_rs_law_1 x0 x1 p2 p3 p4) kk = (((D.tru p4.2).bind fun t7 => .ok (!t7)).bind fun t8 => if t8 = true then ((((((callN pg n "_law_cell_at" [x0, (.int 16)]).bind fun v27 => .ok (v27.2 :: [])).bind fun l28 => .ok (p3.2 :: l28)).bind fun l29 => .ok (x1 :: l29)).bind fun l30 => .ok (p2.2 :: l30)).bind fun l31 => callN pg n "_law_spoilt" l31).bind fun p32 => rs_law_2 pg n (en_rs_law_2 x0 x1 p32 (false, p3.2) p4) kk else rs_law_2 pg n (en_rs_law_2 x0 x1 p2 p3 p4) kk : Rr) := by kernel_rfl
theorem S_law {pg : Pg} {n : Nat} (h : ∃ N : List Str, N.length = 7 ∧ pg.fs.lookup ("law" : Str) = some ⟨N, 1, c_law, false⟩) (x0 : D) : callN pg (n + 1) "law" [x0] = ((callN pg n "_law_heads" [x0]).bind fun p1 => (callN pg n "_law_program" [x0, p1.2]).bind fun p2 => ((sndR (callN pg n "_law_cell_at" [x0, (.int 15)])).bind fun v3 => opD .Mod v3 (.int 44)).bind fun p4 => (okB (cmpD .Gt p4.2 (.int 28))).bind fun p5 => ((sndR (okB (cmpD .Eq p4.2 (.int 29)))).bind D.tru).bind fun t6 => if t6 = true then ((sndR (((intR (sndR (negD (.int 1)))).bind fun i33 => Res.ok (some i33)).bind fun o34 => slcD p2.2 none o34)).bind fun v35 => (sndR ((((((sndR ((sndR (negD (.int 1))).bind fun v36 => idxD p2.2 v36)).bind fun v37 => idxD v37 (.int 0)).bind fun v43 => (((sndR ((sndR (negD (.int 1))).bind fun v38 => idxD p2.2 v38)).bind fun v39 => idxD v39 (.int 1)).bind fun v41 => ((callN pg n "_law_deep" [(.int 20)]).bind fun v40 => .ok (v40.2 :: [])).bind fun l42 => .ok (v41.2 :: l42)).bind fun l44 => .ok (v43.2 :: l44)).bind fun l45 => if (l45 : List D).length ≤ sizeLine then okF (.tup l45) else .fail).bind fun v46 => .ok (v46.2 :: [])).bind fun l47 => if (l47 : List D).length ≤ sizeLine then okF (.tup l47) else .fail)).bind fun v48 => opD .Add v35 v48).bind fun p49 => rs_law_1 pg n (en_rs_law_1 x0 p1.2 p49 p4 p5) K0 else rs_law_1 pg n (en_rs_law_1 x0 p1.2 p2 p4 p5) K0 : Rr) := by
  rw [k_run h]
  kernel_rfl
structure HasK3 (pg : Pg) : Prop where
  l__law_heads_of : ∃ N : List Str, N.length = 4 ∧ pg.fs.lookup ("_law_heads_of" : Str) = some ⟨N, 1, c__law_heads_of, false⟩
  l__law_put : ∃ N : List Str, N.length = 6 ∧ pg.fs.lookup ("_law_put" : Str) = some ⟨N, 3, c__law_put, false⟩
  l__law_odd : ∃ N : List Str, N.length = 4 ∧ pg.fs.lookup ("_law_odd" : Str) = some ⟨N, 2, c__law_odd, false⟩
  l__law_deep : ∃ N : List Str, N.length = 4 ∧ pg.fs.lookup ("_law_deep" : Str) = some ⟨N, 1, c__law_deep, false⟩
  l__law_with : ∃ N : List Str, N.length = 3 ∧ pg.fs.lookup ("_law_with" : Str) = some ⟨N, 3, c__law_with, false⟩
  l__law_spoilt : ∃ N : List Str, N.length = 11 ∧ pg.fs.lookup ("_law_spoilt" : Str) = some ⟨N, 4, c__law_spoilt, false⟩
  l__law_truth : ∃ N : List Str, N.length = 2 ∧ pg.fs.lookup ("_law_truth" : Str) = some ⟨N, 2, c__law_truth, false⟩
  l__law_is_name : ∃ N : List Str, N.length = 3 ∧ pg.fs.lookup ("_law_is_name" : Str) = some ⟨N, 1, c__law_is_name, false⟩
  l__law_text : ∃ N : List Str, N.length = 5 ∧ pg.fs.lookup ("_law_text" : Str) = some ⟨N, 1, c__law_text, false⟩
  l__law_sure : ∃ N : List Str, N.length = 6 ∧ pg.fs.lookup ("_law_sure" : Str) = some ⟨N, 0, c__law_sure, false⟩
  l_law : ∃ N : List Str, N.length = 7 ∧ pg.fs.lookup ("law" : Str) = some ⟨N, 1, c_law, false⟩

end Kv

namespace Kv
open PySem PySem.Spec PyProof.Rows L2 Hf
set_option autoImplicit false
/-! ### k03: a part of a body exchanged -/
section
variable {pg : Pg} (H : HasK3 pg)
include H
theorem heads_of_loop {n : Nat} {x0 x2 : D} : ∀ (es : List E) (L : List D) (y3 : Option (Bool × D)), (∀ e ∈ es, ∃ xs, xs.length = e.sz ∧ callN pg n "_law_heads_of" [e.d] = .ok (true, .lst xs)) → L.length + E.szs es ≤ 1000000 →
    ∃ (M : List D) (z3 : Option (Bool × D)), M.length = L.length + E.szs es ∧ ∀ kk, lp__law_heads_of_3 pg n (E.ds es) (en_lp__law_heads_of_3 x0 (true, .lst L) x2 y3) kk = kk (en_lp__law_heads_of_3 x0 (true, .lst M) x2 z3)
  | [], L, y3, _, _ => ⟨L, y3, by simp [E.szs], fun kk => by rw [E.ds, lp__law_heads_of_3_nil]⟩
  | e :: es, L, y3, h, hl => by
    obtain ⟨xs, h1, h2⟩ := h e List.mem_cons_self
    simp only [E.szs] at hl
    obtain ⟨M, z3, e1, e2⟩ := heads_of_loop (n := n) (x0 := x0) (x2 := x2) es (L ++ xs) (some (false, e.d)) (fun a ha => h a (List.mem_cons_of_mem _ ha)) (by rw [List.length_append]; omega)
    refine ⟨M, z3, by rw [e1, List.length_append, E.szs]; omega, fun kk => ?_⟩
    rw [E.ds, lp__law_heads_of_3_cons]
    have ha : opD .Add (.lst L) (.lst xs) = .ok (true, .lst (L ++ xs)) := add_l (by omega)
    simp only [↓reduceIte, Bool.false_eq_true, bo, bex, so, sex, obk, ik, okf, tst, blk, blo, nok, tru_bl, tru_int, tru_tup, tru_lst, add_i, sub_i, neg_i, len_t, len_l, tpl_l, tpl_t, lst_l, lst_t, int_b, cm_eq, cm_ne, cm_lt, cm_le, cm_gt, cm_ge, cm_in, cm_nin, cm_is, cm_isn, it_0, it_1, it_2, sl_1, tup2_e, tup3_e, iw_l, iw_t, id_l, id_t, isi_tt, isi_ti, isi_bb, ifT, ifF, mt2_2, mt3_3, mt4_4, mtA3_3, tb_fl, tb_gok, Bool.not_true, Bool.not_false, List.cons_append, List.nil_append, h2, ha]
    exact e2 kk
theorem v_heads_of : ∀ (n : Nat) (e : E), e.dp ≤ n → e.sz ≤ 1000000 → ∃ xs, xs.length = e.sz ∧ callN pg (n + 1) "_law_heads_of" [e.d] = .ok (true, .lst xs)
  | n, e, hd, hs => by
    have parts : ∀ (es : List E), E.dps es + 1 ≤ n → 1 + E.szs es ≤ 1000000 → ∀ x0 x2 : D, ∃ (M : List D) (z3 : Option (Bool × D)), M.length = 1 + E.szs es ∧ ∀ kk, lp__law_heads_of_3 pg n (E.ds es) (en_lp__law_heads_of_3 x0 (true, .lst [x0]) x2 none) kk = kk (en_lp__law_heads_of_3 x0 (true, .lst M) x2 z3) := fun es h1 h2 x0 x2 => by
      obtain ⟨m, rfl⟩ : ∃ m, n = m + 1 := ⟨n - 1, by omega⟩
      exact heads_of_loop H es [x0] none (fun e he => v_heads_of m e (by have := E.dps_mem he; omega) (by have := E.szs_mem he; omega)) (by simpa using h2)
    have fin : ∀ (x0 x2 : D) (M : List D) (z3 : Option (Bool × D)), rs__law_heads_of_4 pg n (en_lp__law_heads_of_3 x0 (true, .lst M) x2 z3) K0 = .ok (true, .lst M) := fun x0 x2 M z3 => rs__law_heads_of_4_eq _ _ _ _ _
    have dd : ∀ (x0 : D) (es : List E), E.dps es + 1 ≤ n → 1 + E.szs es ≤ 1000000 → ∃ xs, xs.length = 1 + E.szs es ∧ rs__law_heads_of_2 pg n (en_rs__law_heads_of_2 x0 [x0] (false, .tup (E.ds es))) K0 = .ok (true, .lst xs) := fun x0 es h1 h2 => by
      obtain ⟨M, z3, e1, e2⟩ := parts es h1 h2 x0 (.tup (E.ds es))
      refine ⟨M, e1, ?_⟩
      rw [rs__law_heads_of_2_eq]
      simp only [↓reduceIte, Bool.false_eq_true, bo, bex, so, sex, obk, ik, okf, tst, blk, blo, nok, tru_bl, tru_int, tru_tup, tru_lst, add_i, sub_i, neg_i, len_t, len_l, tpl_l, tpl_t, lst_l, lst_t, int_b, cm_eq, cm_ne, cm_lt, cm_le, cm_gt, cm_ge, cm_in, cm_nin, cm_is, cm_isn, it_0, it_1, it_2, sl_1, tup2_e, tup3_e, iw_l, iw_t, id_l, id_t, isi_tt, isi_ti, isi_bb, ifT, ifF, mt2_2, mt3_3, mt4_4, mtA3_3, tb_fl, tb_gok, Bool.not_true, Bool.not_false, List.cons_append, List.nil_append]
      rw [e2, fin]
    have leaf : ∀ (x0 : D), ∃ xs, xs.length = 1 ∧ rs__law_heads_of_2 pg n (en_rs__law_heads_of_2 x0 [x0] (true, .lst [])) K0 = .ok (true, .lst xs) := fun x0 => by
      refine ⟨[x0], rfl, ?_⟩
      rw [rs__law_heads_of_2_eq]
      simp only [↓reduceIte, Bool.false_eq_true, bo, bex, so, sex, obk, ik, okf, tst, blk, blo, nok, tru_bl, tru_int, tru_tup, tru_lst, add_i, sub_i, neg_i, len_t, len_l, tpl_l, tpl_t, lst_l, lst_t, int_b, cm_eq, cm_ne, cm_lt, cm_le, cm_gt, cm_ge, cm_in, cm_nin, cm_is, cm_isn, it_0, it_1, it_2, sl_1, tup2_e, tup3_e, iw_l, iw_t, id_l, id_t, isi_tt, isi_ti, isi_bb, ifT, ifF, mt2_2, mt3_3, mt4_4, mtA3_3, tb_fl, tb_gok, Bool.not_true, Bool.not_false, List.cons_append, List.nil_append]
      rw [lp__law_heads_of_3_nil]
      exact fin _ _ _ _
    rw [S__law_heads_of H.l__law_heads_of]
    cases e with
    | val v =>
      obtain ⟨xs, h1, h2⟩ := leaf (E.d (.val v))
      refine ⟨xs, h1, ?_⟩
      simp only [E.d] at h2 ⊢
      simp only [↓reduceIte, Bool.false_eq_true, bo, bex, so, sex, obk, ik, okf, tst, blk, blo, nok, tru_bl, tru_int, tru_tup, tru_lst, add_i, sub_i, neg_i, len_t, len_l, tpl_l, tpl_t, lst_l, lst_t, int_b, cm_eq, cm_ne, cm_lt, cm_le, cm_gt, cm_ge, cm_in, cm_nin, cm_is, cm_isn, it_0, it_1, it_2, sl_1, tup2_e, tup3_e, iw_l, iw_t, id_l, id_t, isi_tt, isi_ti, isi_bb, ifT, ifF, mt2_2, mt3_3, mt4_4, mtA3_3, tb_fl, tb_gok, Bool.not_true, Bool.not_false, List.cons_append, List.nil_append, tg_value_value, tg_value_name, tg_value_refuse, tg_value_if, tg_value_do, tg_value_call, tg_name_value, tg_name_name, tg_name_refuse, tg_name_if, tg_name_do, tg_name_call, tg_refuse_value, tg_refuse_name, tg_refuse_refuse, tg_refuse_if, tg_refuse_do, tg_refuse_call, tg_if_value, tg_if_name, tg_if_refuse, tg_if_if, tg_if_do, tg_if_call, tg_do_value, tg_do_name, tg_do_refuse, tg_do_if, tg_do_do, tg_do_call, tg_call_value, tg_call_name, tg_call_refuse, tg_call_if, tg_call_do, tg_call_call, rs__law_heads_of_1_eq, in_dc_value, h2]
    | nm z =>
      obtain ⟨xs, h1, h2⟩ := leaf (E.d (.nm z))
      refine ⟨xs, h1, ?_⟩
      simp only [E.d] at h2 ⊢
      simp only [↓reduceIte, Bool.false_eq_true, bo, bex, so, sex, obk, ik, okf, tst, blk, blo, nok, tru_bl, tru_int, tru_tup, tru_lst, add_i, sub_i, neg_i, len_t, len_l, tpl_l, tpl_t, lst_l, lst_t, int_b, cm_eq, cm_ne, cm_lt, cm_le, cm_gt, cm_ge, cm_in, cm_nin, cm_is, cm_isn, it_0, it_1, it_2, sl_1, tup2_e, tup3_e, iw_l, iw_t, id_l, id_t, isi_tt, isi_ti, isi_bb, ifT, ifF, mt2_2, mt3_3, mt4_4, mtA3_3, tb_fl, tb_gok, Bool.not_true, Bool.not_false, List.cons_append, List.nil_append, tg_value_value, tg_value_name, tg_value_refuse, tg_value_if, tg_value_do, tg_value_call, tg_name_value, tg_name_name, tg_name_refuse, tg_name_if, tg_name_do, tg_name_call, tg_refuse_value, tg_refuse_name, tg_refuse_refuse, tg_refuse_if, tg_refuse_do, tg_refuse_call, tg_if_value, tg_if_name, tg_if_refuse, tg_if_if, tg_if_do, tg_if_call, tg_do_value, tg_do_name, tg_do_refuse, tg_do_if, tg_do_do, tg_do_call, tg_call_value, tg_call_name, tg_call_refuse, tg_call_if, tg_call_do, tg_call_call, rs__law_heads_of_1_eq, in_dc_name, h2]
    | ref w =>
      obtain ⟨xs, h1, h2⟩ := leaf (E.d (.ref w))
      refine ⟨xs, h1, ?_⟩
      simp only [E.d] at h2 ⊢
      simp only [↓reduceIte, Bool.false_eq_true, bo, bex, so, sex, obk, ik, okf, tst, blk, blo, nok, tru_bl, tru_int, tru_tup, tru_lst, add_i, sub_i, neg_i, len_t, len_l, tpl_l, tpl_t, lst_l, lst_t, int_b, cm_eq, cm_ne, cm_lt, cm_le, cm_gt, cm_ge, cm_in, cm_nin, cm_is, cm_isn, it_0, it_1, it_2, sl_1, tup2_e, tup3_e, iw_l, iw_t, id_l, id_t, isi_tt, isi_ti, isi_bb, ifT, ifF, mt2_2, mt3_3, mt4_4, mtA3_3, tb_fl, tb_gok, Bool.not_true, Bool.not_false, List.cons_append, List.nil_append, tg_value_value, tg_value_name, tg_value_refuse, tg_value_if, tg_value_do, tg_value_call, tg_name_value, tg_name_name, tg_name_refuse, tg_name_if, tg_name_do, tg_name_call, tg_refuse_value, tg_refuse_name, tg_refuse_refuse, tg_refuse_if, tg_refuse_do, tg_refuse_call, tg_if_value, tg_if_name, tg_if_refuse, tg_if_if, tg_if_do, tg_if_call, tg_do_value, tg_do_name, tg_do_refuse, tg_do_if, tg_do_do, tg_do_call, tg_call_value, tg_call_name, tg_call_refuse, tg_call_if, tg_call_do, tg_call_call, rs__law_heads_of_1_eq, in_dc_refuse, h2]
    | iff a b c =>
      simp only [E.dp, E.sz] at hd hs
      obtain ⟨xs, h1, h2⟩ := dd (E.d (.iff a b c)) [a, b, c] (by simp only [E.dps]; omega) (by simp only [E.szs]; omega)
      refine ⟨xs, by rw [h1]; simp [E.sz, E.szs], ?_⟩
      simp only [E.d, E.ds] at h2 ⊢
      simp only [↓reduceIte, Bool.false_eq_true, bo, bex, so, sex, obk, ik, okf, tst, blk, blo, nok, tru_bl, tru_int, tru_tup, tru_lst, add_i, sub_i, neg_i, len_t, len_l, tpl_l, tpl_t, lst_l, lst_t, int_b, cm_eq, cm_ne, cm_lt, cm_le, cm_gt, cm_ge, cm_in, cm_nin, cm_is, cm_isn, it_0, it_1, it_2, sl_1, tup2_e, tup3_e, iw_l, iw_t, id_l, id_t, isi_tt, isi_ti, isi_bb, ifT, ifF, mt2_2, mt3_3, mt4_4, mtA3_3, tb_fl, tb_gok, Bool.not_true, Bool.not_false, List.cons_append, List.nil_append, tg_value_value, tg_value_name, tg_value_refuse, tg_value_if, tg_value_do, tg_value_call, tg_name_value, tg_name_name, tg_name_refuse, tg_name_if, tg_name_do, tg_name_call, tg_refuse_value, tg_refuse_name, tg_refuse_refuse, tg_refuse_if, tg_refuse_do, tg_refuse_call, tg_if_value, tg_if_name, tg_if_refuse, tg_if_if, tg_if_do, tg_if_call, tg_do_value, tg_do_name, tg_do_refuse, tg_do_if, tg_do_do, tg_do_call, tg_call_value, tg_call_name, tg_call_refuse, tg_call_if, tg_call_do, tg_call_call, rs__law_heads_of_1_eq, in_dc_if, h2]
    | doo o es =>
      simp only [E.dp, E.sz] at hd hs
      obtain ⟨xs, h1, h2⟩ := dd (E.d (.doo o es)) es (by omega) (by omega)
      refine ⟨xs, by rw [h1]; simp [E.sz], ?_⟩
      simp only [E.d] at h2 ⊢
      simp only [↓reduceIte, Bool.false_eq_true, bo, bex, so, sex, obk, ik, okf, tst, blk, blo, nok, tru_bl, tru_int, tru_tup, tru_lst, add_i, sub_i, neg_i, len_t, len_l, tpl_l, tpl_t, lst_l, lst_t, int_b, cm_eq, cm_ne, cm_lt, cm_le, cm_gt, cm_ge, cm_in, cm_nin, cm_is, cm_isn, it_0, it_1, it_2, sl_1, tup2_e, tup3_e, iw_l, iw_t, id_l, id_t, isi_tt, isi_ti, isi_bb, ifT, ifF, mt2_2, mt3_3, mt4_4, mtA3_3, tb_fl, tb_gok, Bool.not_true, Bool.not_false, List.cons_append, List.nil_append, tg_value_value, tg_value_name, tg_value_refuse, tg_value_if, tg_value_do, tg_value_call, tg_name_value, tg_name_name, tg_name_refuse, tg_name_if, tg_name_do, tg_name_call, tg_refuse_value, tg_refuse_name, tg_refuse_refuse, tg_refuse_if, tg_refuse_do, tg_refuse_call, tg_if_value, tg_if_name, tg_if_refuse, tg_if_if, tg_if_do, tg_if_call, tg_do_value, tg_do_name, tg_do_refuse, tg_do_if, tg_do_do, tg_do_call, tg_call_value, tg_call_name, tg_call_refuse, tg_call_if, tg_call_do, tg_call_call, rs__law_heads_of_1_eq, in_dc_do, h2]
    | call f es =>
      simp only [E.dp, E.sz] at hd hs
      obtain ⟨xs, h1, h2⟩ := dd (E.d (.call f es)) es (by omega) (by omega)
      refine ⟨xs, by rw [h1]; simp [E.sz], ?_⟩
      simp only [E.d] at h2 ⊢
      simp only [↓reduceIte, Bool.false_eq_true, bo, bex, so, sex, obk, ik, okf, tst, blk, blo, nok, tru_bl, tru_int, tru_tup, tru_lst, add_i, sub_i, neg_i, len_t, len_l, tpl_l, tpl_t, lst_l, lst_t, int_b, cm_eq, cm_ne, cm_lt, cm_le, cm_gt, cm_ge, cm_in, cm_nin, cm_is, cm_isn, it_0, it_1, it_2, sl_1, tup2_e, tup3_e, iw_l, iw_t, id_l, id_t, isi_tt, isi_ti, isi_bb, ifT, ifF, mt2_2, mt3_3, mt4_4, mtA3_3, tb_fl, tb_gok, Bool.not_true, Bool.not_false, List.cons_append, List.nil_append, tg_value_value, tg_value_name, tg_value_refuse, tg_value_if, tg_value_do, tg_value_call, tg_name_value, tg_name_name, tg_name_refuse, tg_name_if, tg_name_do, tg_name_call, tg_refuse_value, tg_refuse_name, tg_refuse_refuse, tg_refuse_if, tg_refuse_do, tg_refuse_call, tg_if_value, tg_if_name, tg_if_refuse, tg_if_if, tg_if_do, tg_if_call, tg_do_value, tg_do_name, tg_do_refuse, tg_do_if, tg_do_do, tg_do_call, tg_call_value, tg_call_name, tg_call_refuse, tg_call_if, tg_call_do, tg_call_call, rs__law_heads_of_1_eq, in_dc_call, h2]
end
mutual
/-- another thing at a place of an expression -/
def putE : E → Nat → D → D
  | _, 0, o => o
  | .iff a b c, k + 1, o => .tup (.str "if" :: (if k < a.sz then [putE a k o, b.d, c.d] else if k - a.sz < b.sz then [a.d, putE b (k - a.sz) o, c.d] else if k - a.sz - b.sz < c.sz then [a.d, b.d, putE c (k - a.sz - b.sz) o] else [a.d, b.d, c.d]))
  | .doo w xs, k + 1, o => .tup [.str "do", .str w, .tup (putsE xs k o)]
  | .call w xs, k + 1, o => .tup [.str "call", .str w, .tup (putsE xs k o)]
  | e, _ + 1, _ => e.d
def putsE : List E → Nat → D → List D
  | [], _, _ => []
  | e :: r, k, o => if k < e.sz then putE e k o :: E.ds r else e.d :: putsE r (k - e.sz) o
end
theorem putE_iff (a b c : E) (k : Nat) (o : D) : putE (.iff a b c) (k + 1) o = .tup (.str "if" :: putsE [a, b, c] k o) := by
  rw [putE]
  simp only [putsE, E.ds]
  split
  · rfl
  · split
    · rfl
    · split <;> rfl
theorem putsE_len : ∀ (xs : List E) (k : Nat) (o : D), (putsE xs k o).length = xs.length
  | [], _, _ => rfl
  | e :: r, k, o => by
    rw [putsE]
    split
    · simp [E.ds_len]
    · simp [putsE_len r]

end Kv

namespace Kv
open PySem PySem.Spec PyProof.Rows L2 Hf
set_option autoImplicit false
section
variable {pg : Pg} (H : HasK3 pg)
include H
theorem il_at (done : List D) (d : D) (rest : List D) : idxD (.lst (done ++ d :: rest)) (.int (done.length : Nat)) = .ok (false, d) := by
  rw [il_n (by simp)]
  simp
theorem put_past {n : Nat} {x0 x2 : D} : ∀ (es : List E) (done : List D) (b : Bool) (i : Int) (y4 y5 : Option (Bool × D)), i < 0 → (∀ e ∈ es, ∃ xs, xs.length = e.sz ∧ callN pg n "_law_heads_of" [e.d] = .ok (true, .lst xs)) →
    ∃ (p1 : Bool × D) (z4 z5 : Option (Bool × D)), ∀ kk, lp__law_put_2 pg n ((List.range' done.length es.length).map fun (i : Nat) => D.int (i : Int)) (en_lp__law_put_2 x0 (b, .int i) x2 (done ++ E.ds es) y4 y5) kk = kk (en_lp__law_put_2 x0 p1 x2 (done ++ E.ds es) z4 z5)
  | [], done, b, i, y4, y5, _, _ => ⟨(b, .int i), y4, y5, fun kk => by rw [List.length_nil, List.range'_zero, List.map_nil, lp__law_put_2_nil]⟩
  | e :: es, done, b, i, y4, y5, hi, h => by
    obtain ⟨xs, h1, h2⟩ := h e List.mem_cons_self
    obtain ⟨p1, z4, z5, ih⟩ := put_past (n := n) (x0 := x0) (x2 := x2) es (done ++ [e.d]) false (i - (xs.length : Int)) (some (false, .int (done.length : Nat))) (some (false, .int (xs.length : Nat))) (by omega) fun a ha => h a (List.mem_cons_of_mem _ ha)
    refine ⟨p1, z4, z5, fun kk => ?_⟩
    have hx := il_at H done e.d (E.ds es)
    have hc : decide ((0 : Int) ≤ i) = false := decide_eq_false (by omega)
    rw [List.length_cons, List.range'_succ, List.map_cons, lp__law_put_2_cons, E.ds]
    simp only [↓reduceIte, Bool.false_eq_true, bo, bex, so, sex, obk, ik, okf, tst, blk, blo, nok, tru_bl, tru_int, tru_tup, tru_lst, add_i, sub_i, neg_i, len_t, len_l, tpl_l, tpl_t, lst_l, lst_t, int_b, cm_eq, cm_ne, cm_lt, cm_le, cm_gt, cm_ge, cm_in, cm_nin, cm_is, cm_isn, it_0, it_1, it_2, sl_1, tup2_e, tup3_e, iw_l, iw_t, id_l, id_t, isi_tt, isi_ti, isi_bb, ifT, ifF, mt2_2, mt3_3, mt4_4, mtA3_3, tb_fl, tb_gok, Bool.not_true, Bool.not_false, List.cons_append, List.nil_append, hx, h2, hc]
    have e1 : done ++ e.d :: E.ds es = (done ++ [e.d]) ++ E.ds es := by simp
    have e2 : (done ++ [e.d]).length = done.length + 1 := by simp
    rw [e1, ← e2]
    exact ih kk
theorem put_loop {n : Nat} {x0 o : D} : ∀ (es : List E) (done : List D) (b : Bool) (k : Nat) (y4 y5 : Option (Bool × D)), done.length + es.length ≤ 100000 → (∀ e ∈ es, ∃ xs, xs.length = e.sz ∧ callN pg n "_law_heads_of" [e.d] = .ok (true, .lst xs)) → (∀ e ∈ es, ∀ j : Nat, j < e.sz → callN pg n "_law_put" [e.d, .int j, o] = .ok (false, putE e j o)) →
    ∃ (p1 : Bool × D) (z4 z5 : Option (Bool × D)), ∀ kk, lp__law_put_2 pg n ((List.range' done.length es.length).map fun (i : Nat) => D.int (i : Int)) (en_lp__law_put_2 x0 (b, .int k) o (done ++ E.ds es) y4 y5) kk = kk (en_lp__law_put_2 x0 p1 o (done ++ putsE es k o) z4 z5)
  | [], done, b, k, y4, y5, _, _, _ => ⟨(b, .int k), y4, y5, fun kk => by rw [List.length_nil, List.range'_zero, List.map_nil, lp__law_put_2_nil]; rfl⟩
  | e :: es, done, b, k, y4, y5, hl, h, hp => by
    obtain ⟨xs, h1, h2⟩ := h e List.mem_cons_self
    rw [List.length_cons] at hl
    have hx := il_at H done e.d (E.ds es)
    have h0 : decide ((0 : Int) ≤ (k : Int)) = true := decide_eq_true (by omega)
    have e2 : ∀ d : D, (done ++ [d]).length = done.length + 1 := fun d => by simp
    by_cases c : k < e.sz
    · obtain ⟨p1, z4, z5, ih⟩ := put_past H (n := n) (x0 := x0) (x2 := o) es (done ++ [putE e k o]) false ((k : Int) - (xs.length : Int)) (some (false, .int (done.length : Nat))) (some (false, .int (xs.length : Nat))) (by omega) fun a ha => h a (List.mem_cons_of_mem _ ha)
      refine ⟨p1, z4, z5, fun kk => ?_⟩
      have hc : decide ((k : Int) < (xs.length : Int)) = true := decide_eq_true (by omega)
      have hput := hp e List.mem_cons_self k c
      have hix : ixN (done ++ e.d :: E.ds es).length (done.length : Nat) = some done.length := ixN_nat (by simp)
      have hset : (done ++ e.d :: E.ds es).set done.length (putE e k o) = done ++ putE e k o :: E.ds es := by simp
      rw [List.length_cons, List.range'_succ, List.map_cons, lp__law_put_2_cons, E.ds]
      simp only [↓reduceIte, Bool.false_eq_true, bo, bex, so, sex, obk, ik, okf, tst, blk, blo, nok, tru_bl, tru_int, tru_tup, tru_lst, add_i, sub_i, neg_i, len_t, len_l, tpl_l, tpl_t, lst_l, lst_t, int_b, cm_eq, cm_ne, cm_lt, cm_le, cm_gt, cm_ge, cm_in, cm_nin, cm_is, cm_isn, it_0, it_1, it_2, sl_1, tup2_e, tup3_e, iw_l, iw_t, id_l, id_t, isi_tt, isi_ti, isi_bb, ifT, ifF, mt2_2, mt3_3, mt4_4, mtA3_3, tb_fl, tb_gok, Bool.not_true, Bool.not_false, List.cons_append, List.nil_append, hx, h2, h0, hc, hput, hix, hset]
      have e1 : done ++ putE e k o :: E.ds es = (done ++ [putE e k o]) ++ E.ds es := by simp
      rw [putsE, if_pos c, e1, ← e2 (putE e k o)]
      exact ih kk
    · obtain ⟨p1, z4, z5, ih⟩ := put_loop (n := n) (x0 := x0) (o := o) es (done ++ [e.d]) false (k - e.sz) (some (false, .int (done.length : Nat))) (some (false, .int (xs.length : Nat))) (by rw [e2]; omega) (fun a ha => h a (List.mem_cons_of_mem _ ha)) fun a ha => hp a (List.mem_cons_of_mem _ ha)
      refine ⟨p1, z4, z5, fun kk => ?_⟩
      have hc : decide ((k : Int) < (xs.length : Int)) = false := decide_eq_false (by omega)
      have hk : (k : Int) - (xs.length : Int) = ((k - e.sz : Nat) : Int) := by omega
      rw [List.length_cons, List.range'_succ, List.map_cons, lp__law_put_2_cons, E.ds]
      simp only [↓reduceIte, Bool.false_eq_true, bo, bex, so, sex, obk, ik, okf, tst, blk, blo, nok, tru_bl, tru_int, tru_tup, tru_lst, add_i, sub_i, neg_i, len_t, len_l, tpl_l, tpl_t, lst_l, lst_t, int_b, cm_eq, cm_ne, cm_lt, cm_le, cm_gt, cm_ge, cm_in, cm_nin, cm_is, cm_isn, it_0, it_1, it_2, sl_1, tup2_e, tup3_e, iw_l, iw_t, id_l, id_t, isi_tt, isi_ti, isi_bb, ifT, ifF, mt2_2, mt3_3, mt4_4, mtA3_3, tb_fl, tb_gok, Bool.not_true, Bool.not_false, List.cons_append, List.nil_append, hx, h2, h0, hc, hk]
      have e1 : done ++ e.d :: E.ds es = (done ++ [e.d]) ++ E.ds es := by simp
      have e3 : done ++ e.d :: putsE es (k - e.sz) o = (done ++ [e.d]) ++ putsE es (k - e.sz) o := by simp
      rw [putsE, if_neg c, e1, e3, ← e2 e.d]
      exact ih kk
theorem szs_len (es : List E) : es.length ≤ E.szs es := by
  induction es with
  | nil => exact Nat.zero_le _
  | cons e r ih => have := E.sz_pos e; simp only [List.length_cons, E.szs]; omega
theorem v_put (o : D) : ∀ (n : Nat) (e : E), e.dp ≤ n → e.sz ≤ 100000 → ∀ k : Nat, k < e.sz → callN pg (n + 2) "_law_put" [e.d, .int k, o] = .ok (false, putE e k o)
  | n, e, hd, hs, k, hk => by
    rw [S__law_put H.l__law_put]
    have z := eqI (k : Int) 0
    cases k with
    | zero =>
      simp only [↓reduceIte, Bool.false_eq_true, bo, bex, so, sex, obk, ik, okf, tst, blk, blo, nok, tru_bl, tru_int, tru_tup, tru_lst, add_i, sub_i, neg_i, len_t, len_l, tpl_l, tpl_t, lst_l, lst_t, int_b, cm_eq, cm_ne, cm_lt, cm_le, cm_gt, cm_ge, cm_in, cm_nin, cm_is, cm_isn, it_0, it_1, it_2, sl_1, tup2_e, tup3_e, iw_l, iw_t, id_l, id_t, isi_tt, isi_ti, isi_bb, ifT, ifF, mt2_2, mt3_3, mt4_4, mtA3_3, tb_fl, tb_gok, Bool.not_true, Bool.not_false, List.cons_append, List.nil_append, z]
      simp [putE]
    | succ k =>
      have z0 : decide (((k + 1 : Nat) : Int) = 0) = false := decide_eq_false (by omega)
      have z1 : (((k + 1 : Nat) : Int) - 1) = (k : Int) := by omega
      have loop : ∀ (es : List E), E.dps es + 1 ≤ n → 1 + E.szs es ≤ 100000 → ∀ (x0 : D) (c : Bool), ∃ (p1 : Bool × D) (z4 z5 : Option (Bool × D)), rs__law_put_1 pg (n + 1) (en_rs__law_put_1 x0 (false, .int (k : Nat)) o (true, .lst (E.ds es))) K0 = rs__law_put_3 pg (n + 1) (en_lp__law_put_2 x0 p1 o (putsE es k o) z4 z5) K0 := fun es h1 h2 x0 c => by
        obtain ⟨m, rfl⟩ : ∃ m, n = m + 1 := ⟨n - 1, by omega⟩
        have hl := szs_len H es
        obtain ⟨p1, z4, z5, h⟩ := put_loop H (n := m + 2) (x0 := x0) (o := o) es [] false k none none (by simp; omega) (fun e he => v_heads_of H (m + 1) e (by have := E.dps_mem he; omega) (by have := E.szs_mem he; omega)) (fun e he j hj => v_put o m e (by have := E.dps_mem he; omega) (by have := E.szs_mem he; omega) j hj)
        refine ⟨p1, z4, z5, ?_⟩
        have r := rng0 es.length (by omega)
        have el := E.ds_len es
        rw [List.length_nil, ← List.range_eq_range'] at h
        rw [rs__law_put_1_eq]
        simp only [↓reduceIte, Bool.false_eq_true, bo, bex, so, sex, obk, ik, okf, tst, blk, blo, nok, tru_bl, tru_int, tru_tup, tru_lst, add_i, sub_i, neg_i, len_t, len_l, tpl_l, tpl_t, lst_l, lst_t, int_b, cm_eq, cm_ne, cm_lt, cm_le, cm_gt, cm_ge, cm_in, cm_nin, cm_is, cm_isn, it_0, it_1, it_2, sl_1, tup2_e, tup3_e, iw_l, iw_t, id_l, id_t, isi_tt, isi_ti, isi_bb, ifT, ifF, mt2_2, mt3_3, mt4_4, mtA3_3, tb_fl, tb_gok, Bool.not_true, Bool.not_false, List.cons_append, List.nil_append, el, r]
        exact h _
      cases e with
      | val v => simp [E.sz] at hk
      | nm z => simp [E.sz] at hk
      | ref w => simp [E.sz] at hk
      | iff a b c =>
        simp only [E.dp, E.sz] at hd hs
        obtain ⟨p1, z4, z5, h⟩ := loop [a, b, c] (by simp only [E.dps]; omega) (by simp only [E.szs]; omega) (E.d (.iff a b c)) true
        have l3 := putsE_len [a, b, c] k o
        have ha : opD .Add (.tup [.str "if"]) (.tup (putsE [a, b, c] k o)) = .ok (false, .tup ([.str "if"] ++ putsE [a, b, c] k o)) := add_t (by rw [l3]; simp)
        rw [putE_iff]
        simp only [E.d, E.ds] at h ⊢
        simp only [↓reduceIte, Bool.false_eq_true, bo, bex, so, sex, obk, ik, okf, tst, blk, blo, nok, tru_bl, tru_int, tru_tup, tru_lst, add_i, sub_i, neg_i, len_t, len_l, tpl_l, tpl_t, lst_l, lst_t, int_b, cm_eq, cm_ne, cm_lt, cm_le, cm_gt, cm_ge, cm_in, cm_nin, cm_is, cm_isn, it_0, it_1, it_2, sl_1, tup2_e, tup3_e, iw_l, iw_t, id_l, id_t, isi_tt, isi_ti, isi_bb, ifT, ifF, mt2_2, mt3_3, mt4_4, mtA3_3, tb_fl, tb_gok, Bool.not_true, Bool.not_false, List.cons_append, List.nil_append, tg_value_value, tg_value_name, tg_value_refuse, tg_value_if, tg_value_do, tg_value_call, tg_name_value, tg_name_name, tg_name_refuse, tg_name_if, tg_name_do, tg_name_call, tg_refuse_value, tg_refuse_name, tg_refuse_refuse, tg_refuse_if, tg_refuse_do, tg_refuse_call, tg_if_value, tg_if_name, tg_if_refuse, tg_if_if, tg_if_do, tg_if_call, tg_do_value, tg_do_name, tg_do_refuse, tg_do_if, tg_do_do, tg_do_call, tg_call_value, tg_call_name, tg_call_refuse, tg_call_if, tg_call_do, tg_call_call, z, z0, z1, h, rs__law_put_3_eq, ha]
      | doo w es =>
        simp only [E.dp, E.sz] at hd hs
        obtain ⟨p1, z4, z5, h⟩ := loop es (by omega) (by omega) (E.d (.doo w es)) true
        have l3 : ∀ (a b c : D), ([a, b, c] : List D).length ≤ 1000000 := fun _ _ _ => by simp
        simp only [E.d] at h ⊢
        simp only [↓reduceIte, Bool.false_eq_true, bo, bex, so, sex, obk, ik, okf, tst, blk, blo, nok, tru_bl, tru_int, tru_tup, tru_lst, add_i, sub_i, neg_i, len_t, len_l, tpl_l, tpl_t, lst_l, lst_t, int_b, cm_eq, cm_ne, cm_lt, cm_le, cm_gt, cm_ge, cm_in, cm_nin, cm_is, cm_isn, it_0, it_1, it_2, sl_1, tup2_e, tup3_e, iw_l, iw_t, id_l, id_t, isi_tt, isi_ti, isi_bb, ifT, ifF, mt2_2, mt3_3, mt4_4, mtA3_3, tb_fl, tb_gok, Bool.not_true, Bool.not_false, List.cons_append, List.nil_append, tg_value_value, tg_value_name, tg_value_refuse, tg_value_if, tg_value_do, tg_value_call, tg_name_value, tg_name_name, tg_name_refuse, tg_name_if, tg_name_do, tg_name_call, tg_refuse_value, tg_refuse_name, tg_refuse_refuse, tg_refuse_if, tg_refuse_do, tg_refuse_call, tg_if_value, tg_if_name, tg_if_refuse, tg_if_if, tg_if_do, tg_if_call, tg_do_value, tg_do_name, tg_do_refuse, tg_do_if, tg_do_do, tg_do_call, tg_call_value, tg_call_name, tg_call_refuse, tg_call_if, tg_call_do, tg_call_call, z, z0, z1, h, rs__law_put_3_eq, if_len (l3 _ _ _), putE]
      | call w es =>
        simp only [E.dp, E.sz] at hd hs
        obtain ⟨p1, z4, z5, h⟩ := loop es (by omega) (by omega) (E.d (.call w es)) true
        have l3 : ∀ (a b c : D), ([a, b, c] : List D).length ≤ 1000000 := fun _ _ _ => by simp
        simp only [E.d] at h ⊢
        simp only [↓reduceIte, Bool.false_eq_true, bo, bex, so, sex, obk, ik, okf, tst, blk, blo, nok, tru_bl, tru_int, tru_tup, tru_lst, add_i, sub_i, neg_i, len_t, len_l, tpl_l, tpl_t, lst_l, lst_t, int_b, cm_eq, cm_ne, cm_lt, cm_le, cm_gt, cm_ge, cm_in, cm_nin, cm_is, cm_isn, it_0, it_1, it_2, sl_1, tup2_e, tup3_e, iw_l, iw_t, id_l, id_t, isi_tt, isi_ti, isi_bb, ifT, ifF, mt2_2, mt3_3, mt4_4, mtA3_3, tb_fl, tb_gok, Bool.not_true, Bool.not_false, List.cons_append, List.nil_append, tg_value_value, tg_value_name, tg_value_refuse, tg_value_if, tg_value_do, tg_value_call, tg_name_value, tg_name_name, tg_name_refuse, tg_name_if, tg_name_do, tg_name_call, tg_refuse_value, tg_refuse_name, tg_refuse_refuse, tg_refuse_if, tg_refuse_do, tg_refuse_call, tg_if_value, tg_if_name, tg_if_refuse, tg_if_if, tg_if_do, tg_if_call, tg_do_value, tg_do_name, tg_do_refuse, tg_do_if, tg_do_do, tg_do_call, tg_call_value, tg_call_name, tg_call_refuse, tg_call_if, tg_call_do, tg_call_call, z, z0, z1, h, rs__law_put_3_eq, if_len (l3 _ _ _), putE]
end

end Kv

namespace Kv
open PySem PySem.Spec PyProof.Rows L2 Hf
set_option autoImplicit false
/-! ### k03: odd forms, bodies of some depth, texts -/
def vI (i : Int) : D := .tup [.str "value", .int i]
def oddL (h : Hh) : List D := [.tup [.str "value", .bl true], vI (10 ^ 18), .tup [.str "value", .tup (List.replicate 50 (.int 0))], .tup [.str "value", .tup [.str "a"]], .tup [.str "value", .int 1, .int 1],
  .tup [.str "value", .non], .tup [.str "name", .str "zz9"], .tup [.str "name", .str (h.nm ++ "z")], .tup [.str "refuse", .str "TooLong"],
  .tup [.str "refuse", .str "refused"], .tup [.str "if", vI 1, vI 1], .tup [.str "if", vI 1, vI 1, vI 1, vI 1], .tup [.str "do", .str "plus", .tup [vI 1]],
  .tup [.str "do", .str "plus", .tup [vI 1, vI 1, vI 1]], .tup [.str "do", .str "mod", .tup [vI 1, vI 1]], .tup [.str "do", .str "list", .tup (List.replicate 9 (vI 1))],
  .tup [.str "do", .str "first", .tup []], .tup [.str "do", .str "if", .tup [vI 1, vI 1, vI 1]], .tup [.str "call", .str "zz9", .tup []], .tup [.str "stop", .int 1],
  .tup [.str "call", .str h.nm, .tup (List.replicate (h.ps.length + 1) (vI 1))], .tup [.str "call", .str "plus", .tup [vI 1, vI 1]]]
theorem ml_t {a : D} {m : Nat} (h : m ≤ 999) : opD .Mult (.tup [a]) (.int ((m : Int) + 1)) = .ok (false, .tup (List.replicate (m + 1) a)) := by
  have e : ((m : Int) + 1).toNat = m + 1 := by omega
  simp only [opD, e]
  rw [if_pos ⟨by simp, by omega, by omega, by simp⟩]
  have : (List.replicate (m + 1) [a]).flatten = List.replicate (m + 1) a := by
    generalize m + 1 = k
    induction k with
    | zero => rfl
    | succ k ih => rw [List.replicate_succ, List.flatten_cons, ih, List.replicate_succ]; rfl
  rw [this]
  rfl
theorem ml_t50 (a : D) : opD .Mult (.tup [a]) (.int 50) = .ok (false, .tup (List.replicate 50 a)) := ml_t (m := 49) (by decide)
theorem ml_t9 (a : D) : opD .Mult (.tup [a]) (.int 9) = .ok (false, .tup (List.replicate 9 a)) := ml_t (m := 8) (by decide)
theorem ml_t8 (a : D) : opD .Mult (.tup [a]) (.int 8) = .ok (false, .tup (List.replicate 8 a)) := ml_t (m := 7) (by decide)
theorem ml_t49 (a : D) : opD .Mult (.tup [a]) (.int 49) = .ok (false, .tup (List.replicate 49 a)) := ml_t (m := 48) (by decide)
theorem pow_18 : opD .Pow (.int 10) (.int 18) = .ok (false, .int (10 ^ 18)) := by
  simp only [opD]
  rw [if_pos (by decide)]
  rfl
theorem il_0 (a : D) (r : List D) : idxD (.lst (a :: r)) (.int 0) = .ok (false, a) := by simp [idxD, atI, ixN, okF]
theorem il_nm {xs : List D} {i : Int} {k : Nat} (e : i = (k : Int)) (h : k < xs.length) : idxD (.lst xs) (.int i) = .ok (false, xs[k]) := by rw [e]; exact il_n h
theorem sl_to {xs : List D} {k : Nat} (h : k ≤ xs.length) : slcD (.tup xs) none (some (k : Int)) = .ok (false, .tup (xs.take k)) := by
  simp only [slcD, Hf.cutD, HT.sIx_nat, HT.sIx_none, okF]
  rw [Nat.min_eq_left h]
  simp
theorem sl_from {xs : List D} {k : Nat} (h : k ≤ xs.length) : slcD (.tup xs) (some (k : Int)) none = .ok (false, .tup (xs.drop k)) := by
  simp only [slcD, Hf.cutD, HT.sIx_nat, HT.sIx_none, okF]
  rw [Nat.min_eq_left h, List.take_of_length_le (by simp)]
/-- the body that many deep -/
def deepD (m : Nat) : D := (List.range (m - 1)).foldl (fun f k => if (k + m) % 3 = 0 then .tup [.str "do", .str "list", .tup [f]] else if (k + m) % 3 = 1 then .tup [.str "if", f, vI 0, vI 2] else .tup [.str "do", .str "plus", .tup [vI 3, f]]) (vI 1)
section
variable {pg : Pg} (H : HasK3 pg)
include H
theorem v_odd {n : Nat} (h : Hh) (r : List Hh) (hl : h.ps.length ≤ 6) (hn : h.nm.length ≤ 100) {w : Nat} (hw : w < 22) : callN pg (n + 1) "_law_odd" [.lst ((h :: r).map Hh.d), .int w] = .ok (false, (oddL h)[w]'hw) := by
  rw [S__law_odd H.l__law_odd]
  have ha : opD .Add (.str h.nm) (.str "z") = .ok (false, .str (h.nm ++ "z")) := add_s (by have : (Str.ofString "z").length = 1 := rfl; rw [this]; omega)
  have hm : opD .Mult (.tup [.tup [.str "value", .int 1]]) (.int ((h.ps.length : Int) + 1)) = .ok (false, .tup (List.replicate (h.ps.length + 1) (.tup [.str "value", .int 1]))) := ml_t (by omega)
  have hpl : (h.ps.map D.str).length = h.ps.length := by simp
  have hx : ∀ xs : List D, ∀ q : w < xs.length, idxD (.lst xs) (.int w) = .ok (false, xs[w]) := fun xs q => il_n q
  simp only [↓reduceIte, Bool.false_eq_true, bo, bex, so, sex, obk, ik, okf, tst, blk, blo, nok, tru_bl, tru_int, tru_tup, tru_lst, add_i, sub_i, neg_i, len_t, len_l, tpl_l, tpl_t, lst_l, lst_t, int_b, cm_eq, cm_ne, cm_lt, cm_le, cm_gt, cm_ge, cm_in, cm_nin, cm_is, cm_isn, it_0, it_1, it_2, sl_1, tup2_e, tup3_e, iw_l, iw_t, id_l, id_t, isi_tt, isi_ti, isi_bb, ifT, ifF, mt2_2, mt3_3, mt4_4, mtA3_3, tb_fl, tb_gok, Bool.not_true, Bool.not_false, List.cons_append, List.nil_append, List.map_cons, Hh.d, il_0, pow_18, ml_t50, ml_t9, ha, hpl, hm, sizeLine_eq, List.length_cons, List.length_nil, Nat.reduceAdd, Nat.reduceLeDiff, if_true, add_l]
  rw [hx _ (by simpa using hw)]
  rfl
theorem v_with {n : Nat} (xs : List D) {k : Nat} (hk : k < xs.length) (hl : xs.length ≤ 1000) (f : D) : callN pg (n + 1) "_law_with" [.tup xs, .int k, f] = .ok (false, .tup (xs.set k f)) := by
  rw [S__law_with H.l__law_with]
  have e1 := sl_to (xs := xs) (k := k) (by omega)
  have e2 := sl_from (xs := xs) (k := k + 1) (by omega)
  have e3 : ((k : Int) + 1) = ((k + 1 : Nat) : Int) := by omega
  have a1 : opD .Add (.tup (xs.take k)) (.tup [f]) = .ok (false, .tup (xs.take k ++ [f])) := add_t (by rw [List.length_take]; simp; omega)
  have a2 : opD .Add (.tup (xs.take k ++ [f])) (.tup (xs.drop (k + 1))) = .ok (false, .tup ((xs.take k ++ [f]) ++ xs.drop (k + 1))) := add_t (by simp; omega)
  simp only [↓reduceIte, Bool.false_eq_true, bo, bex, so, sex, obk, ik, okf, tst, blk, blo, nok, tru_bl, tru_int, tru_tup, tru_lst, add_i, sub_i, neg_i, len_t, len_l, tpl_l, tpl_t, lst_l, lst_t, int_b, cm_eq, cm_ne, cm_lt, cm_le, cm_gt, cm_ge, cm_in, cm_nin, cm_is, cm_isn, it_0, it_1, it_2, sl_1, tup2_e, tup3_e, iw_l, iw_t, id_l, id_t, isi_tt, isi_ti, isi_bb, ifT, ifF, mt2_2, mt3_3, mt4_4, mtA3_3, tb_fl, tb_gok, Bool.not_true, Bool.not_false, List.cons_append, List.nil_append, e1, e3, e2, a1, a2]
  rw [List.set_eq_take_append_cons_drop, if_pos hk]
  simp
theorem v_truth {n : Nat} (a b : Bool) : callN pg (n + 1) "_law_truth" [.bl a, .bl b] = .ok (false, .bl (decide (a = b))) := by
  rw [S__law_truth H.l__law_truth]
  simp only [↓reduceIte, Bool.false_eq_true, bo, bex, so, sex, obk, ik, okf, tst, blk, blo, nok, tru_bl, tru_int, tru_tup, tru_lst, add_i, sub_i, neg_i, len_t, len_l, tpl_l, tpl_t, lst_l, lst_t, int_b, cm_eq, cm_ne, cm_lt, cm_le, cm_gt, cm_ge, cm_in, cm_nin, cm_is, cm_isn, it_0, it_1, it_2, sl_1, tup2_e, tup3_e, iw_l, iw_t, id_l, id_t, isi_tt, isi_ti, isi_bb, ifT, ifF, mt2_2, mt3_3, mt4_4, mtA3_3, tb_fl, tb_gok, Bool.not_true, Bool.not_false, List.cons_append, List.nil_append, eq_bl]
theorem v_deep20 {n : Nat} : callN pg (n + 1) "_law_deep" [.int 20] = .ok (false, deepD 20) := by
  rw [S__law_deep H.l__law_deep]
  kernel_rfl
theorem v_deep21 {n : Nat} : callN pg (n + 1) "_law_deep" [.int 21] = .ok (false, deepD 21) := by
  rw [S__law_deep H.l__law_deep]
  kernel_rfl
end

end Kv

namespace Kv
open PySem PySem.Spec PyProof.Rows L2 Hf
set_option autoImplicit false
/-! ### k03: what is wrong with a program makes it no good one -/
section
variable {ps : List Str} {cs : List (Str × Nat)} {o : D} (ho : ∀ k, bodyB ps cs k o = false)
include ho
mutual
theorem put_bad : ∀ (e : E) (i : Nat), i < e.sz → ∀ k, bodyB ps cs k (putE e i o) = false
  | e, 0, _, k => by
    have : putE e 0 o = o := by cases e <;> rfl
    rw [this]
    exact ho k
  | .val _, i + 1, h, _ => by simp [E.sz] at h
  | .nm _, i + 1, h, _ => by simp [E.sz] at h
  | .ref _, i + 1, h, _ => by simp [E.sz] at h
  | .iff a b c, i + 1, h, k => by
    cases k with
    | zero => rfl
    | succ k =>
      have hs : i < E.szs [a, b, c] := by
        simp only [E.sz] at h
        simp only [E.szs]
        omega
      obtain ⟨x, hx, hb⟩ := puts_bad [a, b, c] i hs k
      have hl := putsE_len [a, b, c] i o
      rw [putE_iff]
      generalize putsE [a, b, c] i o = ys at *
      match ys, hl with
      | [x1, x2, x3], _ =>
        rw [bb_iff]
        exact List.all_eq_false.mpr ⟨x, hx, by rw [hb]; exact Bool.false_ne_true⟩
  | .doo w xs, i + 1, h, k => by
    cases k with
    | zero => rfl
    | succ k =>
      obtain ⟨x, hx, hb⟩ := puts_bad xs i (by simp only [E.sz] at h; omega) k
      rw [putE, bb_do]
      have : allT (bodyB ps cs k) (.tup (putsE xs i o)) = false := List.all_eq_false.mpr ⟨x, hx, by rw [hb]; exact Bool.false_ne_true⟩
      rw [this, Bool.and_false]
  | .call w xs, i + 1, h, k => by
    cases k with
    | zero => rfl
    | succ k =>
      obtain ⟨x, hx, hb⟩ := puts_bad xs i (by simp only [E.sz] at h; omega) k
      rw [putE, bb_call]
      have : allT (bodyB ps cs k) (.tup (putsE xs i o)) = false := List.all_eq_false.mpr ⟨x, hx, by rw [hb]; exact Bool.false_ne_true⟩
      rw [this, Bool.and_false]
termination_by e => 2 * e.sz
decreasing_by all_goals (simp only [E.sz, E.szs]; omega)
theorem puts_bad : ∀ (xs : List E) (i : Nat), i < E.szs xs → ∀ k, ∃ x ∈ putsE xs i o, bodyB ps cs k x = false
  | [], i, h, _ => by simp [E.szs] at h
  | e :: r, i, h, k => by
    rw [putsE]
    by_cases c : i < e.sz
    · rw [if_pos c]
      exact ⟨_, List.mem_cons_self, put_bad e i c k⟩
    · rw [if_neg c]
      obtain ⟨x, hx, hb⟩ := puts_bad r (i - e.sz) (by simp only [E.szs] at h; omega) k
      exact ⟨x, List.mem_cons_of_mem _ hx, hb⟩
termination_by xs => 2 * E.szs xs + 1
decreasing_by all_goals (simp only [E.sz, E.szs]; have := E.sz_pos e; omega)
end
end
theorem any_isS_no {ps : List Str} {z : Str} (h : z ∉ ps) : (ps.any fun y => isS (.str z) y) = false := by
  rw [List.any_eq_false]
  intro y hy
  simp only [isS, decide_eq_true_eq]
  exact fun e => h (e ▸ hy)
/-- each odd form is none -/
theorem odd_bad {ps : List Str} {hs : List Hh} {h : Hh} (nd : (hs.map (·.nm)).Nodup) (hm : h ∈ hs) (h1 : ("zz9" : Str) ∉ ps) (h2 : h.nm ++ "z" ∉ ps) (h3 : ("zz9" : Str) ∉ hs.map (·.nm)) (h4 : ("plus" : Str) ∉ hs.map (·.nm)) : ∀ o ∈ oddL h, ∀ k, bodyB ps (cntH hs) k o = false := by
  intro o hmem k
  cases k with
  | zero => rfl
  | succ k =>
    have a1 : ∀ (r : Bool) (b c : D), canDo b c = false → (canDo b c && r) = false := fun r b c e => by rw [e]; rfl
    simp only [oddL, List.mem_cons, List.not_mem_nil, or_false] at hmem
    rcases hmem with rfl | rfl | rfl | rfl | rfl | rfl | rfl | rfl | rfl | rfl | rfl | rfl | rfl | rfl | rfl | rfl | rfl | rfl | rfl | rfl | rfl | rfl
    · rw [bb_val]; decide +kernel
    · rw [vI, bb_val]; decide +kernel
    · rw [bb_val]; decide +kernel
    · rw [bb_val]; decide +kernel
    · kernel_rfl
    · rw [bb_val]; decide +kernel
    · rw [bb_nm, any_isS_no h1]
    · rw [bb_nm, any_isS_no h2]
    · rw [bb_ref]; decide +kernel
    · rw [bb_ref]; decide +kernel
    · kernel_rfl
    · rfl
    · rw [bb_do]; exact a1 _ _ _ (by decide +kernel)
    · rw [bb_do]; exact a1 _ _ _ (by decide +kernel)
    · rw [bb_do]; exact a1 _ _ _ (by decide +kernel)
    · rw [bb_do]; exact a1 _ _ _ (by decide +kernel)
    · rw [bb_do]; exact a1 _ _ _ (by decide +kernel)
    · rw [bb_do]; exact a1 _ _ _ (by decide +kernel)
    · rw [bb_call, canCall, cntB_no h3]; rfl
    · kernel_rfl
    · rw [bb_call, canCall, cntB_head nd hm, List.length_replicate, decide_eq_false (by omega)]; rfl
    · rw [bb_call, canCall, cntB_no h4]; rfl
theorem deep20_ok (ps : List Str) (cs : List (Str × Nat)) : bodyB ps cs 20 (deepD 20) = true := by kernel_rfl
theorem deep21_no (ps : List Str) (cs : List (Str × Nat)) : bodyB ps cs 20 (deepD 21) = false := by kernel_rfl
theorem wt_rep (k : Nat) (d : D) : wts (List.replicate k d) = k * wt d := by
  induction k with
  | zero => simp [wts]
  | succ k ih => rw [List.replicate_succ, wts, ih, Nat.succ_mul]; omega
theorem odd_tr {h : Hh} (hn : PyData.strOk h.nm = true) (hz : PyData.strOk (h.nm ++ "z") = true) (h6 : h.ps.length ≤ 6) : ∀ o ∈ oddL h, Tr o ∧ wt o ≤ 100 := by
  obtain ⟨t1, t2, t3, t4, t5, t6⟩ := tags_ok
  have rep : ∀ (k : Nat) (d : D), Tr d → Tr (.tup (List.replicate k d)) := fun k d hd => .tup fun x hx => by rw [List.eq_of_mem_replicate hx]; exact hd
  have s := fun (z : Str) (q : PyData.strOk z = true) => tr_s z q
  have v : ∀ i : Int, Tr (vI i) := fun i => tr2 (s _ t1) (tr_int i)
  have l1 : ∀ a : D, Tr a → Tr (.tup [a]) := fun a ha => .tup fun d hd => by simp at hd; subst hd; exact ha
  have l0 : Tr (.tup []) := .tup fun d hd => by cases hd
  have wv : ∀ i : Int, wt (vI i) = 3 := fun i => rfl
  intro o hm
  simp only [oddL, List.mem_cons, List.not_mem_nil, or_false] at hm
  rcases hm with rfl | rfl | rfl | rfl | rfl | rfl | rfl | rfl | rfl | rfl | rfl | rfl | rfl | rfl | rfl | rfl | rfl | rfl | rfl | rfl | rfl | rfl
  · exact ⟨tr2 (s _ t1) (tr_bl _), by decide +kernel⟩
  · exact ⟨v _, by decide +kernel⟩
  · exact ⟨tr2 (s _ t1) (rep _ _ (tr_int 0)), by decide +kernel⟩
  · exact ⟨tr2 (s _ t1) (l1 _ (s _ (by decide +kernel))), by decide +kernel⟩
  · exact ⟨tr3 (s _ t1) (tr_int _) (tr_int _), by decide +kernel⟩
  · exact ⟨tr2 (s _ t1) (.leaf .non), by decide +kernel⟩
  · exact ⟨tr2 (s _ t2) (s _ (by decide +kernel)), by decide +kernel⟩
  · exact ⟨tr2 (s _ t2) (s _ hz), by simp [wt, wts]⟩
  · exact ⟨tr2 (s _ t3) (s _ (by decide +kernel)), by decide +kernel⟩
  · exact ⟨tr2 (s _ t3) (s _ (by decide +kernel)), by decide +kernel⟩
  · exact ⟨tr3 (s _ t4) (v _) (v _), by decide +kernel⟩
  · refine ⟨.tup fun d hd => ?_, by decide +kernel⟩
    simp only [List.mem_cons, List.not_mem_nil, or_false] at hd
    rcases hd with rfl | rfl | rfl | rfl | rfl
    · exact s _ t4
    all_goals exact v _
  · exact ⟨tr3 (s _ t5) (s _ (by decide +kernel)) (l1 _ (v _)), by decide +kernel⟩
  · exact ⟨tr3 (s _ t5) (s _ (by decide +kernel)) (tr3 (v _) (v _) (v _)), by decide +kernel⟩
  · exact ⟨tr3 (s _ t5) (s _ (by decide +kernel)) (tr2 (v _) (v _)), by decide +kernel⟩
  · exact ⟨tr3 (s _ t5) (s _ (by decide +kernel)) (rep _ _ (v _)), by decide +kernel⟩
  · exact ⟨tr3 (s _ t5) (s _ (by decide +kernel)) l0, by decide +kernel⟩
  · exact ⟨tr3 (s _ t5) (s _ (by decide +kernel)) (tr3 (v _) (v _) (v _)), by decide +kernel⟩
  · exact ⟨tr3 (s _ t6) (s _ (by decide +kernel)) l0, by decide +kernel⟩
  · exact ⟨tr2 (s _ (by decide +kernel)) (tr_int _), by decide +kernel⟩
  · refine ⟨tr3 (s _ t6) (s _ hn) (rep _ _ (v _)), ?_⟩
    simp only [wt, wts, wt_rep, wv]
    omega
  · exact ⟨tr3 (s _ t6) (s _ (by decide +kernel)) (tr2 (v _) (v _)), by decide +kernel⟩
mutual
theorem put_tr {o : D} (ho : Tr o ∧ wt o ≤ 100) : ∀ (e : E) (i : Nat), Tr e.d → Tr (putE e i o) ∧ wt (putE e i o) ≤ wt e.d + 100
  | e, 0, _ => by
    have : putE e 0 o = o := by cases e <;> rfl
    rw [this]
    exact ⟨ho.1, by omega⟩
  | .val v, i + 1, h => ⟨h, by simp [putE]⟩
  | .nm v, i + 1, h => ⟨h, by simp [putE]⟩
  | .ref v, i + 1, h => ⟨h, by simp [putE]⟩
  | .iff a b c, i + 1, h => by
    have hp : ∀ d ∈ E.ds [a, b, c], Tr d := fun d hd => by
      rcases leaf_of h with q | ⟨xs, e, q⟩
      · cases q
      · simp only [E.d, D.tup.injEq] at e
        subst e
        exact q d (List.mem_cons_of_mem _ hd)
    obtain ⟨h1, h2⟩ := puts_tr ho [a, b, c] i hp
    rw [putE_iff]
    refine ⟨.tup fun d hd => ?_, ?_⟩
    · rcases List.mem_cons.mp hd with e | hd
      · subst e; exact tr_s _ tags_ok.2.2.2.1
      · exact h1 d hd
    · simp only [E.d, E.ds, wt, wts] at h2 ⊢
      omega
  | .doo w xs, i + 1, h => by
    obtain ⟨q1, q2, q3⟩ : Tr (.str "do") ∧ Tr (.str w) ∧ Tr (.tup (E.ds xs)) := by
      rcases leaf_of h with q | ⟨ys, e, q⟩
      · cases q
      · simp only [E.d, D.tup.injEq] at e
        subst e
        exact ⟨q _ (by simp), q _ (by simp), q _ (by simp)⟩
    have hp : ∀ d ∈ E.ds xs, Tr d := by
      rcases leaf_of q3 with q | ⟨ys, e, q⟩
      · cases q
      · cases e; exact q
    obtain ⟨h1, h2⟩ := puts_tr ho xs i hp
    rw [putE]
    refine ⟨tr3 q1 q2 (.tup h1), ?_⟩
    simp only [E.d, wt, wts] at h2 ⊢
    omega
  | .call w xs, i + 1, h => by
    obtain ⟨q1, q2, q3⟩ : Tr (.str "call") ∧ Tr (.str w) ∧ Tr (.tup (E.ds xs)) := by
      rcases leaf_of h with q | ⟨ys, e, q⟩
      · cases q
      · simp only [E.d, D.tup.injEq] at e
        subst e
        exact ⟨q _ (by simp), q _ (by simp), q _ (by simp)⟩
    have hp : ∀ d ∈ E.ds xs, Tr d := by
      rcases leaf_of q3 with q | ⟨ys, e, q⟩
      · cases q
      · cases e; exact q
    obtain ⟨h1, h2⟩ := puts_tr ho xs i hp
    rw [putE]
    refine ⟨tr3 q1 q2 (.tup h1), ?_⟩
    simp only [E.d, wt, wts] at h2 ⊢
    omega
termination_by e => 2 * e.sz
decreasing_by all_goals (simp only [E.sz, E.szs]; omega)
theorem puts_tr {o : D} (ho : Tr o ∧ wt o ≤ 100) : ∀ (xs : List E) (i : Nat), (∀ d ∈ E.ds xs, Tr d) → (∀ d ∈ putsE xs i o, Tr d) ∧ wts (putsE xs i o) ≤ wts (E.ds xs) + 100
  | [], _, _ => ⟨fun d hd => (by cases hd), (by simp [putsE, E.ds])⟩
  | e :: r, i, h => by
    have he : Tr e.d := h _ List.mem_cons_self
    have hr : ∀ d ∈ E.ds r, Tr d := fun d hd => h d (List.mem_cons_of_mem _ hd)
    rw [putsE]
    by_cases c : i < e.sz
    · rw [if_pos c]
      obtain ⟨h1, h2⟩ := put_tr ho e i he
      refine ⟨fun d hd => ?_, ?_⟩
      · rcases List.mem_cons.mp hd with q | hd
        · subst q; exact h1
        · exact hr d hd
      · simp only [E.ds, wts]
        omega
    · rw [if_neg c]
      obtain ⟨h1, h2⟩ := puts_tr ho r (i - e.sz) hr
      refine ⟨fun d hd => ?_, ?_⟩
      · rcases List.mem_cons.mp hd with q | hd
        · subst q; exact he
        · exact h1 d hd
      · simp only [E.ds, wts]
        omega
termination_by xs => 2 * E.szs xs + 1
decreasing_by all_goals (simp only [E.sz, E.szs]; have := E.sz_pos e; omega)
end

end Kv

namespace Kv
open PySem PySem.Spec PyProof.Rows L2 Hf
set_option autoImplicit false
/-! ### k03: spoilt programs -/
def Fu.fn (f : Fu) : Fn := ⟨f.h.nm, f.h.ps, f.e.d⟩
theorem fu_d (P : List Fu) : P.map Fu.d = (P.map Fu.fn).map Fn.d := by rw [List.map_map]; rfl
theorem good_no {fs : List Fn} {g : Fn} (hm : g ∈ fs) (h : fnB (cnts fs) g = false) : goodB fs = false := by
  unfold goodB
  have : fs.all (fnB (cnts fs)) = false := List.all_eq_false.mpr ⟨g, hm, by rw [h]; exact Bool.false_ne_true⟩
  rw [this]
  simp
theorem fn_nm {cs : List (Str × Nat)} {g : Fn} (h : nameB g.nm = false) : fnB cs g = false := by unfold fnB; rw [h]; rfl
theorem fn_pl {cs : List (Str × Nat)} {g : Fn} (h : ¬ g.ps.length ≤ 6) : fnB cs g = false := by unfold fnB; rw [decide_eq_false h]; simp
theorem fn_ps {cs : List (Str × Nat)} {g : Fn} {z : Str} (hz : z ∈ g.ps) (h : nameB z = false) : fnB cs g = false := by
  unfold fnB
  have : g.ps.all nameB = false := List.all_eq_false.mpr ⟨z, hz, by rw [h]; exact Bool.false_ne_true⟩
  rw [this]
  simp
theorem fn_nd {cs : List (Str × Nat)} {g : Fn} (h : ¬ g.ps.Nodup) : fnB cs g = false := by unfold fnB; rw [decide_eq_false h]; simp
theorem fn_bd {cs : List (Str × Nat)} {g : Fn} (h : bodyB g.ps cs 20 g.bd = false) : fnB cs g = false := by unfold fnB; rw [h]; simp
theorem cnts_fu {P : List Fu} {hs : List Hh} (hP : P.map (·.h) = hs) : cnts (P.map Fu.fn) = cntH hs := by
  unfold cnts cntH
  rw [← hP, List.map_map, List.map_map]
  rfl
theorem mem_set {α : Type} {xs : List α} {k : Nat} (h : k < xs.length) (a : α) : a ∈ xs.set k a := List.mem_iff_getElem.mpr ⟨k, by simpa using h, by simp⟩
theorem set_mem {α : Type} {xs : List α} {k : Nat} {a b : α} (h : b ∈ xs.set k a) : b = a ∨ b ∈ xs := (List.mem_or_eq_of_mem_set h).symm
theorem map_set' {α β : Type} (f : α → β) (xs : List α) (k : Nat) (a : α) : (xs.set k a).map f = (xs.map f).set k (f a) := by rw [List.map_set]
section
variable {zs : List Str} {hs : List Hh} (hh : HeadsOf zs hs)
include hh
theorem fu_ok {f : Fu} (h : FuOk hs f) : (Fu.fn f).Ok ∧ Bd 250000 20000 7 f.e := by
  have N := hh.dr.nice
  have ps := fun z hz => head_ps hh h.mem z hz
  have hp : ∀ z ∈ f.h.ps, PyData.strOk z = true := fun z hz => N.ok z (ps z hz)
  obtain ⟨k, _, _, e⟩ := heads_at hh h.mem
  have bd := (ge_bd (fun h hm => (heads_Hs hh).few h hm) h.ge).up (w' := 250000) (s' := 20000) (p' := 7) (by decide) (by decide) (by decide)
  refine ⟨⟨N.ok _ (head_nm hh h.mem), by have := N.l8 _ (head_nm hh h.mem); show f.h.nm.length ≤ 1000; omega, fun z hz => ⟨hp z hz, by have := N.l8 _ (ps z hz); omega⟩, by have := e.pl; show f.h.ps.length ≤ 1000; omega, ge_tr hp (fun z hz => hp z (knN_sub hz)) (fun h hm => N.ok _ (head_nm hh hm)) h.ge, by have := bd.w; show wt f.e.d ≤ 1000000; omega⟩, bd⟩
theorem fu_good {f : Fu} (h : FuOk hs f) : fnB (cntH hs) f.fn = true := by
  have N := hh.dr.nice
  obtain ⟨k, _, _, e⟩ := heads_at hh h.mem
  have pl := e.pl
  unfold fnB
  have h1 : nameB f.fn.nm = true := N.name _ (head_nm hh h.mem)
  have h2 : f.fn.ps.length ≤ 6 := pl
  have h3 : f.fn.ps.all nameB = true := List.all_eq_true.mpr fun z hz => N.name _ (head_ps hh h.mem z hz)
  have h4 : f.fn.ps.Nodup := head_nodup hh h.mem
  have h5 : bodyB f.fn.ps (cntH hs) 20 f.fn.bd = true := bodyB_ge (fun z hz => knN_sub hz) (heads_nodup hh) h.ge 20 (by decide)
  rw [h1, h3, h5, decide_eq_true h2, decide_eq_true h4]
  rfl
theorem prog_good {P : List Fu} (hP : P.map (·.h) = hs) (ok : ∀ f ∈ P, FuOk hs f) : goodB (P.map Fu.fn) = true := by
  unfold goodB
  have h1 : (P.map Fu.fn).isEmpty = false := by
    have := hh.l1
    rw [← hP] at this
    cases P with
    | nil => simp at this
    | cons _ _ => rfl
  have h2 : ((P.map Fu.fn).map (·.nm)).Nodup := by
    have e : (P.map Fu.fn).map (·.nm) = hs.map (·.nm) := by rw [← hP, List.map_map, List.map_map]; rfl
    rw [e]
    exact heads_nodup hh
  have h3 : (P.map Fu.fn).all (fnB (cnts (P.map Fu.fn))) = true := by
    rw [cnts_fu hP]
    refine List.all_eq_true.mpr fun g hg => ?_
    obtain ⟨f, hf, rfl⟩ := List.mem_map.mp hg
    exact fu_good hh (ok f hf)
  rw [h1, h3, decide_eq_true h2]
  rfl
end
def badN : List Str := ["if", "list", "A", "", "ninesigns", "1a", "refuse", "a-b"]
def badP : List Str := ["same", "Ab", "", "if"]
theorem badN_no : ∀ z ∈ badN ++ badP, nameB z = false ∧ PyData.strOk z = true ∧ z.length ≤ 1000 := by decide +kernel
theorem ya_ok : ∀ z ∈ (["ya", "yb", "yc", "yd", "ye", "yf", "yg"] : List Str), PyData.strOk z = true ∧ z.length ≤ 1000 := by decide +kernel
theorem deep_tr : Tr (deepD 20) ∧ Tr (deepD 21) := by
  have l1 : ∀ a : D, Tr a → Tr (.tup [a]) := fun a ha => .tup fun d hd => by simp at hd; subst hd; exact ha
  have v : ∀ i : Int, Tr (vI i) := fun i => tr2 (tr_s _ tags_ok.1) (tr_int i)
  have key : ∀ (m : Nat) (ks : List Nat) (a : D), Tr a → Tr (ks.foldl (fun f k => if (k + m) % 3 = 0 then .tup [.str "do", .str "list", .tup [f]] else if (k + m) % 3 = 1 then .tup [.str "if", f, vI 0, vI 2] else .tup [.str "do", .str "plus", .tup [vI 3, f]]) a) := by
    intro m ks
    induction ks with
    | nil => exact fun a h => h
    | cons k ks ih =>
      intro a h
      rw [List.foldl_cons]
      refine ih _ ?_
      split
      · exact tr3 (tr_s _ tags_ok.2.2.2.2.1) (tr_s _ (by decide +kernel)) (l1 _ h)
      · split
        · exact tr4 (tr_s _ tags_ok.2.2.2.1) h (v _) (v _)
        · exact tr3 (tr_s _ tags_ok.2.2.2.2.1) (tr_s _ (by decide +kernel)) (tr2 (v _) h)
  exact ⟨key 20 _ _ (v 1), key 21 _ _ (v 1)⟩
theorem deep_wt : wt (deepD 20) ≤ 1000 ∧ wt (deepD 21) ≤ 1000 := by decide +kernel

end Kv

namespace Kv
open PySem PySem.Spec PyProof.Rows L2 Hf
set_option autoImplicit false
/-! ### k03: the spoilt program, told -/
theorem strOk_app {x y : Str} (hx : PyData.strOk x = true) (hy : PyData.strOk y = true) : PyData.strOk (x ++ y) = true := by
  show (x.cps ++ y.cps).all (· < 0x110000) = true
  have hx' : x.cps.all (· < 0x110000) = true := hx
  have hy' : y.cps.all (· < 0x110000) = true := hy
  rw [Array.all_append, hx', hy']
  rfl
section
variable {pg : Pg} (H : HasK3 pg) {zs : List Str} {hs : List Hh} (hh : HeadsOf zs hs) {P : List Fu} (hP : P.map (·.h) = hs) (ok : ∀ f ∈ P, FuOk hs f)
include H hh hP ok
theorem it_strs {ws : List Str} {i : Int} {m : Nat} (hl : ws.length = m) (h0 : 0 ≤ i) (h1 : i < m) : ∃ w ∈ ws, idxD (.lst (ws.map .str)) (.int i) = .ok (false, .str w) := by
  obtain ⟨k, rfl⟩ : ∃ k : Nat, i = k := ⟨i.toNat, by omega⟩
  have hk : k < ws.length := by omega
  refine ⟨ws[k], List.getElem_mem _, ?_⟩
  rw [il_n (by simpa using hk)]
  simp
theorem v_spoilt {n : Nat} {way : Nat} (hw : way ≤ 28) (c : Int) : ∃ fs : List Fn, (∀ f ∈ fs, f.Ok) ∧ fs.length ≤ 1000 ∧ goodB fs = false ∧ callN pg (n + 30) "_law_spoilt" [.tup (P.map Fu.d), .lst (hs.map Hh.d), .int way, .int c] = .ok (false, .tup (fs.map Fn.d)) := by
  have N := hh.dr.nice
  have hlP : P.length = hs.length := by rw [← hP, List.length_map]
  have l1 := hh.l1
  have l4 := hh.l4
  obtain ⟨h0, hr, eh⟩ : ∃ h0 hr, hs = h0 :: hr := by
    cases hs with
    | nil => simp at l1
    | cons a r => exact ⟨a, r, rfl⟩
  have e0 := Int.emod_nonneg c (b := (hs.length : Int)) (by omega)
  have e1 := Int.emod_lt_of_pos c (b := (hs.length : Int)) (by omega)
  obtain ⟨k, hk⟩ : ∃ k : Nat, c % (hs.length : Int) = k := ⟨(c % (hs.length : Int)).toNat, by omega⟩
  have hkP : k < P.length := by omega
  have fok := fun f hf => fu_ok hh (ok f hf)
  have Lok : ∀ g ∈ P.map Fu.fn, g.Ok := fun g hg => by
    obtain ⟨f, hf, rfl⟩ := List.mem_map.mp hg
    exact (fok f hf).1
  have LL : (P.map Fu.fn).length = hs.length := by rw [List.length_map]; exact hlP
  -- the function that is changed
  have fm : P[k] ∈ P := List.getElem_mem _
  have hx : idxD (.tup (P.map Fu.d)) (.int (k : Nat)) = .ok (false, Fu.d P[k]) := by
    rw [it_n (by simpa using hkP)]
    simp
  obtain ⟨fo, bd⟩ := fok P[k] fm
  have fmem := (ok P[k] fm).mem
  generalize hf : P[k] = f at *
  have plen : (P.map Fu.d).length = hs.length := by rw [List.length_map]; exact hlP
  have t1 : (0 : Int) < (hs.length : Int) := by omega
  have setP : ∀ g : Fn, .tup ((P.map Fu.d).set k g.d) = (.tup (((P.map Fu.fn).set k g).map Fn.d) : D) := fun g => by
    rw [map_set', ← fu_d]
  have setOk : ∀ g : Fn, g.Ok → ∀ x ∈ (P.map Fu.fn).set k g, x.Ok := fun g hg x hx => by
    rcases set_mem hx with q | q
    · rw [q]; exact hg
    · exact Lok x q
  have setL : ∀ g : Fn, ((P.map Fu.fn).set k g).length ≤ 1000 := fun g => by rw [List.length_set]; omega
  have gin : ∀ g : Fn, g ∈ (P.map Fu.fn).set k g := fun g => mem_set (by omega) g
  have hwith : ∀ d : D, callN pg (n + 29) "_law_with" [.tup (P.map Fu.d), .int k, d] = .ok (false, .tup ((P.map Fu.d).set k d)) := fun d => v_with H _ (by omega) (by omega) d
  have l3 : ∀ a b c : D, ([a, b, c] : List D).length ≤ 1000000 := fun _ _ _ => by simp
  have fd : Fu.d f = .tup [.str f.h.nm, .tup (f.h.ps.map .str), f.e.d] := rfl
  have S := S__law_spoilt (n := n + 29) H.l__law_spoilt (.tup (P.map Fu.d)) (.lst (hs.map Hh.d)) (.int way) (.int c)
  have eq := fun j : Int => eqI (way : Int) j
  rw [S]
  clear S
  have l6 : f.h.ps.length ≤ 6 := (heads_Hs hh).few f.h fmem
  have pl : (f.h.ps.map D.str).length = f.h.ps.length := by simp
  by_cases c22 : way < 22
  · -- an odd form
    have t22 : decide ((way : Int) < 22) = true := decide_eq_true (by omega)
    obtain ⟨xs, hxs, hho⟩ := v_heads_of H (n + 28) f.e (by have := bd.p; omega) (by have := bd.s; omega)
    have szp := E.sz_pos f.e
    have xl : (0 : Int) < (xs.length : Int) := by omega
    have i0 := Int.emod_nonneg (c / 7) (b := (xs.length : Int)) (by omega)
    have i1 := Int.emod_lt_of_pos (c / 7) xl
    obtain ⟨i, hi⟩ : ∃ i : Nat, c / 7 % (xs.length : Int) = i := ⟨(c / 7 % (xs.length : Int)).toNat, by omega⟩
    have him : i < f.e.sz := by omega
    have h0m : h0 ∈ hs := by rw [eh]; exact List.mem_cons_self
    have h0n := head_nm hh h0m
    have hodd := v_odd H (n := n + 28) h0 hr ((heads_Hs hh).few h0 h0m) (by have := N.l8 _ h0n; omega) c22
    rw [← eh] at hodd
    have om : (oddL h0)[way]'c22 ∈ oddL h0 := List.getElem_mem _
    generalize (oddL h0)[way]'c22 = o at *
    have hput := v_put H o (n + 27) f.e (by have := bd.p; omega) (by have := bd.s; omega) i him
    have zok : PyData.strOk (h0.nm ++ "z") = true := strOk_app (N.ok _ h0n) (by decide +kernel)
    have otr := odd_tr (N.ok _ h0n) zok ((heads_Hs hh).few h0 h0m) o om
    have obad : ∀ j, bodyB f.h.ps (cntH hs) j o = false := odd_bad (heads_nodup hh) h0m (fun q => (N.nots _ (head_ps hh fmem _ q)) (by decide +kernel)) (fun q => N.noz _ h0n _ (head_ps hh fmem _ q) rfl) (fun q => by
      obtain ⟨h, hm, e⟩ := List.mem_map.mp q
      exact N.nots _ (head_nm hh hm) (by rw [e]; decide +kernel)) (fun q => by
      obtain ⟨h, hm, e⟩ := List.mem_map.mp q
      exact N.nots _ (head_nm hh hm) (by rw [e]; decide +kernel)) o om
    obtain ⟨ptr, pwt⟩ := put_tr otr f.e i fo.bd
    let g : Fn := ⟨f.h.nm, f.h.ps, putE f.e i o⟩
    have gok : g.Ok := ⟨fo.nm, fo.nl, fo.ps, fo.pl, ptr, by have := bd.w; show wt (putE f.e i o) ≤ 1000000; omega⟩
    refine ⟨(P.map Fu.fn).set k g, setOk g gok, setL g, good_no (gin g) (fn_bd ?_), ?_⟩
    · have ec : cnts ((P.map Fu.fn).set k g) = cntH hs := by
        rw [← cnts_fu hP]
        unfold cnts
        rw [map_set']
        refine List.ext_getElem (by simp) fun j q1 q2 => ?_
        rw [List.getElem_set]
        split
        · rename_i ej
          subst ej
          simp [hf, g, Fu.fn]
        · rfl
      rw [ec]
      exact put_bad obad f.e i him 20
    · simp only [↓reduceIte, Bool.false_eq_true, bo, bex, so, sex, obk, ik, okf, tst, blk, blo, nok, tru_bl, tru_int, tru_tup, tru_lst, add_i, sub_i, neg_i, len_t, len_l, tpl_l, tpl_t, lst_l, lst_t, int_b, cm_eq, cm_ne, cm_lt, cm_le, cm_gt, cm_ge, cm_in, cm_nin, cm_is, cm_isn, it_0, it_1, it_2, sl_1, tup2_e, tup3_e, iw_l, iw_t, id_l, id_t, isi_tt, isi_ti, isi_bb, ifT, ifF, mt2_2, mt3_3, mt4_4, mtA3_3, tb_fl, tb_gok, Bool.not_true, Bool.not_false, List.cons_append, List.nil_append, plen, md_i t1, hk, hx, fd, t22, fd_i (i := c) (j := 7) (by decide) (by decide), hho, md_i xl, hi, hodd, hput, if_len (l3 _ _ _), hwith, ← setP g]
      rfl
  · have t22 : decide ((way : Int) < 22) = false := decide_eq_false (by omega)
    have q0 := Int.emod_nonneg (c / 7) (b := 8) (by decide)
    have q1 := Int.emod_lt_of_pos (c / 7) (b := 8) (by decide)
    have r0 := Int.emod_nonneg (c / 7) (b := 4) (by decide)
    have r1 := Int.emod_lt_of_pos (c / 7) (b := 4) (by decide)
    have f7 := fd_i (i := c) (j := 7) (by decide) (by decide)
    have psok : ∀ (ws : List Str), (∀ z ∈ ws, PyData.strOk z = true ∧ z.length ≤ 1000) → ∀ z ∈ f.h.ps ++ ws, PyData.strOk z = true ∧ z.length ≤ 1000 := fun ws hw z hz => (List.mem_append.mp hz).elim (fo.ps z) (hw z)
    have addp : ∀ ws : List Str, ws.length ≤ 100 → opD .Add (.tup (f.h.ps.map .str)) (.tup (ws.map .str)) = .ok (false, .tup ((f.h.ps ++ ws).map .str)) := fun ws hw => by
      rw [add_t (by simp; omega), List.map_append]
    -- another function in its place
    have fin : ∀ g : Fn, g.Ok → fnB (cnts ((P.map Fu.fn).set k g)) g = false → ∀ r : Rr, r = callN pg (n + 29) "_law_with" [.tup (P.map Fu.d), .int k, g.d] → ∃ fs : List Fn, (∀ f ∈ fs, f.Ok) ∧ fs.length ≤ 1000 ∧ goodB fs = false ∧ r = .ok (false, .tup (fs.map Fn.d)) := fun g gok gno r er => ⟨(P.map Fu.fn).set k g, setOk g gok, setL g, good_no (gin g) gno, by rw [er, hwith, setP g]⟩
    have ways : (way : Int) = 22 ∨ (way : Int) = 23 ∨ (way : Int) = 24 ∨ (way : Int) = 25 ∨ (way : Int) = 26 ∨ (way : Int) = 27 ∨ (way : Int) = 28 := by omega
    generalize (way : Int) = wi at *
    rcases ways with rfl | rfl | rfl | rfl | rfl | rfl | rfl
    · -- a name twice
      let g : Fn := ⟨f.h.nm, [], vI 0⟩
      have gok : g.Ok := ⟨fo.nm, fo.nl, fun z hz => (by cases hz), Nat.zero_le _, tr2 (tr_s _ tags_ok.1) (tr_int 0), by show wt (vI 0) ≤ 1000000; decide⟩
      refine ⟨P.map Fu.fn ++ [g], fun x hx => (List.mem_append.mp hx).elim (Lok x) fun q => (by simp at q; rw [q]; exact gok), by simp; omega, ?_, ?_⟩
      · unfold goodB
        have nd : ¬ ((P.map Fu.fn ++ [g]).map (·.nm)).Nodup := fun nd => by
          rw [List.map_append, List.nodup_append] at nd
          exact nd.2.2 f.h.nm (List.mem_map.mpr ⟨f.fn, List.mem_map_of_mem (f := Fu.fn) (hf ▸ fm), rfl⟩) f.h.nm (by simp [g]) rfl
        rw [decide_eq_false nd]
        simp
      · have e : opD .Add (.tup (P.map Fu.d)) (.tup [.tup [.str f.h.nm, .tup [], .tup [.str "value", .int 0]]]) = .ok (false, .tup ((P.map Fu.fn ++ [g]).map Fn.d)) := by
          rw [add_t (by simp; omega), List.map_append, ← fu_d]
          rfl
        simp only [↓reduceIte, Bool.false_eq_true, bo, bex, so, sex, obk, ik, okf, tst, blk, blo, nok, tru_bl, tru_int, tru_tup, tru_lst, add_i, sub_i, neg_i, len_t, len_l, tpl_l, tpl_t, lst_l, lst_t, int_b, cm_eq, cm_ne, cm_lt, cm_le, cm_gt, cm_ge, cm_in, cm_nin, cm_is, cm_isn, it_0, it_1, it_2, sl_1, tup2_e, tup3_e, iw_l, iw_t, id_l, id_t, isi_tt, isi_ti, isi_bb, ifT, ifF, mt2_2, mt3_3, mt4_4, mtA3_3, tb_fl, tb_gok, Bool.not_true, Bool.not_false, List.cons_append, List.nil_append, plen, md_i t1, hk, hx, fd, t22, f7, eq, e, Int.reduceEq, decide_true, decide_false]
    · exact ⟨[], fun x hx => (by cases hx), by simp, by rfl, by simp only [↓reduceIte, Bool.false_eq_true, bo, bex, so, sex, obk, ik, okf, tst, blk, blo, nok, tru_bl, tru_int, tru_tup, tru_lst, add_i, sub_i, neg_i, len_t, len_l, tpl_l, tpl_t, lst_l, lst_t, int_b, cm_eq, cm_ne, cm_lt, cm_le, cm_gt, cm_ge, cm_in, cm_nin, cm_is, cm_isn, it_0, it_1, it_2, sl_1, tup2_e, tup3_e, iw_l, iw_t, id_l, id_t, isi_tt, isi_ti, isi_bb, ifT, ifF, mt2_2, mt3_3, mt4_4, mtA3_3, tb_fl, tb_gok, Bool.not_true, Bool.not_false, List.cons_append, List.nil_append, plen, md_i t1, hk, hx, fd, t22, f7, eq, Int.reduceEq, decide_true, decide_false]; rfl⟩
    · obtain ⟨w, hw1, hw2⟩ := it_strs H hh hP ok (ws := badN) (m := 8) rfl q0 q1
      obtain ⟨b1, b2, b3⟩ := badN_no w (List.mem_append_left _ hw1)
      simp only [badN, List.map_cons, List.map_nil] at hw2
      refine fin ⟨w, f.h.ps, f.e.d⟩ ⟨b2, b3, fo.ps, fo.pl, fo.bd, fo.bw⟩ (fn_nm b1) _ ?_
      simp only [↓reduceIte, Bool.false_eq_true, bo, bex, so, sex, obk, ik, okf, tst, blk, blo, nok, tru_bl, tru_int, tru_tup, tru_lst, add_i, sub_i, neg_i, len_t, len_l, tpl_l, tpl_t, lst_l, lst_t, int_b, cm_eq, cm_ne, cm_lt, cm_le, cm_gt, cm_ge, cm_in, cm_nin, cm_is, cm_isn, it_0, it_1, it_2, sl_1, tup2_e, tup3_e, iw_l, iw_t, id_l, id_t, isi_tt, isi_ti, isi_bb, ifT, ifF, mt2_2, mt3_3, mt4_4, mtA3_3, tb_fl, tb_gok, Bool.not_true, Bool.not_false, List.cons_append, List.nil_append, plen, md_i t1, hk, hx, fd, t22, f7, eq, Int.reduceEq, decide_true, decide_false, md_i (i := c / 7) (j := 8) (by decide), hw2, if_len (l3 _ _ _)]
      rfl
    · refine fin ⟨f.h.nm, f.h.ps ++ (["ya", "yb", "yc", "yd", "ye", "yf", "yg"] : List Str), f.e.d⟩ ⟨fo.nm, fo.nl, psok _ ya_ok, by simp; omega, fo.bd, fo.bw⟩ (fn_pl (by simp)) _ ?_
      have e := addp ["ya", "yb", "yc", "yd", "ye", "yf", "yg"] (by simp)
      simp only [List.map_cons, List.map_nil] at e
      simp only [↓reduceIte, Bool.false_eq_true, bo, bex, so, sex, obk, ik, okf, tst, blk, blo, nok, tru_bl, tru_int, tru_tup, tru_lst, add_i, sub_i, neg_i, len_t, len_l, tpl_l, tpl_t, lst_l, lst_t, int_b, cm_eq, cm_ne, cm_lt, cm_le, cm_gt, cm_ge, cm_in, cm_nin, cm_is, cm_isn, it_0, it_1, it_2, sl_1, tup2_e, tup3_e, iw_l, iw_t, id_l, id_t, isi_tt, isi_ti, isi_bb, ifT, ifF, mt2_2, mt3_3, mt4_4, mtA3_3, tb_fl, tb_gok, Bool.not_true, Bool.not_false, List.cons_append, List.nil_append, plen, md_i t1, hk, hx, fd, t22, f7, eq, Int.reduceEq, decide_true, decide_false, e, if_len (l3 _ _ _)]
      rfl
    · refine fin ⟨f.h.nm, f.h.ps ++ (["ya", "ya"] : List Str), f.e.d⟩ ⟨fo.nm, fo.nl, psok _ (by decide +kernel), by simp; omega, fo.bd, fo.bw⟩ (fn_nd fun nd => ?_) _ ?_
      · rw [List.nodup_append] at nd
        exact absurd nd.2.1 (by decide +kernel)
      have e := addp ["ya", "ya"] (by simp)
      simp only [List.map_cons, List.map_nil] at e
      simp only [↓reduceIte, Bool.false_eq_true, bo, bex, so, sex, obk, ik, okf, tst, blk, blo, nok, tru_bl, tru_int, tru_tup, tru_lst, add_i, sub_i, neg_i, len_t, len_l, tpl_l, tpl_t, lst_l, lst_t, int_b, cm_eq, cm_ne, cm_lt, cm_le, cm_gt, cm_ge, cm_in, cm_nin, cm_is, cm_isn, it_0, it_1, it_2, sl_1, tup2_e, tup3_e, iw_l, iw_t, id_l, id_t, isi_tt, isi_ti, isi_bb, ifT, ifF, mt2_2, mt3_3, mt4_4, mtA3_3, tb_fl, tb_gok, Bool.not_true, Bool.not_false, List.cons_append, List.nil_append, plen, md_i t1, hk, hx, fd, t22, f7, eq, Int.reduceEq, decide_true, decide_false, e, if_len (l3 _ _ _)]
      rfl
    · obtain ⟨w, hw1, hw2⟩ := it_strs H hh hP ok (ws := badP) (m := 4) rfl r0 r1
      obtain ⟨b1, b2, b3⟩ := badN_no w (List.mem_append_right _ hw1)
      simp only [badP, List.map_cons, List.map_nil] at hw2
      refine fin ⟨f.h.nm, f.h.ps ++ [w], f.e.d⟩ ⟨fo.nm, fo.nl, psok _ (by simp; exact ⟨b2, b3⟩), by simp; omega, fo.bd, fo.bw⟩ (fn_ps (z := w) (by simp) b1) _ ?_
      have e := addp [w] (by simp)
      simp only [List.map_cons, List.map_nil] at e
      have l1 : ∀ a : D, ([a] : List D).length ≤ 1000000 := fun _ => by simp
      simp only [↓reduceIte, Bool.false_eq_true, bo, bex, so, sex, obk, ik, okf, tst, blk, blo, nok, tru_bl, tru_int, tru_tup, tru_lst, add_i, sub_i, neg_i, len_t, len_l, tpl_l, tpl_t, lst_l, lst_t, int_b, cm_eq, cm_ne, cm_lt, cm_le, cm_gt, cm_ge, cm_in, cm_nin, cm_is, cm_isn, it_0, it_1, it_2, sl_1, tup2_e, tup3_e, iw_l, iw_t, id_l, id_t, isi_tt, isi_ti, isi_bb, ifT, ifF, mt2_2, mt3_3, mt4_4, mtA3_3, tb_fl, tb_gok, Bool.not_true, Bool.not_false, List.cons_append, List.nil_append, plen, md_i t1, hk, hx, fd, t22, f7, eq, Int.reduceEq, decide_true, decide_false, md_i (i := c / 7) (j := 4) (by decide), hw2, if_len (l3 _ _ _), if_len (l1 _), e]
      rfl
    · have d21 := v_deep21 H (n := n + 28)
      refine fin ⟨f.h.nm, f.h.ps, deepD 21⟩ ⟨fo.nm, fo.nl, fo.ps, fo.pl, deep_tr.2, by have := deep_wt.2; show wt (deepD 21) ≤ 1000000; omega⟩ (fn_bd (deep21_no _ _)) _ ?_
      generalize deepD 21 = dd at *
      simp only [↓reduceIte, Bool.false_eq_true, bo, bex, so, sex, obk, ik, okf, tst, blk, blo, nok, tru_bl, tru_int, tru_tup, tru_lst, add_i, sub_i, neg_i, len_t, len_l, tpl_l, tpl_t, lst_l, lst_t, int_b, cm_eq, cm_ne, cm_lt, cm_le, cm_gt, cm_ge, cm_in, cm_nin, cm_is, cm_isn, it_0, it_1, it_2, sl_1, tup2_e, tup3_e, iw_l, iw_t, id_l, id_t, isi_tt, isi_ti, isi_bb, ifT, ifF, mt2_2, mt3_3, mt4_4, mtA3_3, tb_fl, tb_gok, Bool.not_true, Bool.not_false, List.cons_append, List.nil_append, plen, md_i t1, hk, hx, fd, t22, f7, eq, Int.reduceEq, decide_true, decide_false, d21, if_len (l3 _ _ _)]
      rfl
end

end Kv

namespace Kv
open PySem PySem.Spec PyProof.Rows L2 Hf
set_option autoImplicit false
/-! ### k03: is_name -/
def LW : List Str := ["plus", "minus", "times", "over", "less", "same", "join", "first", "rest", "empty", "down", "list"]
def LW3 : List Str := ["if", "refuse", ""]
def lnB (z : Str) : Bool := !((LW.any fun w => isS (.str z) w) || ((LW3.any fun w => isS (.str z) w) || (decide (8 < z.length) || inT FIG (z.cps.getD 0 0)))) && z.cps.toList.all fun c => inT SGN c
theorem LW_ok : ∀ z ∈ LW ++ LW3, PyData.strOk z = true := by decide +kernel
theorem inD_c (y : Str) (c : Nat) : inD (.str ⟨#[c]⟩) (.str y) = .ok (inT y c) := rfl
def T14 : List Str := ["plus", "rest", "if", "refuse", "", "ab9", "abcdefgh", "abcdefghi", "9a", "a_b", "listx", "ifs", "a", "refuses"]
def S17 : Str := "abz059{`@/: AZ-_."
def txAt (size place : Int) (s : Nat) : Str := (repS "a" place ++ ⟨#[S17.cps.getD s 0]⟩) ++ repS "a" (size - 1 - place)
def txOk (t : Str) : Bool := nameB t == lnB t && PyData.strOk t && decide (t.length ≤ 100)
theorem T14_ok : ∀ t ∈ T14, txOk t = true := by decide +kernel
theorem tx_ok : ∀ size : Fin 10, ∀ place : Fin 10, ∀ s : Fin 17, place.val < size.val → txOk (txAt (size.val : Nat) (place.val : Nat) s.val) = true := by decide +kernel

end Kv

namespace Kv
open PySem PySem.Spec PyProof.Rows L2 Hf
set_option autoImplicit false
section
variable {pg : Pg} (H : HasK3 pg)
include H
theorem in_strs (z : Str) (hz : PyData.strOk z = true) (ws : List Str) (hw : ∀ w ∈ ws, PyData.strOk w = true) : inD (.str z) (.lst (ws.map .str)) = .ok (ws.any fun w => isS (.str z) w) := inS_strs (tr_s z hz) hw
theorem in_strs_t (z : Str) (hz : PyData.strOk z = true) (ws : List Str) (hw : ∀ w ∈ ws, PyData.strOk w = true) : inD (.str z) (.tup (ws.map .str)) = .ok (ws.any fun w => isS (.str z) w) := inS_strs (tr_s z hz) hw
theorem v_law_is_name {n : Nat} {z : Str} (hz : PyData.strOk z = true) (hl : z.length ≤ 100) : callN pg (n + 1) "_law_is_name" [.str z] = .ok (false, .bl (lnB z)) := by
  rw [S__law_is_name H.l__law_is_name]
  have i1 := in_strs H z hz LW (fun w h => LW_ok w (List.mem_append_left _ h))
  have i2 := in_strs_t H z hz LW3 (fun w h => LW_ok w (List.mem_append_right _ h))
  simp only [LW, List.map_cons, List.map_nil] at i1
  simp only [LW3, List.map_cons, List.map_nil] at i2
  have hlen : biD .len (.str z) = .ok (false, .int z.length) := len_s (by omega)
  have hgt : decide ((8 : Int) < (z.length : Int)) = decide (8 < z.length) := decide_eq_decide.mpr (by omega)
  have hiw : itemsW (.str z) = .ok (z.cps.toList.map fun c => D.str ⟨#[c]⟩) := by
    simp only [itemsW]
    rw [if_pos (by rw [sizeLine_eq]; omega)]
  have e : lnB z = (!((LW.any fun w => isS (.str z) w) || ((LW3.any fun w => isS (.str z) w) || (decide (8 < z.length) || inT FIG (z.cps.getD 0 0)))) && z.cps.toList.all fun c => inT SGN c) := rfl
  cases b1 : LW.any fun w => isS (.str z) w with
  | true =>
    simp only [LW] at b1
    rw [b1] at i1
    simp only [↓reduceIte, Bool.false_eq_true, bo, bex, so, sex, obk, ik, okf, tst, blk, blo, nok, tru_bl, tru_int, tru_tup, tru_lst, add_i, sub_i, neg_i, len_t, len_l, tpl_l, tpl_t, lst_l, lst_t, int_b, cm_eq, cm_ne, cm_lt, cm_le, cm_gt, cm_ge, cm_in, cm_nin, cm_is, cm_isn, it_0, it_1, it_2, sl_1, tup2_e, tup3_e, iw_l, iw_t, id_l, id_t, isi_tt, isi_ti, isi_bb, ifT, ifF, mt2_2, mt3_3, mt4_4, mtA3_3, tb_fl, tb_gok, Bool.not_true, Bool.not_false, List.cons_append, List.nil_append, i1]
    rw [e, show (LW.any fun w => isS (.str z) w) = true from b1]
    simp
  | false =>
    cases b2 : LW3.any fun w => isS (.str z) w with
    | true =>
      simp only [LW] at b1
      simp only [LW3] at b2
      rw [b1] at i1
      rw [b2] at i2
      simp only [↓reduceIte, Bool.false_eq_true, bo, bex, so, sex, obk, ik, okf, tst, blk, blo, nok, tru_bl, tru_int, tru_tup, tru_lst, add_i, sub_i, neg_i, len_t, len_l, tpl_l, tpl_t, lst_l, lst_t, int_b, cm_eq, cm_ne, cm_lt, cm_le, cm_gt, cm_ge, cm_in, cm_nin, cm_is, cm_isn, it_0, it_1, it_2, sl_1, tup2_e, tup3_e, iw_l, iw_t, id_l, id_t, isi_tt, isi_ti, isi_bb, ifT, ifF, mt2_2, mt3_3, mt4_4, mtA3_3, tb_fl, tb_gok, Bool.not_true, Bool.not_false, List.cons_append, List.nil_append, i1, i2]
      rw [e, show (LW.any fun w => isS (.str z) w) = false from b1, show (LW3.any fun w => isS (.str z) w) = true from b2]
      simp
    | false =>
      have hne : z ≠ "" := fun q => by
        have : (LW3.any fun w => isS (.str z) w) = true := by rw [q]; decide +kernel
        rw [this] at b2
        cases b2
      have hpos : 0 < z.length := by
        rcases Nat.eq_zero_or_pos z.length with q | q
        · exact absurd (show z = "" from by
            obtain ⟨cps⟩ := z
            have : cps = #[] := Array.eq_empty_of_size_eq_zero q
            rw [this]
            rfl) hne
        · exact q
      simp only [LW] at b1
      simp only [LW3] at b2
      rw [b1] at i1
      rw [b2] at i2
      have h0 : idxD (.str z) (.int 0) = .ok (false, .str ⟨#[z.cps.getD 0 0]⟩) := by
        have q : 0 < z.cps.size := hpos
        have : atI z.cps.toList 0 = some (z.cps.getD 0 0) := by simp [atI, ixN, Array.getD, q]
        simp only [idxD]
        rw [if_pos (by rw [sizeLine_eq]; omega), this]
        rfl
      have hcomp : compL (fun z7 => noX (((inD z7 (.str "abcdefghijklmnopqrstuvwxyz0123456789")).bind fun c => .ok (!c)).bind fun t8 => if t8 = true then Res.ok (some z7) else .ok none)) (z.cps.toList.map fun c => D.str ⟨#[c]⟩) = .ok ((z.cps.toList.filterMap fun c => if inT SGN c = true then none else some c).map fun c => D.str ⟨#[c]⟩) := by
        refine compL_fm2 fun c _ => ?_
        have ic : inD (.str ⟨#[c]⟩) (.str "abcdefghijklmnopqrstuvwxyz0123456789") = .ok (inT SGN c) := rfl
        simp only [↓reduceIte, Bool.false_eq_true, bo, bex, so, sex, obk, ik, okf, tst, blk, blo, nok, tru_bl, tru_int, tru_tup, tru_lst, add_i, sub_i, neg_i, len_t, len_l, tpl_l, tpl_t, lst_l, lst_t, int_b, cm_eq, cm_ne, cm_lt, cm_le, cm_gt, cm_ge, cm_in, cm_nin, cm_is, cm_isn, it_0, it_1, it_2, sl_1, tup2_e, tup3_e, iw_l, iw_t, id_l, id_t, isi_tt, isi_ti, isi_bb, ifT, ifF, mt2_2, mt3_3, mt4_4, mtA3_3, tb_fl, tb_gok, Bool.not_true, Bool.not_false, List.cons_append, List.nil_append, ic]
        cases inT SGN c <;> rfl
      have hll : (z.cps.toList.map fun c => D.str ⟨#[c]⟩).length ≤ 1000000 := by
        rw [List.length_map, Array.length_toList]
        show z.length ≤ _
        omega
      have h0c : inD (.str ⟨#[z.cps.getD 0 0]⟩) (.str "0123456789") = .ok (inT FIG (z.cps.getD 0 0)) := rfl
      have hcnt : decide (((((z.cps.toList.filterMap fun c => if inT SGN c = true then none else some c).map fun c => D.str ⟨#[c]⟩).length : Nat) : Int) = 0) = z.cps.toList.all fun c => inT SGN c := by
        rw [List.length_map]
        rw [Bool.eq_iff_iff, decide_eq_true_eq, List.all_eq_true]
        constructor
        · intro q c hc
          have : (z.cps.toList.filterMap fun c => if inT SGN c = true then none else some c) = [] := List.length_eq_zero_iff.mp (by omega)
          have := List.filterMap_eq_nil_iff.mp this c hc
          cases k : inT SGN c with
          | true => rfl
          | false => rw [k] at this; simp at this
        · intro q
          have : (z.cps.toList.filterMap fun c => if inT SGN c = true then none else some c) = [] := List.filterMap_eq_nil_iff.mpr fun c hc => by rw [q c hc]; rfl
          rw [this]
          rfl
      have eqz := fun i => eqI i 0
      rw [e, show (LW.any fun w => isS (.str z) w) = false from b1, show (LW3.any fun w => isS (.str z) w) = false from b2]
      generalize hC : (z.cps.toList.all fun c => inT SGN c) = C at *
      generalize z.cps.getD 0 0 = c0 at *
      generalize ((z.cps.toList.filterMap fun c => if inT SGN c = true then none else some c).map fun c => D.str ⟨#[c]⟩) = ys at *
      cases b3 : decide (8 < z.length) with
      | true =>
        rw [b3] at hgt
        simp only [↓reduceIte, Bool.false_eq_true, bo, bex, so, sex, obk, ik, okf, tst, blk, blo, nok, tru_bl, tru_int, tru_tup, tru_lst, add_i, sub_i, neg_i, len_t, len_l, tpl_l, tpl_t, lst_l, lst_t, int_b, cm_eq, cm_ne, cm_lt, cm_le, cm_gt, cm_ge, cm_in, cm_nin, cm_is, cm_isn, it_0, it_1, it_2, sl_1, tup2_e, tup3_e, iw_l, iw_t, id_l, id_t, isi_tt, isi_ti, isi_bb, ifT, ifF, mt2_2, mt3_3, mt4_4, mtA3_3, tb_fl, tb_gok, Bool.not_true, Bool.not_false, List.cons_append, List.nil_append, i1, i2, hlen, hgt, Bool.false_or, Bool.true_or, Bool.false_and]
      | false =>
        rw [b3] at hgt
        cases b4 : inT FIG c0 with
        | true =>
          rw [b4] at h0c
          simp only [↓reduceIte, Bool.false_eq_true, bo, bex, so, sex, obk, ik, okf, tst, blk, blo, nok, tru_bl, tru_int, tru_tup, tru_lst, add_i, sub_i, neg_i, len_t, len_l, tpl_l, tpl_t, lst_l, lst_t, int_b, cm_eq, cm_ne, cm_lt, cm_le, cm_gt, cm_ge, cm_in, cm_nin, cm_is, cm_isn, it_0, it_1, it_2, sl_1, tup2_e, tup3_e, iw_l, iw_t, id_l, id_t, isi_tt, isi_ti, isi_bb, ifT, ifF, mt2_2, mt3_3, mt4_4, mtA3_3, tb_fl, tb_gok, Bool.not_true, Bool.not_false, List.cons_append, List.nil_append, i1, i2, hlen, hgt, h0, h0c, Bool.false_or, Bool.true_or, Bool.false_and]
        | false =>
          rw [b4] at h0c
          simp only [↓reduceIte, Bool.false_eq_true, bo, bex, so, sex, obk, ik, okf, tst, blk, blo, nok, tru_bl, tru_int, tru_tup, tru_lst, add_i, sub_i, neg_i, len_t, len_l, tpl_l, tpl_t, lst_l, lst_t, int_b, cm_eq, cm_ne, cm_lt, cm_le, cm_gt, cm_ge, cm_in, cm_nin, cm_is, cm_isn, it_0, it_1, it_2, sl_1, tup2_e, tup3_e, iw_l, iw_t, id_l, id_t, isi_tt, isi_ti, isi_bb, ifT, ifF, mt2_2, mt3_3, mt4_4, mtA3_3, tb_fl, tb_gok, Bool.not_true, Bool.not_false, List.cons_append, List.nil_append, i1, i2, hlen, hgt, h0, h0c, Bool.false_or, Bool.true_and, hiw, if_len hll, hcomp, eqz, hcnt]
theorem v_text {n : Nat} (c : Int) : ∃ t : Str, txOk t = true ∧ callN pg (n + 1) "_law_text" [.int c] = .ok (false, .str t) := by
  rw [S__law_text H.l__law_text]
  have ha : opD .Add (.lst [.str "plus", .str "rest", .str "if", .str "refuse", .str "", .str "ab9", .str "abcdefgh", .str "abcdefghi"]) (.lst [.str "9a", .str "a_b", .str "listx", .str "ifs", .str "a", .str "refuses"]) = .ok (true, .lst (T14.map .str)) := by
    rw [add_l (by simp)]
    rfl
  have m2 := md_i (i := c) (j := 2) (by decide)
  have f2 := fd_i (i := c) (j := 2) (by decide) (by decide)
  have eq := eqI (c % 2) 0
  have a0 := Int.emod_nonneg (c / 2) (b := 14) (by decide)
  have a1 := Int.emod_lt_of_pos (c / 2) (b := 14) (by decide)
  by_cases q : c % 2 = 0
  · rw [decide_eq_true q] at eq
    obtain ⟨k, hk⟩ : ∃ k : Nat, c / 2 % 14 = k := ⟨(c / 2 % 14).toNat, by omega⟩
    have hk2 : k < T14.length := by show k < 14; omega
    refine ⟨T14[k], T14_ok _ (List.getElem_mem _), ?_⟩
    have hx : idxD (.lst (T14.map .str)) (.int k) = .ok (false, .str T14[k]) := by
      rw [il_n (by simpa using hk2)]
      simp
    generalize T14.map D.str = ts at *
    simp only [↓reduceIte, Bool.false_eq_true, bo, bex, so, sex, obk, ik, okf, tst, blk, blo, nok, tru_bl, tru_int, tru_tup, tru_lst, add_i, sub_i, neg_i, len_t, len_l, tpl_l, tpl_t, lst_l, lst_t, int_b, cm_eq, cm_ne, cm_lt, cm_le, cm_gt, cm_ge, cm_in, cm_nin, cm_is, cm_isn, it_0, it_1, it_2, sl_1, tup2_e, tup3_e, iw_l, iw_t, id_l, id_t, isi_tt, isi_ti, isi_bb, ifT, ifF, mt2_2, mt3_3, mt4_4, mtA3_3, tb_fl, tb_gok, Bool.not_true, Bool.not_false, List.cons_append, List.nil_append, ha, m2, eq, f2, md_i (i := c / 2) (j := 14) (by decide), hk, hx]
  · rw [decide_eq_false q] at eq
    have b0 := Int.emod_nonneg (c / 2) (b := 9) (by decide)
    have b1 := Int.emod_lt_of_pos (c / 2) (b := 9) (by decide)
    obtain ⟨size, hs⟩ : ∃ size : Nat, 1 + c / 2 % 9 = size := ⟨(1 + c / 2 % 9).toNat, by omega⟩
    have s1 : (0 : Int) < (size : Int) := by omega
    have c0 := Int.emod_nonneg (c / 18) (b := 17) (by decide)
    have c1 := Int.emod_lt_of_pos (c / 18) (b := 17) (by decide)
    obtain ⟨s, hs2⟩ : ∃ s : Nat, c / 18 % 17 = s := ⟨(c / 18 % 17).toNat, by omega⟩
    have d0 := Int.emod_nonneg (c / 306) (b := (size : Int)) (by omega)
    have d1 := Int.emod_lt_of_pos (c / 306) s1
    obtain ⟨place, hp⟩ : ∃ place : Nat, c / 306 % (size : Int) = place := ⟨(c / 306 % (size : Int)).toNat, by omega⟩
    refine ⟨txAt size place s, tx_ok ⟨size, by omega⟩ ⟨place, by omega⟩ ⟨s, by omega⟩ (by simp only []; omega), ?_⟩
    have hx : idxD (.str "abz059{`@/: AZ-_.") (.int s) = .ok (false, .str ⟨#[S17.cps.getD s 0]⟩) := by
      have : ∀ i : Fin 17, idxD (.str S17) (.int (i.val : Nat)) = .ok (false, .str ⟨#[S17.cps.getD i.val 0]⟩) := fun i => by
        have a : atI S17.cps.toList ((i.val : Nat) : Int) = some (S17.cps.getD i.val 0) := by
          have : ∀ i : Fin 17, atI S17.cps.toList ((i.val : Nat) : Int) = some (S17.cps.getD i.val 0) := by decide +kernel
          exact this i
        simp only [idxD]
        rw [if_pos (by rw [sizeLine_eq]; decide), a]
        rfl
      exact this ⟨s, by omega⟩
    have rl : ∀ k : Int, 0 ≤ k → k ≤ 9 → (repS "a" k).length ≤ 9 ∧ opD .Mult (.str "a") (.int k) = .ok (false, .str (repS "a" k)) := fun k k0 k9 => by
      have : ∀ i : Fin 10, (repS "a" (i.val : Nat)).length ≤ 9 := by decide +kernel
      obtain ⟨i, rfl⟩ : ∃ i : Nat, k = i := ⟨k.toNat, by omega⟩
      refine ⟨this ⟨i, by omega⟩, ?_⟩
      simp only [opD]
      rw [if_pos ⟨by omega, by omega, by decide⟩]
      rfl
    obtain ⟨p1, p2⟩ := rl place (by omega) (by omega)
    obtain ⟨p3, p4⟩ := rl ((size : Int) - 1 - (place : Int)) (by omega) (by omega)
    unfold txAt
    have sl1 : ∀ x : Nat, (⟨#[x]⟩ : Str).length = 1 := fun _ => rfl
    have a1 : opD .Add (.str (repS "a" (place : Int))) (.str ⟨#[S17.cps.getD s 0]⟩) = .ok (false, .str (repS "a" (place : Int) ++ ⟨#[S17.cps.getD s 0]⟩)) := add_s (by rw [sl1]; omega)
    have a2 : opD .Add (.str (repS "a" (place : Int) ++ ⟨#[S17.cps.getD s 0]⟩)) (.str (repS "a" ((size : Int) - 1 - (place : Int)))) = .ok (false, .str ((repS "a" (place : Int) ++ ⟨#[S17.cps.getD s 0]⟩) ++ repS "a" ((size : Int) - 1 - (place : Int)))) := add_s (by rw [str_app_len, sl1]; omega)
    generalize repS "a" (place : Int) = r1 at *
    generalize repS "a" ((size : Int) - 1 - (place : Int)) = r2 at *
    generalize S17.cps.getD s 0 = sg at *
    simp only [↓reduceIte, Bool.false_eq_true, bo, bex, so, sex, obk, ik, okf, tst, blk, blo, nok, tru_bl, tru_int, tru_tup, tru_lst, add_i, sub_i, neg_i, len_t, len_l, tpl_l, tpl_t, lst_l, lst_t, int_b, cm_eq, cm_ne, cm_lt, cm_le, cm_gt, cm_ge, cm_in, cm_nin, cm_is, cm_isn, it_0, it_1, it_2, sl_1, tup2_e, tup3_e, iw_l, iw_t, id_l, id_t, isi_tt, isi_ti, isi_bb, ifT, ifF, mt2_2, mt3_3, mt4_4, mtA3_3, tb_fl, tb_gok, Bool.not_true, Bool.not_false, List.cons_append, List.nil_append, ha, m2, eq, f2, md_i (i := c / 2) (j := 9) (by decide), hs, fd_i (i := c) (j := 18) (by decide) (by decide), md_i (i := c / 18) (j := 17) (by decide), hs2, hx, fd_i (i := c) (j := 306) (by decide) (by decide), md_i s1, hp, p2, a1, p4, a2]
end

end Kv

namespace Kv
open PySem PySem.Spec PyProof.Rows L2 Hf
set_option autoImplicit false
/-! ### k03: the sure ones, the law -/
mutual
def trB : D → Bool
  | .non => true
  | .bl _ => true
  | .int _ => true
  | .str x => PyData.strOk x
  | .tup xs => trsB xs
  | _ => false
def trsB : List D → Bool
  | [] => true
  | d :: ds => trB d && trsB ds
end
mutual
theorem tr_of : ∀ (d : D), trB d = true → Tr d
  | .non, _ => .leaf .non
  | .bl _, _ => .leaf (.bl _)
  | .int _, _ => .leaf (.int _)
  | .str _, h => .leaf (.str _ h)
  | .tup xs, h => .tup (trs_of xs h)
  | .lst _, h => by cases h
  | .fn _, h => by cases h
  | .exc _, h => by cases h
  | .dct _ _, h => by cases h
theorem trs_of : ∀ (xs : List D), trsB xs = true → ∀ d ∈ xs, Tr d
  | [], _, d, hd => by cases hd
  | x :: xs, h, d, hd => by
    rw [trsB, Bool.and_eq_true] at h
    rcases List.mem_cons.mp hd with e | hd
    · rw [e]; exact tr_of x h.1
    · exact trs_of xs h.2 d hd
end
def xN : D := .tup [.str "name", .str "x"]
def GOODS : List D := [xN, .tup [.str "refuse", .str "NoList"], deepD 20, .tup [.str "call", .str "a", .tup [xN]], .tup [.str "do", .str "list", .tup (List.replicate 8 xN)], .tup [.str "value", .tup (List.replicate 49 (.int 0))]]
def BADS : List D := [deepD 21, .tup [.str "call", .str "a", .tup []], .tup [.str "call", .str "a", .tup [xN, xN]], .tup [.str "do", .str "list", .tup (List.replicate 9 xN)], .tup [.str "name", .str "y"]] ++ [.tup [.str "value", .tup (List.replicate 50 (.int 0))], .tup [.str "refuse", .str "TooLong"], .tup [.str "call", .str "b", .tup [xN]], .tup [.str "do", .str "plus", .tup [xN]], .tup [.str "if", xN, xN]]
def oneF (b : D) : List Fn := [⟨"a", ["x"], b⟩]
def sureB (b : D) : Bool := trB b && (decide (wt b ≤ 1000000) && (match inD b (.lst GOODS) with | .ok t => t == goodB (oneF b) | _ => false))
theorem sure_all : ∀ b ∈ GOODS ++ BADS, sureB b = true := by decide +kernel
def okFn (f : Fn) : Bool := PyData.strOk f.nm && (decide (f.nm.length ≤ 1000) && (f.ps.all (fun z => PyData.strOk z && decide (z.length ≤ 1000)) && (decide (f.ps.length ≤ 1000) && (trB f.bd && decide (wt f.bd ≤ 1000000)))))
theorem ok_fn {f : Fn} (h : okFn f = true) : f.Ok := by
  simp only [okFn, Bool.and_eq_true, decide_eq_true_eq, List.all_eq_true] at h
  obtain ⟨h1, h2, h3, h4, h5, h6⟩ := h
  exact ⟨h1, h2, h3, h4, tr_of _ h5, h6⟩
theorem one_ok {b : D} (h1 : trB b = true) (h2 : wt b ≤ 1000000) : ∀ f ∈ oneF b, f.Ok := fun f hf => by
  simp [oneF] at hf
  subst hf
  exact ok_fn (by simp only [okFn, h1, decide_eq_true h2]; kernel_rfl)
/-- all that k03 asks of the program -/
structure HasL3 (pg : Pg) : Prop extends HasG pg, HasQ pg, HasK3 pg
section
variable {pg : Pg} (H : HasL3 pg)
include H
theorem good_at {n : Nat} (hn : 74 ≤ n) (fs : List Fn) (h : fs.all okFn = true) (hl : fs.length ≤ 1000) : callN pg n "is_good" [.tup (fs.map Fn.d)] = .ok (false, .bl (goodB fs)) :=
  v_good H.toHasQ hn (fun f hf => ok_fn (List.all_eq_true.mp h f hf)) hl
theorem sure_loop {n : Nat} {x0 x1 : D} {p3 : Bool × D} {b2 : Bool} : ∀ (ds : List D) (y4 : Option (Bool × D)), (∀ b ∈ ds, sureB b = true) → ∃ z4, ∀ kk, lp__law_sure_1 pg (n + 74) ds (en_lp__law_sure_1 x0 x1 (b2, .lst GOODS) p3 y4) kk = kk (en_lp__law_sure_1 x0 x1 (b2, .lst GOODS) p3 z4)
  | [], y4, _ => ⟨y4, fun kk => by rw [lp__law_sure_1_nil]⟩
  | d :: ds, y4, h => by
    obtain ⟨z4, ih⟩ := sure_loop (n := n) (x0 := x0) (x1 := x1) (p3 := p3) (b2 := b2) ds (some (false, d)) fun b hb => h b (List.mem_cons_of_mem _ hb)
    refine ⟨z4, fun kk => ?_⟩
    have hs := h d List.mem_cons_self
    unfold sureB at hs
    rw [Bool.and_eq_true, Bool.and_eq_true, decide_eq_true_eq] at hs
    obtain ⟨h1, h2, h3⟩ := hs
    obtain ⟨t, ht, hg⟩ : ∃ t, inD d (.lst GOODS) = .ok t ∧ t = goodB (oneF d) := by
      cases q : inD d (.lst GOODS) with
      | ok t => rw [q] at h3; exact ⟨t, rfl, by simpa using h3⟩
      | exc c => rw [q] at h3; cases h3
      | fail => rw [q] at h3; cases h3
    have hv := v_good H.toHasQ (n := n + 74) (by omega) (one_ok h1 h2) (by simp [oneF])
    rw [← hg] at hv
    have e : (oneF d).map Fn.d = [.tup [.str "a", .tup [.str "x"], d]] := rfl
    rw [e] at hv
    have eb := eq_bl t t
    rw [decide_eq_true rfl] at eb
    rw [lp__law_sure_1_cons]
    simp only [↓reduceIte, Bool.false_eq_true, bo, bex, so, sex, obk, ik, okf, tst, blk, blo, nok, tru_bl, tru_int, tru_tup, tru_lst, add_i, sub_i, neg_i, len_t, len_l, tpl_l, tpl_t, lst_l, lst_t, int_b, cm_eq, cm_ne, cm_lt, cm_le, cm_gt, cm_ge, cm_in, cm_nin, cm_is, cm_isn, it_0, it_1, it_2, sl_1, tup2_e, tup3_e, iw_l, iw_t, id_l, id_t, isi_tt, isi_ti, isi_bb, ifT, ifF, mt2_2, mt3_3, mt4_4, mtA3_3, tb_fl, tb_gok, Bool.not_true, Bool.not_false, List.cons_append, List.nil_append, hv, ht, eb]
    exact ih kk
theorem v_sure {n : Nat} : callN pg (n + 75) "_law_sure" [] = .ok (false, .bl true) := by
  rw [S__law_sure H.l__law_sure]
  obtain ⟨z4, hloop⟩ := sure_loop H (n := n) (x0 := xN) (x1 := .tup [.str "refuse", .str "NoList"]) (p3 := (true, .lst BADS)) (b2 := true) (GOODS ++ BADS) none sure_all
  have d20 := v_deep20 H.toHasK3 (n := n + 73)
  have d21 := v_deep21 H.toHasK3 (n := n + 73)
  have a1 : opD .Add (.lst [deepD 21, .tup [.str "call", .str "a", .tup []], .tup [.str "call", .str "a", .tup [.tup [.str "name", .str "x"], .tup [.str "name", .str "x"]]], .tup [.str "do", .str "list", .tup (List.replicate 9 (.tup [.str "name", .str "x"]))], .tup [.str "name", .str "y"]]) (.lst [.tup [.str "value", .tup (List.replicate 50 (.int 0))], .tup [.str "refuse", .str "TooLong"], .tup [.str "call", .str "b", .tup [.tup [.str "name", .str "x"]]], .tup [.str "do", .str "plus", .tup [.tup [.str "name", .str "x"]]], .tup [.str "if", .tup [.str "name", .str "x"], .tup [.str "name", .str "x"]]]) = .ok (true, .lst BADS) := by
    rw [add_l (by simp)]
    rfl
  have g1 : (.lst [.tup [.str "name", .str "x"], .tup [.str "refuse", .str "NoList"], deepD 20, .tup [.str "call", .str "a", .tup [.tup [.str "name", .str "x"]]], .tup [.str "do", .str "list", .tup (List.replicate 8 (.tup [.str "name", .str "x"]))], .tup [.str "value", .tup (List.replicate 49 (.int 0))]] : D) = .lst GOODS := rfl
  have a2 : opD .Add (.lst GOODS) (.lst BADS) = .ok (true, .lst (GOODS ++ BADS)) := add_l (by decide)
  have k1 := good_at H (n := n + 74) (by omega) [⟨"a", ["x", "b", "c", "d", "e", "f"], xN⟩] (by decide +kernel) (by decide)
  have k2 := good_at H (n := n + 74) (by omega) [⟨"a", ["x", "b", "c", "d", "e", "f", "g"], xN⟩] (by decide +kernel) (by decide)
  have k3 := good_at H (n := n + 74) (by omega) [⟨"a", ["x", "x"], xN⟩] (by decide +kernel) (by decide)
  have k4 := good_at H (n := n + 74) (by omega) [⟨"a", ["x"], xN⟩, ⟨"a", [], vI 1⟩] (by decide +kernel) (by decide)
  rw [show goodB [⟨"a", ["x", "b", "c", "d", "e", "f"], xN⟩] = true by decide +kernel] at k1
  rw [show goodB [⟨"a", ["x", "b", "c", "d", "e", "f", "g"], xN⟩] = false by decide +kernel] at k2
  rw [show goodB [⟨"a", ["x", "x"], xN⟩] = false by decide +kernel] at k3
  rw [show goodB [⟨"a", ["x"], xN⟩, ⟨"a", [], vI 1⟩] = false by decide +kernel] at k4
  simp only [Fn.d, List.map_cons, List.map_nil] at k1 k2 k3 k4
  have a3 : opD .Add (.tup [.str "x", .str "b", .str "c", .str "d", .str "e", .str "f"]) (.tup [.str "g"]) = .ok (false, .tup [.str "x", .str "b", .str "c", .str "d", .str "e", .str "f", .str "g"]) := by
    rw [add_t (by simp)]
    rfl
  generalize deepD 20 = dd20 at *
  generalize deepD 21 = dd21 at *
  simp only [↓reduceIte, Bool.false_eq_true, bo, bex, so, sex, obk, ik, okf, tst, blk, blo, nok, tru_bl, tru_int, tru_tup, tru_lst, add_i, sub_i, neg_i, len_t, len_l, tpl_l, tpl_t, lst_l, lst_t, int_b, cm_eq, cm_ne, cm_lt, cm_le, cm_gt, cm_ge, cm_in, cm_nin, cm_is, cm_isn, it_0, it_1, it_2, sl_1, tup2_e, tup3_e, iw_l, iw_t, id_l, id_t, isi_tt, isi_ti, isi_bb, ifT, ifF, mt2_2, mt3_3, mt4_4, mtA3_3, tb_fl, tb_gok, Bool.not_true, Bool.not_false, List.cons_append, List.nil_append, d20, d21, ml_t8, ml_t9, ml_t49, ml_t50, sizeLine_eq, List.length_cons, List.length_nil, Nat.reduceAdd, Nat.reduceLeDiff, a1, g1, a2]
  refine (hloop _).trans ?_
  have es : ∀ (a : Bool × D) (z : Option (Bool × D)), en_lp__law_sure_1 xN (.tup [.str "refuse", .str "NoList"]) (true, .lst GOODS) a z = en_rs__law_sure_2 xN (.tup [.str "refuse", .str "NoList"]) (true, .lst GOODS) a z := fun _ _ => rfl
  rw [es, rs__law_sure_2_eq]
  simp only [↓reduceIte, Bool.false_eq_true, bo, bex, so, sex, obk, ik, okf, tst, blk, blo, nok, tru_bl, tru_int, tru_tup, tru_lst, add_i, sub_i, neg_i, len_t, len_l, tpl_l, tpl_t, lst_l, lst_t, int_b, cm_eq, cm_ne, cm_lt, cm_le, cm_gt, cm_ge, cm_in, cm_nin, cm_is, cm_isn, it_0, it_1, it_2, sl_1, tup2_e, tup3_e, iw_l, iw_t, id_l, id_t, isi_tt, isi_ti, isi_bb, ifT, ifF, mt2_2, mt3_3, mt4_4, mtA3_3, tb_fl, tb_gok, Bool.not_true, Bool.not_false, List.cons_append, List.nil_append, k1, k2, k3, a3, sizeLine_eq, List.length_cons, List.length_nil, Nat.reduceAdd, Nat.reduceLeDiff]
  exact (congrArg (fun r : Rr => (sndR r).bind fun v47 => (D.tru v47).bind fun t48 => Res.ok (false, D.bl (!t48))) k4).trans rfl
end

end Kv

namespace Kv
open PySem PySem.Spec PyProof.Rows L2 Hf
set_option autoImplicit false
/-! ### k03: the law -/
section
variable {pg : Pg} (H : HasL3 pg)
include H
theorem law_end {n : Nat} (ns : List Int) {x1 : D} {b2 b4 t : Bool} {p3 : Bool × D} {fs : List Fn} (hf : ∀ f ∈ fs, f.Ok) (hl : fs.length ≤ 1000) (hg : goodB fs = t) : rs_law_2 pg (n + 100) (en_rs_law_2 (.lst (ns.map D.int)) x1 (b2, .tup (fs.map Fn.d)) p3 (b4, .bl t)) K0 = .ok (false, .bl true) := by
  obtain ⟨c17, hc⟩ := v_cell H.toHasC ns 17
  have hc17 : callN pg (n + 100) "_law_cell_at" [.lst (ns.map D.int), .int 17] = .ok (false, .int c17) := hc (n + 99)
  obtain ⟨tx, htx, ht⟩ := v_text H.toHasK3 (n := n + 99) c17
  simp only [txOk, Bool.and_eq_true, decide_eq_true_eq, beq_iff_eq] at htx
  obtain ⟨⟨h1, h2⟩, h3⟩ := htx
  have hgood := v_good H.toHasQ (n := n + 100) (by omega) hf hl
  rw [hg] at hgood
  have tr1 := v_truth H.toHasK3 (n := n + 99) t t
  rw [decide_eq_true rfl] at tr1
  have hname := v_name H.toHasQ (n := n + 98) h2 (by omega)
  have hlaw := v_law_is_name H.toHasK3 (n := n + 99) h2 h3
  rw [h1] at hname
  have tr2 := v_truth H.toHasK3 (n := n + 99) (lnB tx) (lnB tx)
  rw [decide_eq_true rfl] at tr2
  have k1 := good_at H (n := n + 100) (by omega) [⟨"a", [], .tup [.str "name", .str "b"]⟩] (by decide +kernel) (by decide)
  have k2 := good_at H (n := n + 100) (by omega) [⟨"a", ["b"], .tup [.str "name", .str "b"]⟩] (by decide +kernel) (by decide)
  rw [show goodB [⟨"a", [], .tup [.str "name", .str "b"]⟩] = false by decide +kernel] at k1
  rw [show goodB [⟨"a", ["b"], .tup [.str "name", .str "b"]⟩] = true by decide +kernel] at k2
  simp only [Fn.d, List.map_cons, List.map_nil] at k1 k2
  have step : ∀ (dd : D) (ds : List D) (b5 : Bool) (b2 b4 : Bool) (y6 : Option (Bool × D)) (kk : En → Rr), lp_law_3 pg (n + 100) (dd :: ds) (en_lp_law_3 (.lst (ns.map D.int)) x1 (b2, .tup (fs.map Fn.d)) p3 (b4, .bl t) (b5, .str tx) y6) kk = lp_law_3 pg (n + 100) ds (en_lp_law_3 (.lst (ns.map D.int)) x1 (false, .tup (fs.map Fn.d)) p3 (false, .bl t) (false, .str tx) (some (false, dd))) kk := fun dd ds b5 b2 b4 y6 kk => by
    rw [lp_law_3_cons]
    simp only [↓reduceIte, Bool.false_eq_true, bo, bex, so, sex, obk, ik, okf, tst, blk, blo, nok, tru_bl, tru_int, tru_tup, tru_lst, add_i, sub_i, neg_i, len_t, len_l, tpl_l, tpl_t, lst_l, lst_t, int_b, cm_eq, cm_ne, cm_lt, cm_le, cm_gt, cm_ge, cm_in, cm_nin, cm_is, cm_isn, it_0, it_1, it_2, sl_1, tup2_e, tup3_e, iw_l, iw_t, id_l, id_t, isi_tt, isi_ti, isi_bb, ifT, ifF, mt2_2, mt3_3, mt4_4, mtA3_3, tb_fl, tb_gok, Bool.not_true, Bool.not_false, List.cons_append, List.nil_append, hgood, tr1, hname, hlaw, tr2, k1, k2, decide_true]
  have hr : rngD 0 2 = .ok [.int 0, .int 1] := rng0 2 (by decide)
  have hs := v_sure H (n := n + 25)
  rw [rs_law_2_eq]
  simp only [↓reduceIte, Bool.false_eq_true, bo, bex, so, sex, obk, ik, okf, tst, blk, blo, nok, tru_bl, tru_int, tru_tup, tru_lst, add_i, sub_i, neg_i, len_t, len_l, tpl_l, tpl_t, lst_l, lst_t, int_b, cm_eq, cm_ne, cm_lt, cm_le, cm_gt, cm_ge, cm_in, cm_nin, cm_is, cm_isn, it_0, it_1, it_2, sl_1, tup2_e, tup3_e, iw_l, iw_t, id_l, id_t, isi_tt, isi_ti, isi_bb, ifT, ifF, mt2_2, mt3_3, mt4_4, mtA3_3, tb_fl, tb_gok, Bool.not_true, Bool.not_false, List.cons_append, List.nil_append, hc17, ht, hr, step, lp_law_3_nil]
  exact (rs_law_4_eq _ _ _ _ _ _ _ _).trans hs
theorem law_k03 {n : Nat} (ns : List Int) (hns : ns.length ≤ 63) : callN pg (n + 101) "law" [.lst (ns.map D.int)] = .ok (false, .bl true) := by
  obtain ⟨zs, hs, hh, _, hheads⟩ := v_heads H.toHasG (n := n + 98) ns
  have N := hh.dr.nice
  have hso : ∀ h ∈ hs, ∀ z ∈ h.ps, PyData.strOk z = true := fun h hm z hz => N.ok z (head_ps hh hm z hz)
  obtain ⟨P, hP, ok, hprog⟩ := v_program H.toHasG (n := n + 74) (heads_Hs hh) hso ns (by have := hh.l4; omega)
  obtain ⟨c15, hc⟩ := v_cell H.toHasC ns 15
  have hc15 : callN pg (n + 100) "_law_cell_at" [.lst (ns.map D.int), .int 15] = .ok (false, .int c15) := hc (n + 99)
  obtain ⟨c16, hc⟩ := v_cell H.toHasC ns 16
  have hc16 : callN pg (n + 100) "_law_cell_at" [.lst (ns.map D.int), .int 16] = .ok (false, .int c16) := hc (n + 99)
  have w0 := Int.emod_nonneg c15 (b := 44) (by decide)
  have w1 := Int.emod_lt_of_pos c15 (b := 44) (by decide)
  obtain ⟨way, hway⟩ : ∃ w : Nat, c15 % 44 = w := ⟨(c15 % 44).toNat, by omega⟩
  have m44 := md_i (i := c15) (j := 44) (by decide)
  rw [hway] at m44
  have e29 := eqI (way : Int) 29
  rw [S_law H.l_law]
  have hlen : P.length = hs.length := by rw [← hP, List.length_map]
  have l1 := hh.l1
  have l4 := hh.l4
  have Lok : ∀ g ∈ P.map Fu.fn, g.Ok := fun g hg => by
    obtain ⟨f, hf, rfl⟩ := List.mem_map.mp hg
    exact (fu_ok hh (ok f hf)).1
  by_cases c : way ≤ 28
  · have g28 : decide ((28 : Int) < (way : Int)) = false := decide_eq_false (by omega)
    have n29 : decide ((way : Int) = 29) = false := decide_eq_false (by omega)
    rw [n29] at e29
    obtain ⟨fs, f1, f2, f3, f4⟩ := v_spoilt H.toHasK3 hh hP ok (n := n + 70) c c16
    have fin := law_end H (n := n) ns (x1 := .lst (hs.map Hh.d)) (b2 := false) (b4 := false) (p3 := (false, .int way)) f1 f2 f3
    simp only [↓reduceIte, Bool.false_eq_true, bo, bex, so, sex, obk, ik, okf, tst, blk, blo, nok, tru_bl, tru_int, tru_tup, tru_lst, add_i, sub_i, neg_i, len_t, len_l, tpl_l, tpl_t, lst_l, lst_t, int_b, cm_eq, cm_ne, cm_lt, cm_le, cm_gt, cm_ge, cm_in, cm_nin, cm_is, cm_isn, it_0, it_1, it_2, sl_1, tup2_e, tup3_e, iw_l, iw_t, id_l, id_t, isi_tt, isi_ti, isi_bb, ifT, ifF, mt2_2, mt3_3, mt4_4, mtA3_3, tb_fl, tb_gok, Bool.not_true, Bool.not_false, List.cons_append, List.nil_append, hheads, hprog, hc15, m44, g28, e29, rs_law_1_eq, hc16, f4]
    exact fin
  · have g28 : decide ((28 : Int) < (way : Int)) = true := decide_eq_true (by omega)
    by_cases c29 : way = 29
    · subst c29
      obtain ⟨Q, f, hQ⟩ : ∃ Q f, P = Q ++ [f] := ⟨P.dropLast, P.getLast (by intro e; rw [e] at hlen; simp at hlen; omega), (List.dropLast_concat_getLast _).symm⟩
      have fm : f ∈ P := by rw [hQ]; simp
      obtain ⟨fo, _⟩ := fu_ok hh (ok f fm)
      let g : Fn := ⟨f.h.nm, f.h.ps, deepD 20⟩
      have gok : g.Ok := ⟨fo.nm, fo.nl, fo.ps, fo.pl, deep_tr.1, by have := deep_wt.1; show wt (deepD 20) ≤ 1000000; omega⟩
      have fsok : ∀ x ∈ Q.map Fu.fn ++ [g], x.Ok := fun x hx => (List.mem_append.mp hx).elim (fun h => Lok x (by rw [hQ, List.map_append]; exact List.mem_append_left _ h)) fun h => by
        simp at h
        rw [h]
        exact gok
      have ql : Q.length + 1 = hs.length := by rw [← hlen, hQ]; simp
      have good : goodB (Q.map Fu.fn ++ [g]) = true := by
        have e1 := cnts_fu hP
        have e2 : cnts (Q.map Fu.fn ++ [g]) = cntH hs := by
          rw [← e1, hQ]
          unfold cnts
          simp [g, Fu.fn]
        have e3 := prog_good hh hP ok
        unfold goodB at e3 ⊢
        rw [Bool.and_eq_true, Bool.and_eq_true, decide_eq_true_eq] at e3
        obtain ⟨_, e4, e5⟩ := e3
        have e6 : (Q.map Fu.fn ++ [g]).map (·.nm) = (P.map Fu.fn).map (·.nm) := by rw [hQ]; simp [g, Fu.fn]
        rw [e2, e6, decide_eq_true e4]
        have e7 : (Q.map Fu.fn ++ [g]).isEmpty = false := by simp
        have e8 : (Q.map Fu.fn ++ [g]).all (fnB (cntH hs)) = true := by
          refine List.all_eq_true.mpr fun x hx => ?_
          rcases List.mem_append.mp hx with h | h
          · obtain ⟨y, hy, rfl⟩ := List.mem_map.mp h
            exact fu_good hh (ok y (by rw [hQ]; exact List.mem_append_left _ hy))
          · simp at h
            rw [h]
            have q := fu_good hh (ok f fm)
            unfold fnB at q ⊢
            simp only [Bool.and_eq_true] at q
            have d := deep20_ok f.h.ps (cntH hs)
            show (nameB f.h.nm && (decide (f.h.ps.length ≤ 6) && (f.h.ps.all nameB && (decide f.h.ps.Nodup && bodyB f.h.ps (cntH hs) 20 (deepD 20))))) = true
            rw [d]
            simp only [Bool.and_eq_true]
            exact ⟨q.1, q.2.1, q.2.2.1, q.2.2.2.1, trivial⟩
        rw [e7, e8]
        rfl
      have fin := law_end H (n := n) ns (x1 := .lst (hs.map Hh.d)) (b2 := false) (b4 := false) (p3 := (false, .int (29 : Nat))) fsok (by simp; omega) good
      have d20 := v_deep20 H.toHasK3 (n := n + 99)
      have pd : (P.map Fu.d) = Q.map Fu.d ++ [f.d] := by rw [hQ]; simp
      have sl : slcD (.tup (Q.map Fu.d ++ [f.d])) none (some (-1)) = .ok (false, .tup (Q.map Fu.d)) := by
        have e : HT.sIx (Q.map Fu.d ++ [f.d]).length (Q.map Fu.d ++ [f.d]).length (some (-1)) = (Q.map Fu.d).length := by
          simp [HT.sIx]
          omega
        simp only [slcD, Hf.cutD, e, HT.sIx_none, okF]
        simp
      have la : idxD (.tup (Q.map Fu.d ++ [f.d])) (.int (-1)) = .ok (false, .tup [.str f.h.nm, .tup (f.h.ps.map .str), f.e.d]) := by
        have : atI (Q.map Fu.d ++ [f.d]) (-1) = some f.d := by
          have e : ixN (Q.map Fu.d ++ [f.d]).length (-1) = some (Q.map Fu.d).length := by
            unfold ixN
            rw [if_neg (by decide), if_pos (by simp; omega)]
            congr 1
            simp
            omega
          unfold atI
          rw [e]
          simp
        simp only [idxD, this]
        rfl
      have ad : opD .Add (.tup (Q.map Fu.d)) (.tup [.tup [.str f.h.nm, .tup (f.h.ps.map .str), deepD 20]]) = .ok (false, .tup ((Q.map Fu.fn ++ [g]).map Fn.d)) := by
        rw [add_t (by simp; omega), List.map_append, ← fu_d]
        rfl
      rw [decide_eq_true (show ((29 : Nat) : Int) = 29 from rfl)] at e29
      rw [pd] at hprog
      generalize deepD 20 = dd at *
      have l3 : ∀ a b c : D, ([a, b, c] : List D).length ≤ 1000000 := fun _ _ _ => by simp
      have l1 : ∀ a : D, ([a] : List D).length ≤ 1000000 := fun _ => by simp
      simp only [↓reduceIte, Bool.false_eq_true, bo, bex, so, sex, obk, ik, okf, tst, blk, blo, nok, tru_bl, tru_int, tru_tup, tru_lst, add_i, sub_i, neg_i, len_t, len_l, tpl_l, tpl_t, lst_l, lst_t, int_b, cm_eq, cm_ne, cm_lt, cm_le, cm_gt, cm_ge, cm_in, cm_nin, cm_is, cm_isn, it_0, it_1, it_2, sl_1, tup2_e, tup3_e, iw_l, iw_t, id_l, id_t, isi_tt, isi_ti, isi_bb, ifT, ifF, mt2_2, mt3_3, mt4_4, mtA3_3, tb_fl, tb_gok, Bool.not_true, Bool.not_false, List.cons_append, List.nil_append, hheads, hprog, hc15, m44, g28, e29, sl, la, d20, if_len (l3 _ _ _), if_len (l1 _), ad, rs_law_1_eq]
      exact fin
    · have n29 : decide ((way : Int) = 29) = false := decide_eq_false (by omega)
      rw [n29] at e29
      have fin := law_end H (n := n) ns (x1 := .lst (hs.map Hh.d)) (b2 := false) (b4 := false) (p3 := (false, .int way)) Lok (by simp; omega) (prog_good hh hP ok)
      rw [← fu_d] at fin
      simp only [↓reduceIte, Bool.false_eq_true, bo, bex, so, sex, obk, ik, okf, tst, blk, blo, nok, tru_bl, tru_int, tru_tup, tru_lst, add_i, sub_i, neg_i, len_t, len_l, tpl_l, tpl_t, lst_l, lst_t, int_b, cm_eq, cm_ne, cm_lt, cm_le, cm_gt, cm_ge, cm_in, cm_nin, cm_is, cm_isn, it_0, it_1, it_2, sl_1, tup2_e, tup3_e, iw_l, iw_t, id_l, id_t, isi_tt, isi_ti, isi_bb, ifT, ifF, mt2_2, mt3_3, mt4_4, mtA3_3, tb_fl, tb_gok, Bool.not_true, Bool.not_false, List.cons_append, List.nil_append, hheads, hprog, hc15, m44, g28, e29, rs_law_1_eq]
      exact fin
end

end Kv

namespace K03
open PySem PySem.Spec PyProof.Rows L2 Hf
set_option autoImplicit false
def wf : Nat := 1000000
def c_is_number : Sts :=
    (.cons (.ifs (.or (.val (.isi (.var 0) .bool)) (.not (.val (.isi (.var 0) .int)))) (.cons (.ret (.lit (.bl false)))
    .nil) .nil)
    (.cons (.ret (.chn .Lt .Lt (.neg (.gl "BOUND")) (.var 0) (.gl "BOUND")))
    .nil))
def f_is_number : Df := ⟨["thing"], 1, c_is_number, false⟩
def c_is_value : Sts :=
    (.cons (.set 1 (.lst (.cons (.var 0) .nil)))
    (.cons (.set 2 (.lit (.int 0)))
    (.cons (.whl (.and (.val (.var 1)) (.val (.cmp .LtE (.var 2) (.gl "MOST_WEIGHT")))) (.cons (.pop (.one 3) 1)
    (.cons (.aug 2 .Add (.lit (.int 1)))
    (.cons (.ifs (.val (.isi (.var 3) .tuple)) (.cons (.ext 1 (.var 3))
    .nil) (.cons (.ifs (.not (.val (.call "is_number" (.cons (.var 3) .nil)))) (.cons (.ret (.lit (.bl false)))
    .nil) .nil)
    .nil))
    .nil))))
    (.cons (.ret (.cmp .LtE (.var 2) (.gl "MOST_WEIGHT")))
    .nil))))
def f_is_value : Df := ⟨["thing", "waiting", "weighed", "part"], 1, c_is_value, false⟩
def c_is_operation : Sts :=
    (.cons (.ret (.cmp .In (.var 0) (.gl "TAKEN")))
    .nil)
def f_is_operation : Df := ⟨["text"], 1, c_is_operation, false⟩
def c_takes : Sts :=
    (.cons (.sets (.tup [2, 3]) (.idx (.gl "TAKEN") (.var 0)))
    (.cons (.ret (.chn .LtE .LtE (.var 2) (.var 1) (.var 3)))
    .nil))
def f_takes : Df := ⟨["operation", "many", "fewest", "most"], 2, c_takes, false⟩
def c_is_name : Sts :=
    (.cons (.ifs (.or (.not (.val (.chn .LtE .LtE (.lit (.int 1)) (.bi .len (.var 0)) (.gl "MOST_SIGNS")))) (.val (.cmp .NotIn (.idx (.var 0) (.lit (.int 0))) (.gl "LETTERS")))) (.cons (.ret (.lit (.bl false)))
    .nil) .nil)
    (.cons (.ifs (.or (.val (.call "is_operation" (.cons (.var 0) .nil))) (.val (.cmp .In (.var 0) (.tup (.cons (.lit (.str "if")) (.cons (.lit (.str "refuse")) .nil)))))) (.cons (.ret (.lit (.bl false)))
    .nil) .nil)
    (.cons (.ret (.gen true (.one 1) [1] (.seq (.var 0)) (.or (.cmp .In (.var 1) (.gl "LETTERS")) (.cmp .In (.var 1) (.gl "FIGURES")))))
    .nil)))
def f_is_name : Df := ⟨["text", "sign"], 1, c_is_name, false⟩
def c_are_unlike : Sts :=
    (.cons (.ret (.cmp .Eq (.lenset (.var 0)) (.bi .len (.var 0))))
    .nil)
def f_are_unlike : Df := ⟨["names"], 1, c_are_unlike, false⟩
def c_is_body : Sts :=
    (.cons (.ifs (.or (.val (.cmp .Eq (.var 1) (.lit (.int 0)))) (.not (.val (.isi (.var 0) .tuple)))) (.cons (.ret (.lit (.bl false)))
    .nil) .nil)
    (.cons (.mtc 0 (.cons (.seq [(.lit "value"), (.nm 4)]) (.cons (.ret (.call "is_value" (.cons (.var 4) .nil)))
    .nil)
    (.cons (.seq [(.lit "name"), (.nm 5)]) (.cons (.ret (.cmp .In (.var 5) (.var 2)))
    .nil)
    (.cons (.seq [(.lit "refuse"), (.nm 6)]) (.cons (.ret (.cmp .In (.var 6) (.gl "WORDS")))
    .nil)
    (.cons (.seq [(.lit "if"), (.nm 7), (.nm 8), (.nm 9)]) (.cons (.ret (.call "are_bodies" (.cons (.tup (.cons (.var 7) (.cons (.var 8) (.cons (.var 9) .nil)))) (.cons (.bin .Sub (.var 1) (.lit (.int 1))) (.cons (.var 2) (.cons (.var 3) .nil))))))
    .nil)
    (.cons (.seq [(.lit "do"), (.nm 10), (.nm 11)]) (.cons (.ret (.and (.call "can_do" (.cons (.var 10) (.cons (.var 11) .nil))) (.call "are_bodies" (.cons (.var 11) (.cons (.bin .Sub (.var 1) (.lit (.int 1))) (.cons (.var 2) (.cons (.var 3) .nil)))))))
    .nil)
    (.cons (.seq [(.lit "call"), (.nm 5), (.nm 11)]) (.cons (.ret (.and (.call "can_call" (.cons (.var 5) (.cons (.var 11) (.cons (.var 3) .nil)))) (.call "are_bodies" (.cons (.var 11) (.cons (.bin .Sub (.var 1) (.lit (.int 1))) (.cons (.var 2) (.cons (.var 3) .nil)))))))
    .nil)
    (.cons .any (.cons (.ret (.lit (.bl false)))
    .nil)
    .nil))))))))
    .nil))
def f_is_body : Df := ⟨["expression", "depth", "parameters", "counts", "value", "name", "word", "test", "one", "other", "operation", "parts"], 4, c_is_body, false⟩
def c_are_bodies : Sts :=
    (.cons (.ret (.gen true (.one 4) [4] (.seq (.var 0)) (.callL "is_body" (.cons (.var 4) (.cons (.var 1) (.cons (.var 2) (.cons (.var 3) .nil)))))))
    .nil)
def f_are_bodies : Df := ⟨["expressions", "depth", "parameters", "counts", "part"], 4, c_are_bodies, false⟩
def c_can_do : Sts :=
    (.cons (.ifs (.or (.not (.val (.isi (.var 0) .str))) (.not (.val (.isi (.var 1) .tuple)))) (.cons (.ret (.lit (.bl false)))
    .nil) .nil)
    (.cons (.ret (.and (.call "is_operation" (.cons (.var 0) .nil)) (.call "takes" (.cons (.var 0) (.cons (.bi .len (.var 1)) .nil)))))
    .nil))
def f_can_do : Df := ⟨["operation", "parts"], 2, c_can_do, false⟩
def c_can_call : Sts :=
    (.cons (.ifs (.or (.not (.val (.isi (.var 0) .str))) (.not (.val (.isi (.var 1) .tuple)))) (.cons (.ret (.lit (.bl false)))
    .nil) .nil)
    (.cons (.ret (.and (.cmp .In (.var 0) (.var 2)) (.cmp .Eq (.idx (.var 2) (.var 0)) (.bi .len (.var 1)))))
    .nil))
def f_can_call : Df := ⟨["name", "parts", "counts"], 3, c_can_call, false⟩
def c_is_function : Sts :=
    (.cons (.sets (.tup [2, 3, 4]) (.var 0))
    (.cons (.ifs (.or (.not (.val (.call "is_name" (.cons (.var 2) .nil)))) (.val (.cmp .Gt (.bi .len (.var 3)) (.gl "MOST_PARAMETERS")))) (.cons (.ret (.lit (.bl false)))
    .nil) .nil)
    (.cons (.ifs (.or (.not (.val (.gen true (.one 5) [5] (.seq (.var 3)) (.callL "is_name" (.cons (.var 5) .nil))))) (.not (.val (.call "are_unlike" (.cons (.var 3) .nil))))) (.cons (.ret (.lit (.bl false)))
    .nil) .nil)
    (.cons (.ret (.call "is_body" (.cons (.var 4) (.cons (.gl "MOST_DEPTH") (.cons (.var 3) (.cons (.var 1) .nil))))))
    .nil))))
def f_is_function : Df := ⟨["function", "counts", "name", "parameters", "body", "text"], 2, c_is_function, false⟩
def c_is_good : Sts :=
    (.cons (.ifs (.or (.not (.val (.var 0))) (.not (.val (.call "are_unlike" (.cons (.comp (.one 5) [5] (.seq (.var 0)) .nil (.idx (.var 5) (.lit (.int 0)))) .nil))))) (.cons (.ret (.lit (.bl false)))
    .nil) .nil)
    (.cons (.set 1 (.dcomp (.tup [2, 3, 4]) [2, 3, 4] (.seq (.var 0)) .nil (.var 2) (.bi .len (.var 3))))
    (.cons (.ret (.gen true (.one 5) [5] (.seq (.var 0)) (.callL "is_function" (.cons (.var 5) (.cons (.var 1) .nil)))))
    .nil)))
def f_is_good : Df := ⟨["program", "counts", "name", "parameters", "_", "function"], 1, c_is_good, false⟩
def c__law_cell_at : Sts :=
    (.cons (.ifs (.val (.cmp .Lt (.var 1) (.bi .len (.var 0)))) (.cons (.ret (.idx (.var 0) (.var 1)))
    .nil) .nil)
    (.cons (.ret (.lit (.int 0)))
    .nil))
def f__law_cell_at : Df := ⟨["_law_script", "_law_k"], 2, c__law_cell_at, false⟩
def c__law_next : Sts :=
    (.cons (.set 1 (.bin .Mod (.bin .Add (.bin .Mult (.var 0) (.lit (.int 48271))) (.lit (.int 11))) (.lit (.int 2147483647))))
    (.cons (.ret (.bin .Mod (.bin .Mult (.var 1) (.var 1)) (.lit (.int 2147483629))))
    .nil))
def f__law_next : Df := ⟨["_law_pick", "_law_more"], 1, c__law_next, false⟩
def c__law_value : Sts :=
    (.cons (.set 1 (.lst (.cons (.lit (.int 0)) (.cons (.lit (.int 1)) (.cons (.lit (.int 2)) (.cons (.lit (.int 3)) (.cons (.lit (.int 5)) (.cons (.neg (.lit (.int 1))) (.cons (.neg (.lit (.int 4))) (.cons (.tup .nil) (.cons (.tup (.cons (.lit (.int 1)) .nil)) (.cons (.tup (.cons (.lit (.int 2)) (.cons (.lit (.int 0)) .nil))) (.cons (.tup (.cons (.lit (.int 1)) (.cons (.lit (.int 2)) (.cons (.lit (.int 3)) .nil)))) (.cons (.tup (.cons (.tup .nil) (.cons (.lit (.int 1)) .nil))) (.cons (.tup (.cons (.tup (.cons (.lit (.int 1)) (.cons (.lit (.int 2)) .nil))) (.cons (.tup (.cons (.lit (.int 3)) .nil)) .nil))) (.cons (.tup (.cons (.lit (.int 4)) (.cons (.tup (.cons (.lit (.int 5)) (.cons (.tup (.cons (.lit (.int 6)) .nil)) .nil))) .nil))) .nil))))))))))))))))
    (.cons (.ifs (.val (.cmp .Eq (.bin .Mod (.var 0) (.lit (.int 16))) (.lit (.int 14)))) (.cons (.ret (.bin .Add (.bin .Sub (.bin .Mod (.bin .FloorDiv (.var 0) (.lit (.int 16))) (.bin .Sub (.bin .Mult (.lit (.int 2)) (.bin .Pow (.lit (.int 10)) (.lit (.int 18)))) (.lit (.int 1)))) (.bin .Pow (.lit (.int 10)) (.lit (.int 18)))) (.lit (.int 1))))
    .nil) .nil)
    (.cons (.ifs (.val (.cmp .Eq (.bin .Mod (.var 0) (.lit (.int 16))) (.lit (.int 15)))) (.cons (.ret (.bi .tuple (.comp (.one 2) [2] (.rng1 (.bin .Mod (.bin .FloorDiv (.var 0) (.lit (.int 16))) (.lit (.int 9)))) .nil (.bin .Mod (.bin .FloorDiv (.var 0) (.lit (.int 16))) (.bin .Add (.var 2) (.lit (.int 2)))))))
    .nil) .nil)
    (.cons (.ret (.idx (.var 1) (.bin .Mod (.var 0) (.lit (.int 16)))))
    .nil))))
def f__law_value : Df := ⟨["_law_pick", "_law_some", "_law_k"], 1, c__law_value, false⟩
def c__law_names : Sts :=
    (.cons (.ifs (.val (.cmp .Eq (.bin .Mod (.var 0) (.lit (.int 9))) (.lit (.int 8)))) (.cons (.set 3 (.lst (.cons (.lit (.str "ifs")) (.cons (.lit (.str "listx")) (.cons (.lit (.str "plus2")) (.cons (.lit (.str "refuses")) (.cons (.lit (.str "rested")) (.cons (.lit (.str "downs")) (.cons (.lit (.str "same1")) (.cons (.lit (.str "joins")) (.cons (.lit (.str "overs")) (.cons (.lit (.str "firsts")) .nil))))))))))))
    (.cons (.set 3 (.bin .Add (.var 3) (.lst (.cons (.lit (.str "emptyx")) (.cons (.lit (.str "a9")) .nil)))))
    (.cons (.ret (.comp (.one 5) [5] (.rng1 (.lit (.int 12))) .nil (.idx (.var 3) (.bin .Mod (.bin .Add (.bin .FloorDiv (.var 0) (.lit (.int 9))) (.var 5)) (.lit (.int 12))))))
    .nil))) .nil)
    (.cons (.set 1 (.bin .Add (.lit (.int 1)) (.bin .Mod (.var 0) (.lit (.int 8)))))
    (.cons (.set 2 (.bin .Mod (.bin .FloorDiv (.var 0) (.lit (.int 8))) (.var 1)))
    (.cons (.set 3 (.lit (.str "abcdefghijklmnopqrstuvwxyz0123456789")))
    (.cons (.set 4 (.lst .nil))
    (.cons (.for_ (.one 5) (.rng1 (.lit (.int 12))) (.cons (.set 6 (.idx (.var 3) (.bin .Mod (.bin .Add (.bin .FloorDiv (.var 0) (.lit (.int 64))) (.var 5)) (.idx (.lst (.cons (.lit (.int 26)) (.cons (.lit (.int 36)) .nil))) (.bi .int (.cmp .Gt (.var 2) (.lit (.int 0))))))))
    (.cons (.app 4 (.bin .Add (.bin .Add (.bin .Mult (.lit (.str "m")) (.var 2)) (.var 6)) (.bin .Mult (.lit (.str "m")) (.bin .Sub (.bin .Sub (.var 1) (.lit (.int 1))) (.var 2)))))
    .nil)))
    (.cons (.ret (.var 4))
    .nil)))))))
def f__law_names : Df := ⟨["_law_cell", "_law_size", "_law_place", "_law_some", "_law_found", "_law_k", "_law_sign"], 1, c__law_names, false⟩
def c__law_few : Sts :=
    (.cons (.set 2 (.lst (.cons (.lit (.int 0)) (.cons (.lit (.int 1)) (.cons (.lit (.int 2)) (.cons (.tup .nil) (.cons (.tup (.cons (.lit (.int 1)) .nil)) (.cons (.tup (.cons (.lit (.int 2)) (.cons (.lit (.int 0)) .nil))) (.cons (.tup (.cons (.tup .nil) (.cons (.lit (.int 1)) .nil))) (.cons (.lit (.int 3)) .nil))))))))))
    (.cons (.ifs (.val (.cmp .Eq (.var 1) (.lit (.int 1)))) (.cons (.set 2 (.lst (.cons (.lit (.int 3)) (.cons (.neg (.lit (.int 1))) (.cons (.tup (.cons (.lit (.int 1)) (.cons (.lit (.int 2)) .nil))) (.cons (.lit (.int 0)) .nil))))))
    .nil) .nil)
    (.cons (.ifs (.val (.cmp .Eq (.var 1) (.lit (.int 2)))) (.cons (.set 2 (.lst (.cons (.tup (.cons (.lit (.int 0)) (.cons (.tup (.cons (.lit (.int 1)) (.cons (.tup (.cons (.lit (.int 2)) .nil)) .nil))) .nil))) (.cons (.neg (.lit (.int 4))) (.cons (.lit (.int 2)) (.cons (.tup .nil) .nil))))))
    .nil) .nil)
    (.cons (.ret (.idx (.var 2) (.bin .Mod (.var 0) (.bi .len (.var 2)))))
    .nil))))
def f__law_few : Df := ⟨["_law_pick", "_law_way", "_law_some"], 2, c__law_few, false⟩
def c__law_tame : Sts :=
    (.cons (.set 3 (.bin .Mod (.bin .FloorDiv (.var 0) (.lit (.int 5))) (.lit (.int 8))))
    (.cons (.set 4 (.call "_law_next" (.cons (.var 0) .nil)))
    (.cons (.ifs (.or (.val (.cmp .Eq (.var 1) (.lst .nil))) (.val (.cmp .Eq (.var 3) (.lit (.int 0))))) (.cons (.ret (.tup (.cons (.lit (.str "value")) (.cons (.call "_law_few" (.cons (.var 4) (.cons (.bin .Mod (.bi .len (.var 2)) (.lit (.int 3))) .nil))) .nil))))
    .nil) .nil)
    (.cons (.set 5 (.tup (.cons (.lit (.str "name")) (.cons (.idx (.var 1) (.bin .Mod (.var 4) (.bi .len (.var 1)))) .nil))))
    (.cons (.ifs (.val (.cmp .Lt (.var 3) (.lit (.int 3)))) (.cons (.ret (.var 5))
    .nil) .nil)
    (.cons (.set 6 (.idx (.lst (.cons (.lit (.str "down")) (.cons (.lit (.str "first")) (.cons (.lit (.str "rest")) (.cons (.lit (.str "rest")) (.cons (.lit (.str "down")) .nil)))))) (.bin .Sub (.var 3) (.lit (.int 3)))))
    (.cons (.ifs (.and (.val (.cmp .Eq (.var 3) (.lit (.int 7)))) (.val (.cmp .Eq (.bin .Mod (.bin .FloorDiv (.var 4) (.lit (.int 7))) (.lit (.int 3))) (.lit (.int 0))))) (.cons (.ret (.tup (.cons (.lit (.str "do")) (.cons (.lit (.str "rest")) (.cons (.tup (.cons (.tup (.cons (.lit (.str "do")) (.cons (.lit (.str "rest")) (.cons (.tup (.cons (.var 5) .nil)) .nil)))) .nil)) .nil)))))
    .nil) .nil)
    (.cons (.ret (.tup (.cons (.lit (.str "do")) (.cons (.var 6) (.cons (.tup (.cons (.var 5) .nil)) .nil)))))
    .nil))))))))
def f__law_tame : Df := ⟨["_law_pick", "_law_known", "_law_heads_here", "_law_way", "_law_more", "_law_name", "_law_word"], 3, c__law_tame, false⟩
def c__law_parts : Sts :=
    (.cons (.set 6 (.lst .nil))
    (.cons (.for_ (.one 7) (.rng1 (.var 1)) (.cons (.app 6 (.call "_law_form" (.cons (.call "_law_next" (.cons (.bin .Add (.var 0) (.bin .Mult (.lit (.int 7919)) (.var 7))) .nil)) (.cons (.var 2) (.cons (.var 3) (.cons (.var 4) (.cons (.var 5) .nil)))))))
    .nil))
    (.cons (.ret (.bi .tuple (.var 6)))
    .nil)))
def f__law_parts : Df := ⟨["_law_pick", "_law_many", "_law_deep_here", "_law_names_here", "_law_known", "_law_heads_here", "_law_found", "_law_k"], 6, c__law_parts, false⟩
def c__law_call : Sts :=
    (.cons (.set 5 (.idx (.var 4) (.bin .Mod (.var 0) (.bi .len (.var 4)))))
    (.cons (.set 6 (.lst .nil))
    (.cons (.for_ (.one 7) (.rng1 (.bi .len (.idx (.var 5) (.lit (.int 1))))) (.cons (.set 8 (.call "_law_next" (.cons (.bin .Add (.var 0) (.bin .Mult (.lit (.int 7919)) (.var 7))) .nil)))
    (.cons (.ifs (.val (.idx (.idx (.var 5) (.lit (.int 2))) (.var 7))) (.cons (.app 6 (.call "_law_tame" (.cons (.var 8) (.cons (.var 3) (.cons (.var 4) .nil)))))
    .nil) (.cons (.app 6 (.call "_law_form" (.cons (.var 8) (.cons (.var 1) (.cons (.var 2) (.cons (.var 3) (.cons (.var 4) .nil)))))))
    .nil))
    .nil)))
    (.cons (.ret (.tup (.cons (.lit (.str "call")) (.cons (.idx (.var 5) (.lit (.int 0))) (.cons (.bi .tuple (.var 6)) .nil)))))
    .nil))))
def f__law_call : Df := ⟨["_law_pick", "_law_deep_here", "_law_names_here", "_law_known", "_law_heads_here", "_law_head", "_law_parts_here", "_law_k", "_law_more"], 5, c__law_call, false⟩
def c__law_do : Sts :=
    (.cons (.set 5 (.lst (.cons (.lit (.str "plus")) (.cons (.lit (.str "minus")) (.cons (.lit (.str "times")) (.cons (.lit (.str "over")) (.cons (.lit (.str "less")) (.cons (.lit (.str "same")) (.cons (.lit (.str "join")) (.cons (.lit (.str "first")) (.cons (.lit (.str "rest")) (.cons (.lit (.str "empty")) (.cons (.lit (.str "down")) (.cons (.lit (.str "list")) .nil))))))))))))))
    (.cons (.set 5 (.idx (.var 5) (.bin .Mod (.var 0) (.lit (.int 12)))))
    (.cons (.set 6 (.lit (.int 2)))
    (.cons (.ifs (.val (.cmp .In (.var 5) (.tup (.cons (.lit (.str "first")) (.cons (.lit (.str "rest")) (.cons (.lit (.str "empty")) (.cons (.lit (.str "down")) .nil))))))) (.cons (.set 6 (.lit (.int 1)))
    .nil) .nil)
    (.cons (.ifs (.val (.cmp .Eq (.var 5) (.lit (.str "list")))) (.cons (.set 6 (.idx (.lst (.cons (.lit (.int 0)) (.cons (.lit (.int 1)) (.cons (.lit (.int 2)) (.cons (.lit (.int 3)) (.cons (.lit (.int 8)) (.cons (.lit (.int 5)) (.cons (.lit (.int 1)) (.cons (.lit (.int 2)) .nil))))))))) (.bin .Mod (.bin .FloorDiv (.var 0) (.lit (.int 12))) (.lit (.int 8)))))
    .nil) .nil)
    (.cons (.ifs (.val (.cmp .Gt (.var 6) (.lit (.int 3)))) (.cons (.set 1 (.lit (.int 0)))
    .nil) .nil)
    (.cons (.ret (.tup (.cons (.lit (.str "do")) (.cons (.var 5) (.cons (.call "_law_parts" (.cons (.call "_law_next" (.cons (.var 0) .nil)) (.cons (.var 6) (.cons (.var 1) (.cons (.var 2) (.cons (.var 3) (.cons (.var 4) .nil))))))) .nil)))))
    .nil)))))))
def f__law_do : Df := ⟨["_law_pick", "_law_deep_here", "_law_names_here", "_law_known", "_law_heads_here", "_law_word", "_law_many"], 5, c__law_do, false⟩
def c__law_form : Sts :=
    (.cons (.set 5 (.bin .Mod (.bin .FloorDiv (.var 0) (.lit (.int 3))) (.lit (.int 13))))
    (.cons (.set 6 (.call "_law_next" (.cons (.var 0) .nil)))
    (.cons (.ifs (.or (.val (.cmp .Eq (.var 1) (.lit (.int 0)))) (.val (.cmp .Lt (.var 5) (.lit (.int 3))))) (.cons (.ifs (.and (.val (.cmp .NotEq (.var 2) (.lst .nil))) (.val (.cmp .Gt (.bin .Mod (.var 6) (.lit (.int 4))) (.lit (.int 0))))) (.cons (.ret (.tup (.cons (.lit (.str "name")) (.cons (.idx (.var 2) (.bin .Mod (.bin .FloorDiv (.var 6) (.lit (.int 4))) (.bi .len (.var 2)))) .nil))))
    .nil) .nil)
    (.cons (.ret (.tup (.cons (.lit (.str "value")) (.cons (.call "_law_value" (.cons (.bin .FloorDiv (.var 6) (.lit (.int 4))) .nil)) .nil))))
    .nil)) .nil)
    (.cons (.ifs (.val (.cmp .Lt (.var 5) (.lit (.int 6)))) (.cons (.ret (.bin .Add (.tup (.cons (.lit (.str "if")) .nil)) (.call "_law_parts" (.cons (.var 6) (.cons (.lit (.int 3)) (.cons (.bin .Sub (.var 1) (.lit (.int 1))) (.cons (.var 2) (.cons (.var 3) (.cons (.var 4) .nil)))))))))
    .nil) .nil)
    (.cons (.ifs (.val (.cmp .Lt (.var 5) (.lit (.int 9)))) (.cons (.ret (.call "_law_do" (.cons (.var 6) (.cons (.bin .Sub (.var 1) (.lit (.int 1))) (.cons (.var 2) (.cons (.var 3) (.cons (.var 4) .nil)))))))
    .nil) .nil)
    (.cons (.ifs (.val (.cmp .Lt (.var 5) (.lit (.int 12)))) (.cons (.ret (.call "_law_call" (.cons (.var 6) (.cons (.bin .Sub (.var 1) (.lit (.int 1))) (.cons (.var 2) (.cons (.var 3) (.cons (.var 4) .nil)))))))
    .nil) .nil)
    (.cons (.ret (.tup (.cons (.lit (.str "refuse")) (.cons (.idx (.lst (.cons (.lit (.str "NoNumber")) (.cons (.lit (.str "NoList")) (.cons (.lit (.str "NoFirst")) (.cons (.lit (.str "NoDown")) (.cons (.lit (.str "ByNought")) (.cons (.lit (.str "TooGreat")) .nil))))))) (.bin .Mod (.var 6) (.lit (.int 6)))) .nil))))
    .nil)))))))
def f__law_form : Df := ⟨["_law_pick", "_law_deep_here", "_law_names_here", "_law_known", "_law_heads_here", "_law_way", "_law_more"], 5, c__law_form, false⟩
def c__law_heads : Sts :=
    (.cons (.set 1 (.call "_law_names" (.cons (.call "_law_cell_at" (.cons (.var 0) (.cons (.lit (.int 0)) .nil))) .nil)))
    (.cons (.set 2 (.lst .nil))
    (.cons (.for_ (.one 3) (.rng1 (.bin .Add (.lit (.int 1)) (.bin .Mod (.call "_law_cell_at" (.cons (.var 0) (.cons (.lit (.int 1)) .nil))) (.lit (.int 4))))) (.cons (.set 4 (.call "_law_cell_at" (.cons (.var 0) (.cons (.bin .Add (.lit (.int 2)) (.var 3)) .nil))))
    (.cons (.set 5 (.idx (.lst (.cons (.lit (.int 1)) (.cons (.lit (.int 2)) (.cons (.lit (.int 3)) (.cons (.lit (.int 2)) (.cons (.lit (.int 0)) (.cons (.lit (.int 6)) (.cons (.lit (.int 3)) .nil)))))))) (.bin .Mod (.var 4) (.lit (.int 7)))))
    (.cons (.set 6 (.lst .nil))
    (.cons (.for_ (.one 7) (.rng1 (.var 5)) (.cons (.set 8 (.cmp .Eq (.bin .Mod (.bin .FloorDiv (.var 4) (.idx (.lst (.cons (.lit (.int 7)) (.cons (.lit (.int 14)) (.cons (.lit (.int 28)) (.cons (.lit (.int 56)) (.cons (.lit (.int 112)) (.cons (.lit (.int 224)) .nil))))))) (.var 7))) (.lit (.int 2))) (.lit (.int 1))))
    (.cons (.app 6 (.and (.var 8) (.cmp .Lt (.m1 .count (.var 6) (.lit (.bl true))) (.lit (.int 2)))))
    .nil)))
    (.cons (.app 2 (.tup (.cons (.idx (.var 1) (.var 3)) (.cons (.bi .tuple (.comp (.one 7) [7] (.rng1 (.var 5)) .nil (.idx (.var 1) (.bin .Mod (.bin .Add (.bin .Add (.lit (.int 2)) (.var 3)) (.var 7)) (.lit (.int 12)))))) (.cons (.bi .tuple (.var 6)) .nil)))))
    .nil))))))
    (.cons (.ret (.var 2))
    .nil))))
def f__law_heads : Df := ⟨["_law_script", "_law_names_here", "_law_found", "_law_k", "_law_cell", "_law_many", "_law_wanted", "_law_j", "_law_known"], 1, c__law_heads, false⟩
def c__law_program : Sts :=
    (.cons (.set 2 (.lst .nil))
    (.cons (.for_ (.one 3) (.rng1 (.bi .len (.var 1))) (.cons (.sets (.tup [7, 8, 9]) (.idx (.var 1) (.var 3)))
    (.cons (.set 4 (.comp (.one 12) [12] (.rng1 (.bi .len (.var 8))) (.one (.val (.idx (.var 9) (.var 12)))) (.idx (.var 8) (.var 12))))
    (.cons (.set 5 (.call "_law_next" (.cons (.bin .Add (.bin .Mult (.call "_law_cell_at" (.cons (.var 0) (.cons (.bin .Add (.lit (.int 6)) (.var 3)) .nil))) (.lit (.int 977))) (.var 3)) .nil)))
    (.cons (.set 6 (.call "_law_form" (.cons (.var 5) (.cons (.bin .Add (.lit (.int 1)) (.bin .Mod (.bin .FloorDiv (.call "_law_cell_at" (.cons (.var 0) (.cons (.lit (.int 10)) .nil))) (.bin .Add (.var 3) (.lit (.int 1)))) (.lit (.int 3)))) (.cons (.bi .list (.var 8)) (.cons (.var 4) (.cons (.var 1) .nil)))))))
    (.cons (.ifs (.and (.val (.cmp .Gt (.bin .Mod (.bin .FloorDiv (.call "_law_cell_at" (.cons (.var 0) (.cons (.lit (.int 11)) .nil))) (.bin .Add (.var 3) (.lit (.int 1)))) (.lit (.int 3))) (.lit (.int 0)))) (.val (.cmp .Gt (.bi .len (.var 8)) (.lit (.int 0))))) (.cons (.set 10 (.call "_law_next" (.cons (.bin .Add (.var 5) (.lit (.int 31))) .nil)))
    (.cons (.set 11 (.tup (.cons (.lit (.str "name")) (.cons (.idx (.var 8) (.bin .Mod (.var 10) (.bi .len (.var 8)))) .nil))))
    (.cons (.ifs (.val (.cmp .Eq (.bin .Mod (.bin .FloorDiv (.var 10) (.lit (.int 8))) (.lit (.int 2))) (.lit (.int 1)))) (.cons (.set 11 (.tup (.cons (.lit (.str "do")) (.cons (.lit (.str "empty")) (.cons (.tup (.cons (.var 11) .nil)) .nil)))))
    .nil) .nil)
    (.cons (.set 6 (.tup (.cons (.lit (.str "if")) (.cons (.var 11) (.cons (.var 6) (.cons (.call "_law_form" (.cons (.var 10) (.cons (.lit (.int 2)) (.cons (.bi .list (.var 8)) (.cons (.var 4) (.cons (.var 1) .nil)))))) .nil))))))
    .nil)))) .nil)
    (.cons (.app 2 (.tup (.cons (.var 7) (.cons (.var 8) (.cons (.var 6) .nil)))))
    .nil)))))))
    (.cons (.ret (.bi .tuple (.var 2)))
    .nil)))
def f__law_program : Df := ⟨["_law_script", "_law_heads_here", "_law_program_here", "_law_k", "_law_known", "_law_pick", "_law_body", "_law_name", "_law_params", "_law_wanted", "_law_more", "_law_test", "_law_j"], 2, c__law_program, false⟩
def c__law_heads_of : Sts :=
    (.cons (.set 1 (.lst (.cons (.var 0) .nil)))
    (.cons (.set 2 (.lst .nil))
    (.cons (.ifs (.val (.cmp .Eq (.idx (.var 0) (.lit (.int 0))) (.lit (.str "if")))) (.cons (.set 2 (.slc (.var 0) (.some (.lit (.int 1))) .none))
    .nil) .nil)
    (.cons (.ifs (.val (.cmp .In (.idx (.var 0) (.lit (.int 0))) (.tup (.cons (.lit (.str "do")) (.cons (.lit (.str "call")) .nil))))) (.cons (.set 2 (.idx (.var 0) (.lit (.int 2))))
    .nil) .nil)
    (.cons (.for_ (.one 3) (.seq (.var 2)) (.cons (.set 1 (.bin .Add (.var 1) (.call "_law_heads_of" (.cons (.var 3) .nil))))
    .nil))
    (.cons (.ret (.var 1))
    .nil))))))
def f__law_heads_of : Df := ⟨["_law_form_here", "_law_found", "_law_parts_here", "_law_part"], 1, c__law_heads_of, false⟩
def c__law_put : Sts :=
    (.cons (.ifs (.val (.cmp .Eq (.var 1) (.lit (.int 0)))) (.cons (.ret (.var 2))
    .nil) .nil)
    (.cons (.set 1 (.bin .Sub (.var 1) (.lit (.int 1))))
    (.cons (.set 3 (.bi .list (.slc (.var 0) (.some (.lit (.int 1))) .none)))
    (.cons (.ifs (.val (.cmp .NotEq (.idx (.var 0) (.lit (.int 0))) (.lit (.str "if")))) (.cons (.set 3 (.bi .list (.idx (.var 0) (.lit (.int 2)))))
    .nil) .nil)
    (.cons (.for_ (.one 4) (.rng1 (.bi .len (.var 3))) (.cons (.set 5 (.bi .len (.call "_law_heads_of" (.cons (.idx (.var 3) (.var 4)) .nil))))
    (.cons (.ifs (.and (.val (.cmp .LtE (.lit (.int 0)) (.var 1))) (.val (.cmp .Lt (.var 1) (.var 5)))) (.cons (.put 3 (.var 4) (.call "_law_put" (.cons (.idx (.var 3) (.var 4)) (.cons (.var 1) (.cons (.var 2) .nil)))))
    .nil) .nil)
    (.cons (.set 1 (.bin .Sub (.var 1) (.var 5)))
    .nil))))
    (.cons (.ifs (.val (.cmp .Eq (.idx (.var 0) (.lit (.int 0))) (.lit (.str "if")))) (.cons (.ret (.bin .Add (.tup (.cons (.lit (.str "if")) .nil)) (.bi .tuple (.var 3))))
    .nil) .nil)
    (.cons (.ret (.tup (.cons (.idx (.var 0) (.lit (.int 0))) (.cons (.idx (.var 0) (.lit (.int 1))) (.cons (.bi .tuple (.var 3)) .nil)))))
    .nil)))))))
def f__law_put : Df := ⟨["_law_form_here", "_law_at", "_law_other", "_law_parts_here", "_law_k", "_law_many"], 3, c__law_put, false⟩
def c__law_odd : Sts :=
    (.cons (.set 2 (.tup (.cons (.lit (.str "value")) (.cons (.lit (.int 1)) .nil))))
    (.cons (.set 3 (.lst (.cons (.tup (.cons (.lit (.str "value")) (.cons (.lit (.bl true)) .nil))) (.cons (.tup (.cons (.lit (.str "value")) (.cons (.bin .Pow (.lit (.int 10)) (.lit (.int 18))) .nil))) (.cons (.tup (.cons (.lit (.str "value")) (.cons (.bin .Mult (.tup (.cons (.lit (.int 0)) .nil)) (.lit (.int 50))) .nil))) (.cons (.tup (.cons (.lit (.str "value")) (.cons (.tup (.cons (.lit (.str "a")) .nil)) .nil))) (.cons (.tup (.cons (.lit (.str "value")) (.cons (.lit (.int 1)) (.cons (.lit (.int 1)) .nil)))) .nil)))))))
    (.cons (.set 3 (.bin .Add (.var 3) (.lst (.cons (.tup (.cons (.lit (.str "value")) (.cons (.lit .non) .nil))) (.cons (.tup (.cons (.lit (.str "name")) (.cons (.lit (.str "zz9")) .nil))) (.cons (.tup (.cons (.lit (.str "name")) (.cons (.bin .Add (.idx (.idx (.var 0) (.lit (.int 0))) (.lit (.int 0))) (.lit (.str "z"))) .nil))) (.cons (.tup (.cons (.lit (.str "refuse")) (.cons (.lit (.str "TooLong")) .nil))) .nil)))))))
    (.cons (.set 3 (.bin .Add (.var 3) (.lst (.cons (.tup (.cons (.lit (.str "refuse")) (.cons (.lit (.str "refused")) .nil))) (.cons (.tup (.cons (.lit (.str "if")) (.cons (.var 2) (.cons (.var 2) .nil)))) (.cons (.tup (.cons (.lit (.str "if")) (.cons (.var 2) (.cons (.var 2) (.cons (.var 2) (.cons (.var 2) .nil)))))) (.cons (.tup (.cons (.lit (.str "do")) (.cons (.lit (.str "plus")) (.cons (.tup (.cons (.var 2) .nil)) .nil)))) .nil)))))))
    (.cons (.set 3 (.bin .Add (.var 3) (.lst (.cons (.tup (.cons (.lit (.str "do")) (.cons (.lit (.str "plus")) (.cons (.tup (.cons (.var 2) (.cons (.var 2) (.cons (.var 2) .nil)))) .nil)))) (.cons (.tup (.cons (.lit (.str "do")) (.cons (.lit (.str "mod")) (.cons (.tup (.cons (.var 2) (.cons (.var 2) .nil))) .nil)))) (.cons (.tup (.cons (.lit (.str "do")) (.cons (.lit (.str "list")) (.cons (.bin .Mult (.tup (.cons (.var 2) .nil)) (.lit (.int 9))) .nil)))) .nil))))))
    (.cons (.set 3 (.bin .Add (.var 3) (.lst (.cons (.tup (.cons (.lit (.str "do")) (.cons (.lit (.str "first")) (.cons (.tup .nil) .nil)))) (.cons (.tup (.cons (.lit (.str "do")) (.cons (.lit (.str "if")) (.cons (.tup (.cons (.var 2) (.cons (.var 2) (.cons (.var 2) .nil)))) .nil)))) (.cons (.tup (.cons (.lit (.str "call")) (.cons (.lit (.str "zz9")) (.cons (.tup .nil) .nil)))) (.cons (.tup (.cons (.lit (.str "stop")) (.cons (.lit (.int 1)) .nil))) .nil)))))))
    (.cons (.set 3 (.bin .Add (.var 3) (.lst (.cons (.tup (.cons (.lit (.str "call")) (.cons (.idx (.idx (.var 0) (.lit (.int 0))) (.lit (.int 0))) (.cons (.bin .Mult (.tup (.cons (.var 2) .nil)) (.bin .Add (.bi .len (.idx (.idx (.var 0) (.lit (.int 0))) (.lit (.int 1)))) (.lit (.int 1)))) .nil)))) (.cons (.tup (.cons (.lit (.str "call")) (.cons (.lit (.str "plus")) (.cons (.tup (.cons (.var 2) (.cons (.var 2) .nil))) .nil)))) .nil)))))
    (.cons (.ret (.idx (.var 3) (.var 1)))
    .nil))))))))
def f__law_odd : Df := ⟨["_law_heads_here", "_law_way", "_law_one", "_law_odd_here"], 2, c__law_odd, false⟩
def c__law_deep : Sts :=
    (.cons (.set 1 (.tup (.cons (.lit (.str "value")) (.cons (.lit (.int 1)) .nil))))
    (.cons (.for_ (.one 2) (.rng1 (.bin .Sub (.var 0) (.lit (.int 1)))) (.cons (.set 3 (.lst (.cons (.tup (.cons (.lit (.str "do")) (.cons (.lit (.str "list")) (.cons (.tup (.cons (.var 1) .nil)) .nil)))) (.cons (.tup (.cons (.lit (.str "if")) (.cons (.var 1) (.cons (.tup (.cons (.lit (.str "value")) (.cons (.lit (.int 0)) .nil))) (.cons (.tup (.cons (.lit (.str "value")) (.cons (.lit (.int 2)) .nil))) .nil))))) .nil))))
    (.cons (.app 3 (.tup (.cons (.lit (.str "do")) (.cons (.lit (.str "plus")) (.cons (.tup (.cons (.tup (.cons (.lit (.str "value")) (.cons (.lit (.int 3)) .nil))) (.cons (.var 1) .nil))) .nil)))))
    (.cons (.set 1 (.idx (.var 3) (.bin .Mod (.bin .Add (.var 2) (.var 0)) (.lit (.int 3)))))
    .nil))))
    (.cons (.ret (.var 1))
    .nil)))
def f__law_deep : Df := ⟨["_law_many", "_law_form_here", "_law_k", "_law_some"], 1, c__law_deep, false⟩
def c__law_with : Sts :=
    (.cons (.ret (.bin .Add (.bin .Add (.slc (.var 0) .none (.some (.var 1))) (.tup (.cons (.var 2) .nil))) (.slc (.var 0) (.some (.bin .Add (.var 1) (.lit (.int 1)))) .none)))
    .nil)
def f__law_with : Df := ⟨["_law_program_here", "_law_k", "_law_function"], 3, c__law_with, false⟩
def c__law_spoilt : Sts :=
    (.cons (.set 4 (.bin .Mod (.var 3) (.bi .len (.var 0))))
    (.cons (.set 5 (.bin .FloorDiv (.var 3) (.lit (.int 7))))
    (.cons (.sets (.tup [6, 7, 8]) (.idx (.var 0) (.var 4)))
    (.cons (.ifs (.val (.cmp .Lt (.var 2) (.lit (.int 22)))) (.cons (.set 9 (.bin .Mod (.var 5) (.bi .len (.call "_law_heads_of" (.cons (.var 8) .nil)))))
    (.cons (.ret (.call "_law_with" (.cons (.var 0) (.cons (.var 4) (.cons (.tup (.cons (.var 6) (.cons (.var 7) (.cons (.call "_law_put" (.cons (.var 8) (.cons (.var 9) (.cons (.call "_law_odd" (.cons (.var 1) (.cons (.var 2) .nil))) .nil)))) .nil)))) .nil)))))
    .nil)) .nil)
    (.cons (.ifs (.val (.cmp .Eq (.var 2) (.lit (.int 22)))) (.cons (.ret (.bin .Add (.var 0) (.tup (.cons (.tup (.cons (.var 6) (.cons (.tup .nil) (.cons (.tup (.cons (.lit (.str "value")) (.cons (.lit (.int 0)) .nil))) .nil)))) .nil))))
    .nil) .nil)
    (.cons (.ifs (.val (.cmp .Eq (.var 2) (.lit (.int 23)))) (.cons (.ret (.tup .nil))
    .nil) .nil)
    (.cons (.ifs (.val (.cmp .Eq (.var 2) (.lit (.int 24)))) (.cons (.set 10 (.lst (.cons (.lit (.str "if")) (.cons (.lit (.str "list")) (.cons (.lit (.str "A")) (.cons (.lit (.str "")) (.cons (.lit (.str "ninesigns")) (.cons (.lit (.str "1a")) (.cons (.lit (.str "refuse")) (.cons (.lit (.str "a-b")) .nil))))))))))
    (.cons (.ret (.call "_law_with" (.cons (.var 0) (.cons (.var 4) (.cons (.tup (.cons (.idx (.var 10) (.bin .Mod (.var 5) (.lit (.int 8)))) (.cons (.var 7) (.cons (.var 8) .nil)))) .nil)))))
    .nil)) .nil)
    (.cons (.ifs (.val (.cmp .Eq (.var 2) (.lit (.int 25)))) (.cons (.ret (.call "_law_with" (.cons (.var 0) (.cons (.var 4) (.cons (.tup (.cons (.var 6) (.cons (.bin .Add (.var 7) (.tup (.cons (.lit (.str "ya")) (.cons (.lit (.str "yb")) (.cons (.lit (.str "yc")) (.cons (.lit (.str "yd")) (.cons (.lit (.str "ye")) (.cons (.lit (.str "yf")) (.cons (.lit (.str "yg")) .nil))))))))) (.cons (.var 8) .nil)))) .nil)))))
    .nil) .nil)
    (.cons (.ifs (.val (.cmp .Eq (.var 2) (.lit (.int 26)))) (.cons (.ret (.call "_law_with" (.cons (.var 0) (.cons (.var 4) (.cons (.tup (.cons (.var 6) (.cons (.bin .Add (.var 7) (.tup (.cons (.lit (.str "ya")) (.cons (.lit (.str "ya")) .nil)))) (.cons (.var 8) .nil)))) .nil)))))
    .nil) .nil)
    (.cons (.ifs (.val (.cmp .Eq (.var 2) (.lit (.int 27)))) (.cons (.ret (.call "_law_with" (.cons (.var 0) (.cons (.var 4) (.cons (.tup (.cons (.var 6) (.cons (.bin .Add (.var 7) (.tup (.cons (.idx (.lst (.cons (.lit (.str "same")) (.cons (.lit (.str "Ab")) (.cons (.lit (.str "")) (.cons (.lit (.str "if")) .nil))))) (.bin .Mod (.var 5) (.lit (.int 4)))) .nil))) (.cons (.var 8) .nil)))) .nil)))))
    .nil) .nil)
    (.cons (.ret (.call "_law_with" (.cons (.var 0) (.cons (.var 4) (.cons (.tup (.cons (.var 6) (.cons (.var 7) (.cons (.call "_law_deep" (.cons (.lit (.int 21)) .nil)) .nil)))) .nil)))))
    .nil)))))))))))
def f__law_spoilt : Df := ⟨["_law_program_here", "_law_heads_here", "_law_way", "_law_cell", "_law_k", "_law_more", "_law_name", "_law_params", "_law_body", "_law_at", "_law_some"], 4, c__law_spoilt, false⟩
def c__law_truth : Sts :=
    (.cons (.ret (.and (.isi (.var 0) .bool) (.cmp .Eq (.var 0) (.var 1))))
    .nil)
def f__law_truth : Df := ⟨["_law_found", "_law_due"], 2, c__law_truth, false⟩
def c__law_is_name : Sts :=
    (.cons (.set 1 (.lst (.cons (.lit (.str "plus")) (.cons (.lit (.str "minus")) (.cons (.lit (.str "times")) (.cons (.lit (.str "over")) (.cons (.lit (.str "less")) (.cons (.lit (.str "same")) (.cons (.lit (.str "join")) (.cons (.lit (.str "first")) (.cons (.lit (.str "rest")) (.cons (.lit (.str "empty")) (.cons (.lit (.str "down")) (.cons (.lit (.str "list")) .nil))))))))))))))
    (.cons (.ifs (.or (.val (.cmp .In (.var 0) (.var 1))) (.or (.val (.cmp .In (.var 0) (.tup (.cons (.lit (.str "if")) (.cons (.lit (.str "refuse")) (.cons (.lit (.str "")) .nil)))))) (.or (.val (.cmp .Gt (.bi .len (.var 0)) (.lit (.int 8)))) (.val (.cmp .In (.idx (.var 0) (.lit (.int 0))) (.lit (.str "0123456789"))))))) (.cons (.ret (.lit (.bl false)))
    .nil) .nil)
    (.cons (.ret (.cmp .Eq (.bi .len (.comp (.one 2) [2] (.seq (.var 0)) (.one (.val (.cmp .NotIn (.var 2) (.lit (.str "abcdefghijklmnopqrstuvwxyz0123456789"))))) (.var 2))) (.lit (.int 0))))
    .nil)))
def f__law_is_name : Df := ⟨["_law_text_here", "_law_words", "_law_sign"], 1, c__law_is_name, false⟩
def c__law_text : Sts :=
    (.cons (.set 1 (.lst (.cons (.lit (.str "plus")) (.cons (.lit (.str "rest")) (.cons (.lit (.str "if")) (.cons (.lit (.str "refuse")) (.cons (.lit (.str "")) (.cons (.lit (.str "ab9")) (.cons (.lit (.str "abcdefgh")) (.cons (.lit (.str "abcdefghi")) .nil))))))))))
    (.cons (.set 1 (.bin .Add (.var 1) (.lst (.cons (.lit (.str "9a")) (.cons (.lit (.str "a_b")) (.cons (.lit (.str "listx")) (.cons (.lit (.str "ifs")) (.cons (.lit (.str "a")) (.cons (.lit (.str "refuses")) .nil)))))))))
    (.cons (.ifs (.val (.cmp .Eq (.bin .Mod (.var 0) (.lit (.int 2))) (.lit (.int 0)))) (.cons (.ret (.idx (.var 1) (.bin .Mod (.bin .FloorDiv (.var 0) (.lit (.int 2))) (.lit (.int 14)))))
    .nil) .nil)
    (.cons (.set 2 (.bin .Add (.lit (.int 1)) (.bin .Mod (.bin .FloorDiv (.var 0) (.lit (.int 2))) (.lit (.int 9)))))
    (.cons (.set 3 (.idx (.lit (.str "abz059{`@/: AZ-_.")) (.bin .Mod (.bin .FloorDiv (.var 0) (.lit (.int 18))) (.lit (.int 17)))))
    (.cons (.set 4 (.bin .Mod (.bin .FloorDiv (.var 0) (.lit (.int 306))) (.var 2)))
    (.cons (.ret (.bin .Add (.bin .Add (.bin .Mult (.lit (.str "a")) (.var 4)) (.var 3)) (.bin .Mult (.lit (.str "a")) (.bin .Sub (.bin .Sub (.var 2) (.lit (.int 1))) (.var 4)))))
    .nil)))))))
def f__law_text : Df := ⟨["_law_cell", "_law_some", "_law_size", "_law_sign", "_law_place"], 1, c__law_text, false⟩
def c__law_sure : Sts :=
    (.cons (.set 0 (.tup (.cons (.lit (.str "name")) (.cons (.lit (.str "x")) .nil))))
    (.cons (.set 1 (.tup (.cons (.lit (.str "refuse")) (.cons (.lit (.str "NoList")) .nil))))
    (.cons (.set 2 (.lst (.cons (.var 0) (.cons (.var 1) (.cons (.call "_law_deep" (.cons (.lit (.int 20)) .nil)) (.cons (.tup (.cons (.lit (.str "call")) (.cons (.lit (.str "a")) (.cons (.tup (.cons (.var 0) .nil)) .nil)))) (.cons (.tup (.cons (.lit (.str "do")) (.cons (.lit (.str "list")) (.cons (.bin .Mult (.tup (.cons (.var 0) .nil)) (.lit (.int 8))) .nil)))) (.cons (.tup (.cons (.lit (.str "value")) (.cons (.bin .Mult (.tup (.cons (.lit (.int 0)) .nil)) (.lit (.int 49))) .nil))) .nil))))))))
    (.cons (.set 3 (.lst (.cons (.call "_law_deep" (.cons (.lit (.int 21)) .nil)) (.cons (.tup (.cons (.lit (.str "call")) (.cons (.lit (.str "a")) (.cons (.tup .nil) .nil)))) (.cons (.tup (.cons (.lit (.str "call")) (.cons (.lit (.str "a")) (.cons (.tup (.cons (.var 0) (.cons (.var 0) .nil))) .nil)))) (.cons (.tup (.cons (.lit (.str "do")) (.cons (.lit (.str "list")) (.cons (.bin .Mult (.tup (.cons (.var 0) .nil)) (.lit (.int 9))) .nil)))) (.cons (.tup (.cons (.lit (.str "name")) (.cons (.lit (.str "y")) .nil))) .nil)))))))
    (.cons (.set 3 (.bin .Add (.var 3) (.lst (.cons (.tup (.cons (.lit (.str "value")) (.cons (.bin .Mult (.tup (.cons (.lit (.int 0)) .nil)) (.lit (.int 50))) .nil))) (.cons (.tup (.cons (.lit (.str "refuse")) (.cons (.lit (.str "TooLong")) .nil))) (.cons (.tup (.cons (.lit (.str "call")) (.cons (.lit (.str "b")) (.cons (.tup (.cons (.var 0) .nil)) .nil)))) (.cons (.tup (.cons (.lit (.str "do")) (.cons (.lit (.str "plus")) (.cons (.tup (.cons (.var 0) .nil)) .nil)))) (.cons (.tup (.cons (.lit (.str "if")) (.cons (.var 0) (.cons (.var 0) .nil)))) .nil))))))))
    (.cons (.for_ (.one 4) (.seq (.bin .Add (.var 2) (.var 3))) (.cons (.ifs (.val (.cmp .NotEq (.call "is_good" (.cons (.tup (.cons (.tup (.cons (.lit (.str "a")) (.cons (.tup (.cons (.lit (.str "x")) .nil)) (.cons (.var 4) .nil)))) .nil)) .nil)) (.cmp .In (.var 4) (.var 2)))) (.cons (.ret (.lit (.bl false)))
    .nil) .nil)
    .nil))
    (.cons (.set 5 (.tup (.cons (.lit (.str "x")) (.cons (.lit (.str "b")) (.cons (.lit (.str "c")) (.cons (.lit (.str "d")) (.cons (.lit (.str "e")) (.cons (.lit (.str "f")) .nil))))))))
    (.cons (.ifs (.or (.not (.val (.call "is_good" (.cons (.tup (.cons (.tup (.cons (.lit (.str "a")) (.cons (.var 5) (.cons (.var 0) .nil)))) .nil)) .nil)))) (.or (.val (.call "is_good" (.cons (.tup (.cons (.tup (.cons (.lit (.str "a")) (.cons (.bin .Add (.var 5) (.tup (.cons (.lit (.str "g")) .nil))) (.cons (.var 0) .nil)))) .nil)) .nil))) (.val (.call "is_good" (.cons (.tup (.cons (.tup (.cons (.lit (.str "a")) (.cons (.tup (.cons (.lit (.str "x")) (.cons (.lit (.str "x")) .nil))) (.cons (.var 0) .nil)))) .nil)) .nil))))) (.cons (.ret (.lit (.bl false)))
    .nil) .nil)
    (.cons (.ret (.not (.call "is_good" (.cons (.tup (.cons (.tup (.cons (.lit (.str "a")) (.cons (.tup (.cons (.lit (.str "x")) .nil)) (.cons (.var 0) .nil)))) (.cons (.tup (.cons (.lit (.str "a")) (.cons (.tup .nil) (.cons (.tup (.cons (.lit (.str "value")) (.cons (.lit (.int 1)) .nil))) .nil)))) .nil))) .nil))))
    .nil)))))))))
def f__law_sure : Df := ⟨["_law_x", "_law_no", "_law_good", "_law_bad", "_law_body", "_law_six"], 0, c__law_sure, false⟩
def c_law : Sts :=
    (.cons (.set 1 (.call "_law_heads" (.cons (.var 0) .nil)))
    (.cons (.set 2 (.call "_law_program" (.cons (.var 0) (.cons (.var 1) .nil))))
    (.cons (.set 3 (.bin .Mod (.call "_law_cell_at" (.cons (.var 0) (.cons (.lit (.int 15)) .nil))) (.lit (.int 44))))
    (.cons (.set 4 (.cmp .Gt (.var 3) (.lit (.int 28))))
    (.cons (.ifs (.val (.cmp .Eq (.var 3) (.lit (.int 29)))) (.cons (.set 2 (.bin .Add (.slc (.var 2) .none (.some (.neg (.lit (.int 1))))) (.tup (.cons (.tup (.cons (.idx (.idx (.var 2) (.neg (.lit (.int 1)))) (.lit (.int 0))) (.cons (.idx (.idx (.var 2) (.neg (.lit (.int 1)))) (.lit (.int 1))) (.cons (.call "_law_deep" (.cons (.lit (.int 20)) .nil)) .nil)))) .nil))))
    .nil) .nil)
    (.cons (.ifs (.not (.val (.var 4))) (.cons (.set 2 (.call "_law_spoilt" (.cons (.var 2) (.cons (.var 1) (.cons (.var 3) (.cons (.call "_law_cell_at" (.cons (.var 0) (.cons (.lit (.int 16)) .nil))) .nil))))))
    .nil) .nil)
    (.cons (.set 5 (.call "_law_text" (.cons (.call "_law_cell_at" (.cons (.var 0) (.cons (.lit (.int 17)) .nil))) .nil)))
    (.cons (.for_ (.one 6) (.rng1 (.lit (.int 2))) (.cons (.ifs (.or (.not (.val (.call "_law_truth" (.cons (.call "is_good" (.cons (.var 2) .nil)) (.cons (.var 4) .nil))))) (.not (.val (.call "_law_truth" (.cons (.call "is_name" (.cons (.var 5) .nil)) (.cons (.call "_law_is_name" (.cons (.var 5) .nil)) .nil)))))) (.cons (.ret (.lit (.bl false)))
    .nil) .nil)
    (.cons (.ifs (.or (.val (.cmp .IsNot (.call "is_good" (.cons (.tup (.cons (.tup (.cons (.lit (.str "a")) (.cons (.tup .nil) (.cons (.tup (.cons (.lit (.str "name")) (.cons (.lit (.str "b")) .nil))) .nil)))) .nil)) .nil)) (.lit (.bl false)))) (.val (.cmp .IsNot (.call "is_good" (.cons (.tup (.cons (.tup (.cons (.lit (.str "a")) (.cons (.tup (.cons (.lit (.str "b")) .nil)) (.cons (.tup (.cons (.lit (.str "name")) (.cons (.lit (.str "b")) .nil))) .nil)))) .nil)) .nil)) (.lit (.bl true))))) (.cons (.ret (.lit (.bl false)))
    .nil) .nil)
    .nil)))
    (.cons (.ret (.call "_law_sure" .nil))
    .nil)))))))))
def f_law : Df := ⟨["_law_script", "_law_heads_here", "_law_program_here", "_law_way", "_law_due", "_law_text_here", "_law_turn"], 1, c_law, false⟩
def fs : Dfs := [(("is_number" : Str), f_is_number), (("is_value" : Str), f_is_value), (("is_operation" : Str), f_is_operation), (("takes" : Str), f_takes), (("is_name" : Str), f_is_name), (("are_unlike" : Str), f_are_unlike), (("is_body" : Str), f_is_body), (("are_bodies" : Str), f_are_bodies), (("can_do" : Str), f_can_do), (("can_call" : Str), f_can_call), (("is_function" : Str), f_is_function), (("is_good" : Str), f_is_good), (("_law_cell_at" : Str), f__law_cell_at), (("_law_next" : Str), f__law_next), (("_law_value" : Str), f__law_value), (("_law_names" : Str), f__law_names), (("_law_few" : Str), f__law_few), (("_law_tame" : Str), f__law_tame), (("_law_parts" : Str), f__law_parts), (("_law_call" : Str), f__law_call), (("_law_do" : Str), f__law_do), (("_law_form" : Str), f__law_form), (("_law_heads" : Str), f__law_heads), (("_law_program" : Str), f__law_program), (("_law_heads_of" : Str), f__law_heads_of), (("_law_put" : Str), f__law_put), (("_law_odd" : Str), f__law_odd), (("_law_deep" : Str), f__law_deep), (("_law_with" : Str), f__law_with), (("_law_spoilt" : Str), f__law_spoilt), (("_law_truth" : Str), f__law_truth), (("_law_is_name" : Str), f__law_is_name), (("_law_text" : Str), f__law_text), (("_law_sure" : Str), f__law_sure), (("law" : Str), f_law)]
def gn : List Str := [("is_name" : Str), ("are_bodies" : Str), ("is_function" : Str), ("is_good" : Str)]
-- top: 4 is_number, 5 is_value, 8 is_operation, 9 takes, 16 is_name, 17 are_unlike, 18 is_body, 19 are_bodies, 20 can_do, 21 can_call, 22 is_function, 23 is_good, 25 _law_cell_at, 26 _law_next, 27 _law_value, 28 _law_names, 29 _law_few, 30 _law_tame, 31 _law_parts, 32 _law_call, 33 _law_do, 34 _law_form, 35 _law_heads, 36 _law_program, 39 _law_heads_of, 40 _law_put, 41 _law_odd, 42 _law_deep, 43 _law_with, 44 _law_spoilt, 45 _law_truth, 46 _law_is_name, 47 _law_text, 48 _law_sure, 49 law

def top (i : Nat) : Stmt := PySem.Challenge.pw_halfrun_k03_good_programs.main.body.getD i (.Pass ⟨0, 0, 0, 0⟩)
def hd : Hd where
  consts := [("WORDS", (.tup [(.str "NoNumber"), (.str "NoList"), (.str "NoFirst"), (.str "NoDown"), (.str "ByNought"), (.str "TooGreat")])), ("BOUND", (.int (1000000000000000000))), ("MOST_WEIGHT", (.int (50))), ("LETTERS", (.str "abcdefghijklmnopqrstuvwxyz")), ("FIGURES", (.str "0123456789")), ("MOST_SIGNS", (.int (8))), ("MOST_PARAMETERS", (.int (6))), ("MOST_DEPTH", (.int (20)))]
  tabs := [("TAKEN", ["plus", "minus", "times", "over", "less", "down", "first", "rest", "empty", "same", "join", "list"], [(.tup [(.int (2)), (.int (2))]), (.tup [(.int (2)), (.int (2))]), (.tup [(.int (2)), (.int (2))]), (.tup [(.int (2)), (.int (2))]), (.tup [(.int (2)), (.int (2))]), (.tup [(.int (1)), (.int (1))]), (.tup [(.int (1)), (.int (1))]), (.tup [(.int (1)), (.int (1))]), (.tup [(.int (1)), (.int (1))]), (.tup [(.int (2)), (.int (2))]), (.tup [(.int (2)), (.int (2))]), (.tup [(.int (0)), (.int (8))])])]
  cls := []
  es := []
  kiT := []
  sbT := []
  hs := []
def mo : Mo := hd.mo
def pg : Pg := ⟨wf, fs, mo, gn⟩
theorem cc_is_number : cSs (cS 60 ⟨f_is_number.N, defScope (top 4), true, arity fs, mo, false, false, decide (("is_number" : Str) ∈ gn)⟩) (defBody (top 4)) = some f_is_number.code := by kernel_rfl
theorem sc_is_number : FnScope f_is_number.N ["thing"] (defScope (top 4)) := ⟨rfl, rfl, rfl, by decide +kernel, rfl, by decide +kernel, by decide +kernel⟩
def d_is_number : He.DefD := ⟨("is_number", none), "is_number", "is_number", defArgs (top 4), defBody (top 4), defScope (top 4), [], []⟩
theorem cc_is_value : cSs (cS 60 ⟨f_is_value.N, defScope (top 5), true, arity fs, mo, false, false, decide (("is_value" : Str) ∈ gn)⟩) (defBody (top 5)) = some f_is_value.code := by kernel_rfl
theorem sc_is_value : FnScope f_is_value.N ["thing"] (defScope (top 5)) := ⟨rfl, rfl, rfl, by decide +kernel, rfl, by decide +kernel, by decide +kernel⟩
def d_is_value : He.DefD := ⟨("is_value", none), "is_value", "is_value", defArgs (top 5), defBody (top 5), defScope (top 5), [], []⟩
theorem cc_is_operation : cSs (cS 60 ⟨f_is_operation.N, defScope (top 8), true, arity fs, mo, false, false, decide (("is_operation" : Str) ∈ gn)⟩) (defBody (top 8)) = some f_is_operation.code := by kernel_rfl
theorem sc_is_operation : FnScope f_is_operation.N ["text"] (defScope (top 8)) := ⟨rfl, rfl, rfl, by decide +kernel, rfl, by decide +kernel, by decide +kernel⟩
def d_is_operation : He.DefD := ⟨("is_operation", none), "is_operation", "is_operation", defArgs (top 8), defBody (top 8), defScope (top 8), [], []⟩
theorem cc_takes : cSs (cS 60 ⟨f_takes.N, defScope (top 9), true, arity fs, mo, false, false, decide (("takes" : Str) ∈ gn)⟩) (defBody (top 9)) = some f_takes.code := by kernel_rfl
theorem sc_takes : FnScope f_takes.N ["operation", "many"] (defScope (top 9)) := ⟨rfl, rfl, rfl, by decide +kernel, rfl, by decide +kernel, by decide +kernel⟩
def d_takes : He.DefD := ⟨("takes", none), "takes", "takes", defArgs (top 9), defBody (top 9), defScope (top 9), [], []⟩
theorem cc_is_name : cSs (cS 60 ⟨f_is_name.N, defScope (top 16), true, arity fs, mo, false, false, decide (("is_name" : Str) ∈ gn)⟩) (defBody (top 16)) = some f_is_name.code := by kernel_rfl
theorem sc_is_name : FnScope f_is_name.N ["text"] (defScope (top 16)) := ⟨rfl, rfl, rfl, by decide +kernel, rfl, by decide +kernel, by decide +kernel⟩
def d_is_name : He.DefD := ⟨("is_name", none), "is_name", "is_name", defArgs (top 16), defBody (top 16), defScope (top 16), [], []⟩
theorem cc_are_unlike : cSs (cS 60 ⟨f_are_unlike.N, defScope (top 17), true, arity fs, mo, false, false, decide (("are_unlike" : Str) ∈ gn)⟩) (defBody (top 17)) = some f_are_unlike.code := by kernel_rfl
theorem sc_are_unlike : FnScope f_are_unlike.N ["names"] (defScope (top 17)) := ⟨rfl, rfl, rfl, by decide +kernel, rfl, by decide +kernel, by decide +kernel⟩
def d_are_unlike : He.DefD := ⟨("are_unlike", none), "are_unlike", "are_unlike", defArgs (top 17), defBody (top 17), defScope (top 17), [], []⟩
theorem cc_is_body : cSs (cS 60 ⟨f_is_body.N, defScope (top 18), true, arity fs, mo, false, false, decide (("is_body" : Str) ∈ gn)⟩) (defBody (top 18)) = some f_is_body.code := by kernel_rfl
theorem sc_is_body : FnScope f_is_body.N ["expression", "depth", "parameters", "counts"] (defScope (top 18)) := ⟨rfl, rfl, rfl, by decide +kernel, rfl, by decide +kernel, by decide +kernel⟩
def d_is_body : He.DefD := ⟨("is_body", none), "is_body", "is_body", defArgs (top 18), defBody (top 18), defScope (top 18), [], []⟩
theorem cc_are_bodies : cSs (cS 60 ⟨f_are_bodies.N, defScope (top 19), true, arity fs, mo, false, false, decide (("are_bodies" : Str) ∈ gn)⟩) (defBody (top 19)) = some f_are_bodies.code := by kernel_rfl
theorem sc_are_bodies : FnScope f_are_bodies.N ["expressions", "depth", "parameters", "counts"] (defScope (top 19)) := ⟨rfl, rfl, rfl, by decide +kernel, rfl, by decide +kernel, by decide +kernel⟩
def d_are_bodies : He.DefD := ⟨("are_bodies", none), "are_bodies", "are_bodies", defArgs (top 19), defBody (top 19), defScope (top 19), [], []⟩
theorem cc_can_do : cSs (cS 60 ⟨f_can_do.N, defScope (top 20), true, arity fs, mo, false, false, decide (("can_do" : Str) ∈ gn)⟩) (defBody (top 20)) = some f_can_do.code := by kernel_rfl
theorem sc_can_do : FnScope f_can_do.N ["operation", "parts"] (defScope (top 20)) := ⟨rfl, rfl, rfl, by decide +kernel, rfl, by decide +kernel, by decide +kernel⟩
def d_can_do : He.DefD := ⟨("can_do", none), "can_do", "can_do", defArgs (top 20), defBody (top 20), defScope (top 20), [], []⟩
theorem cc_can_call : cSs (cS 60 ⟨f_can_call.N, defScope (top 21), true, arity fs, mo, false, false, decide (("can_call" : Str) ∈ gn)⟩) (defBody (top 21)) = some f_can_call.code := by kernel_rfl
theorem sc_can_call : FnScope f_can_call.N ["name", "parts", "counts"] (defScope (top 21)) := ⟨rfl, rfl, rfl, by decide +kernel, rfl, by decide +kernel, by decide +kernel⟩
def d_can_call : He.DefD := ⟨("can_call", none), "can_call", "can_call", defArgs (top 21), defBody (top 21), defScope (top 21), [], []⟩
theorem cc_is_function : cSs (cS 60 ⟨f_is_function.N, defScope (top 22), true, arity fs, mo, false, false, decide (("is_function" : Str) ∈ gn)⟩) (defBody (top 22)) = some f_is_function.code := by kernel_rfl
theorem sc_is_function : FnScope f_is_function.N ["function", "counts"] (defScope (top 22)) := ⟨rfl, rfl, rfl, by decide +kernel, rfl, by decide +kernel, by decide +kernel⟩
def d_is_function : He.DefD := ⟨("is_function", none), "is_function", "is_function", defArgs (top 22), defBody (top 22), defScope (top 22), [], []⟩
theorem cc_is_good : cSs (cS 60 ⟨f_is_good.N, defScope (top 23), true, arity fs, mo, false, false, decide (("is_good" : Str) ∈ gn)⟩) (defBody (top 23)) = some f_is_good.code := by kernel_rfl
theorem sc_is_good : FnScope f_is_good.N ["program"] (defScope (top 23)) := ⟨rfl, rfl, rfl, by decide +kernel, rfl, by decide +kernel, by decide +kernel⟩
def d_is_good : He.DefD := ⟨("is_good", none), "is_good", "is_good", defArgs (top 23), defBody (top 23), defScope (top 23), [], []⟩
theorem cc__law_cell_at : cSs (cS 60 ⟨f__law_cell_at.N, defScope (top 25), true, arity fs, mo, false, false, decide (("_law_cell_at" : Str) ∈ gn)⟩) (defBody (top 25)) = some f__law_cell_at.code := by kernel_rfl
theorem sc__law_cell_at : FnScope f__law_cell_at.N ["_law_script", "_law_k"] (defScope (top 25)) := ⟨rfl, rfl, rfl, by decide +kernel, rfl, by decide +kernel, by decide +kernel⟩
def d__law_cell_at : He.DefD := ⟨("_law_cell_at", none), "_law_cell_at", "_law_cell_at", defArgs (top 25), defBody (top 25), defScope (top 25), [], []⟩
theorem cc__law_next : cSs (cS 60 ⟨f__law_next.N, defScope (top 26), true, arity fs, mo, false, false, decide (("_law_next" : Str) ∈ gn)⟩) (defBody (top 26)) = some f__law_next.code := by kernel_rfl
theorem sc__law_next : FnScope f__law_next.N ["_law_pick"] (defScope (top 26)) := ⟨rfl, rfl, rfl, by decide +kernel, rfl, by decide +kernel, by decide +kernel⟩
def d__law_next : He.DefD := ⟨("_law_next", none), "_law_next", "_law_next", defArgs (top 26), defBody (top 26), defScope (top 26), [], []⟩
theorem cc__law_value : cSs (cS 60 ⟨f__law_value.N, defScope (top 27), true, arity fs, mo, false, false, decide (("_law_value" : Str) ∈ gn)⟩) (defBody (top 27)) = some f__law_value.code := by kernel_rfl
theorem sc__law_value : FnScope f__law_value.N ["_law_pick"] (defScope (top 27)) := ⟨rfl, rfl, rfl, by decide +kernel, rfl, by decide +kernel, by decide +kernel⟩
def d__law_value : He.DefD := ⟨("_law_value", none), "_law_value", "_law_value", defArgs (top 27), defBody (top 27), defScope (top 27), [], []⟩
theorem cc__law_names : cSs (cS 60 ⟨f__law_names.N, defScope (top 28), true, arity fs, mo, false, false, decide (("_law_names" : Str) ∈ gn)⟩) (defBody (top 28)) = some f__law_names.code := by kernel_rfl
theorem sc__law_names : FnScope f__law_names.N ["_law_cell"] (defScope (top 28)) := ⟨rfl, rfl, rfl, by decide +kernel, rfl, by decide +kernel, by decide +kernel⟩
def d__law_names : He.DefD := ⟨("_law_names", none), "_law_names", "_law_names", defArgs (top 28), defBody (top 28), defScope (top 28), [], []⟩
theorem cc__law_few : cSs (cS 60 ⟨f__law_few.N, defScope (top 29), true, arity fs, mo, false, false, decide (("_law_few" : Str) ∈ gn)⟩) (defBody (top 29)) = some f__law_few.code := by kernel_rfl
theorem sc__law_few : FnScope f__law_few.N ["_law_pick", "_law_way"] (defScope (top 29)) := ⟨rfl, rfl, rfl, by decide +kernel, rfl, by decide +kernel, by decide +kernel⟩
def d__law_few : He.DefD := ⟨("_law_few", none), "_law_few", "_law_few", defArgs (top 29), defBody (top 29), defScope (top 29), [], []⟩
theorem cc__law_tame : cSs (cS 60 ⟨f__law_tame.N, defScope (top 30), true, arity fs, mo, false, false, decide (("_law_tame" : Str) ∈ gn)⟩) (defBody (top 30)) = some f__law_tame.code := by kernel_rfl
theorem sc__law_tame : FnScope f__law_tame.N ["_law_pick", "_law_known", "_law_heads_here"] (defScope (top 30)) := ⟨rfl, rfl, rfl, by decide +kernel, rfl, by decide +kernel, by decide +kernel⟩
def d__law_tame : He.DefD := ⟨("_law_tame", none), "_law_tame", "_law_tame", defArgs (top 30), defBody (top 30), defScope (top 30), [], []⟩
theorem cc__law_parts : cSs (cS 60 ⟨f__law_parts.N, defScope (top 31), true, arity fs, mo, false, false, decide (("_law_parts" : Str) ∈ gn)⟩) (defBody (top 31)) = some f__law_parts.code := by kernel_rfl
theorem sc__law_parts : FnScope f__law_parts.N ["_law_pick", "_law_many", "_law_deep_here", "_law_names_here", "_law_known", "_law_heads_here"] (defScope (top 31)) := ⟨rfl, rfl, rfl, by decide +kernel, rfl, by decide +kernel, by decide +kernel⟩
def d__law_parts : He.DefD := ⟨("_law_parts", none), "_law_parts", "_law_parts", defArgs (top 31), defBody (top 31), defScope (top 31), [], []⟩
theorem cc__law_call : cSs (cS 60 ⟨f__law_call.N, defScope (top 32), true, arity fs, mo, false, false, decide (("_law_call" : Str) ∈ gn)⟩) (defBody (top 32)) = some f__law_call.code := by kernel_rfl
theorem sc__law_call : FnScope f__law_call.N ["_law_pick", "_law_deep_here", "_law_names_here", "_law_known", "_law_heads_here"] (defScope (top 32)) := ⟨rfl, rfl, rfl, by decide +kernel, rfl, by decide +kernel, by decide +kernel⟩
def d__law_call : He.DefD := ⟨("_law_call", none), "_law_call", "_law_call", defArgs (top 32), defBody (top 32), defScope (top 32), [], []⟩
theorem cc__law_do : cSs (cS 60 ⟨f__law_do.N, defScope (top 33), true, arity fs, mo, false, false, decide (("_law_do" : Str) ∈ gn)⟩) (defBody (top 33)) = some f__law_do.code := by kernel_rfl
theorem sc__law_do : FnScope f__law_do.N ["_law_pick", "_law_deep_here", "_law_names_here", "_law_known", "_law_heads_here"] (defScope (top 33)) := ⟨rfl, rfl, rfl, by decide +kernel, rfl, by decide +kernel, by decide +kernel⟩
def d__law_do : He.DefD := ⟨("_law_do", none), "_law_do", "_law_do", defArgs (top 33), defBody (top 33), defScope (top 33), [], []⟩
theorem cc__law_form : cSs (cS 60 ⟨f__law_form.N, defScope (top 34), true, arity fs, mo, false, false, decide (("_law_form" : Str) ∈ gn)⟩) (defBody (top 34)) = some f__law_form.code := by kernel_rfl
theorem sc__law_form : FnScope f__law_form.N ["_law_pick", "_law_deep_here", "_law_names_here", "_law_known", "_law_heads_here"] (defScope (top 34)) := ⟨rfl, rfl, rfl, by decide +kernel, rfl, by decide +kernel, by decide +kernel⟩
def d__law_form : He.DefD := ⟨("_law_form", none), "_law_form", "_law_form", defArgs (top 34), defBody (top 34), defScope (top 34), [], []⟩
theorem cc__law_heads : cSs (cS 60 ⟨f__law_heads.N, defScope (top 35), true, arity fs, mo, false, false, decide (("_law_heads" : Str) ∈ gn)⟩) (defBody (top 35)) = some f__law_heads.code := by kernel_rfl
theorem sc__law_heads : FnScope f__law_heads.N ["_law_script"] (defScope (top 35)) := ⟨rfl, rfl, rfl, by decide +kernel, rfl, by decide +kernel, by decide +kernel⟩
def d__law_heads : He.DefD := ⟨("_law_heads", none), "_law_heads", "_law_heads", defArgs (top 35), defBody (top 35), defScope (top 35), [], []⟩
theorem cc__law_program : cSs (cS 60 ⟨f__law_program.N, defScope (top 36), true, arity fs, mo, false, false, decide (("_law_program" : Str) ∈ gn)⟩) (defBody (top 36)) = some f__law_program.code := by kernel_rfl
theorem sc__law_program : FnScope f__law_program.N ["_law_script", "_law_heads_here"] (defScope (top 36)) := ⟨rfl, rfl, rfl, by decide +kernel, rfl, by decide +kernel, by decide +kernel⟩
def d__law_program : He.DefD := ⟨("_law_program", none), "_law_program", "_law_program", defArgs (top 36), defBody (top 36), defScope (top 36), [], []⟩
theorem cc__law_heads_of : cSs (cS 60 ⟨f__law_heads_of.N, defScope (top 39), true, arity fs, mo, false, false, decide (("_law_heads_of" : Str) ∈ gn)⟩) (defBody (top 39)) = some f__law_heads_of.code := by kernel_rfl
theorem sc__law_heads_of : FnScope f__law_heads_of.N ["_law_form_here"] (defScope (top 39)) := ⟨rfl, rfl, rfl, by decide +kernel, rfl, by decide +kernel, by decide +kernel⟩
def d__law_heads_of : He.DefD := ⟨("_law_heads_of", none), "_law_heads_of", "_law_heads_of", defArgs (top 39), defBody (top 39), defScope (top 39), [], []⟩
theorem cc__law_put : cSs (cS 60 ⟨f__law_put.N, defScope (top 40), true, arity fs, mo, false, false, decide (("_law_put" : Str) ∈ gn)⟩) (defBody (top 40)) = some f__law_put.code := by kernel_rfl
theorem sc__law_put : FnScope f__law_put.N ["_law_form_here", "_law_at", "_law_other"] (defScope (top 40)) := ⟨rfl, rfl, rfl, by decide +kernel, rfl, by decide +kernel, by decide +kernel⟩
def d__law_put : He.DefD := ⟨("_law_put", none), "_law_put", "_law_put", defArgs (top 40), defBody (top 40), defScope (top 40), [], []⟩
theorem cc__law_odd : cSs (cS 60 ⟨f__law_odd.N, defScope (top 41), true, arity fs, mo, false, false, decide (("_law_odd" : Str) ∈ gn)⟩) (defBody (top 41)) = some f__law_odd.code := by kernel_rfl
theorem sc__law_odd : FnScope f__law_odd.N ["_law_heads_here", "_law_way"] (defScope (top 41)) := ⟨rfl, rfl, rfl, by decide +kernel, rfl, by decide +kernel, by decide +kernel⟩
def d__law_odd : He.DefD := ⟨("_law_odd", none), "_law_odd", "_law_odd", defArgs (top 41), defBody (top 41), defScope (top 41), [], []⟩
theorem cc__law_deep : cSs (cS 60 ⟨f__law_deep.N, defScope (top 42), true, arity fs, mo, false, false, decide (("_law_deep" : Str) ∈ gn)⟩) (defBody (top 42)) = some f__law_deep.code := by kernel_rfl
theorem sc__law_deep : FnScope f__law_deep.N ["_law_many"] (defScope (top 42)) := ⟨rfl, rfl, rfl, by decide +kernel, rfl, by decide +kernel, by decide +kernel⟩
def d__law_deep : He.DefD := ⟨("_law_deep", none), "_law_deep", "_law_deep", defArgs (top 42), defBody (top 42), defScope (top 42), [], []⟩
theorem cc__law_with : cSs (cS 60 ⟨f__law_with.N, defScope (top 43), true, arity fs, mo, false, false, decide (("_law_with" : Str) ∈ gn)⟩) (defBody (top 43)) = some f__law_with.code := by kernel_rfl
theorem sc__law_with : FnScope f__law_with.N ["_law_program_here", "_law_k", "_law_function"] (defScope (top 43)) := ⟨rfl, rfl, rfl, by decide +kernel, rfl, by decide +kernel, by decide +kernel⟩
def d__law_with : He.DefD := ⟨("_law_with", none), "_law_with", "_law_with", defArgs (top 43), defBody (top 43), defScope (top 43), [], []⟩
theorem cc__law_spoilt : cSs (cS 60 ⟨f__law_spoilt.N, defScope (top 44), true, arity fs, mo, false, false, decide (("_law_spoilt" : Str) ∈ gn)⟩) (defBody (top 44)) = some f__law_spoilt.code := by kernel_rfl
theorem sc__law_spoilt : FnScope f__law_spoilt.N ["_law_program_here", "_law_heads_here", "_law_way", "_law_cell"] (defScope (top 44)) := ⟨rfl, rfl, rfl, by decide +kernel, rfl, by decide +kernel, by decide +kernel⟩
def d__law_spoilt : He.DefD := ⟨("_law_spoilt", none), "_law_spoilt", "_law_spoilt", defArgs (top 44), defBody (top 44), defScope (top 44), [], []⟩
theorem cc__law_truth : cSs (cS 60 ⟨f__law_truth.N, defScope (top 45), true, arity fs, mo, false, false, decide (("_law_truth" : Str) ∈ gn)⟩) (defBody (top 45)) = some f__law_truth.code := by kernel_rfl
theorem sc__law_truth : FnScope f__law_truth.N ["_law_found", "_law_due"] (defScope (top 45)) := ⟨rfl, rfl, rfl, by decide +kernel, rfl, by decide +kernel, by decide +kernel⟩
def d__law_truth : He.DefD := ⟨("_law_truth", none), "_law_truth", "_law_truth", defArgs (top 45), defBody (top 45), defScope (top 45), [], []⟩
theorem cc__law_is_name : cSs (cS 60 ⟨f__law_is_name.N, defScope (top 46), true, arity fs, mo, false, false, decide (("_law_is_name" : Str) ∈ gn)⟩) (defBody (top 46)) = some f__law_is_name.code := by kernel_rfl
theorem sc__law_is_name : FnScope f__law_is_name.N ["_law_text_here"] (defScope (top 46)) := ⟨rfl, rfl, rfl, by decide +kernel, rfl, by decide +kernel, by decide +kernel⟩
def d__law_is_name : He.DefD := ⟨("_law_is_name", none), "_law_is_name", "_law_is_name", defArgs (top 46), defBody (top 46), defScope (top 46), [], []⟩
theorem cc__law_text : cSs (cS 60 ⟨f__law_text.N, defScope (top 47), true, arity fs, mo, false, false, decide (("_law_text" : Str) ∈ gn)⟩) (defBody (top 47)) = some f__law_text.code := by kernel_rfl
theorem sc__law_text : FnScope f__law_text.N ["_law_cell"] (defScope (top 47)) := ⟨rfl, rfl, rfl, by decide +kernel, rfl, by decide +kernel, by decide +kernel⟩
def d__law_text : He.DefD := ⟨("_law_text", none), "_law_text", "_law_text", defArgs (top 47), defBody (top 47), defScope (top 47), [], []⟩
theorem cc__law_sure : cSs (cS 60 ⟨f__law_sure.N, defScope (top 48), true, arity fs, mo, false, false, decide (("_law_sure" : Str) ∈ gn)⟩) (defBody (top 48)) = some f__law_sure.code := by kernel_rfl
theorem sc__law_sure : FnScope f__law_sure.N [] (defScope (top 48)) := ⟨rfl, rfl, rfl, by decide +kernel, rfl, by decide +kernel, by decide +kernel⟩
def d__law_sure : He.DefD := ⟨("_law_sure", none), "_law_sure", "_law_sure", defArgs (top 48), defBody (top 48), defScope (top 48), [], []⟩
theorem cc_law : cSs (cS 60 ⟨f_law.N, defScope (top 49), true, arity fs, mo, false, false, decide (("law" : Str) ∈ gn)⟩) (defBody (top 49)) = some f_law.code := by kernel_rfl
theorem sc_law : FnScope f_law.N ["_law_script"] (defScope (top 49)) := ⟨rfl, rfl, rfl, by decide +kernel, rfl, by decide +kernel, by decide +kernel⟩
def d_law : He.DefD := ⟨("law", none), "law", "law", defArgs (top 49), defBody (top 49), defScope (top 49), [], []⟩
def fn : List He.DefD := [d_is_number, d_is_value, d_is_operation, d_takes, d_is_name, d_are_unlike, d_is_body, d_are_bodies, d_can_do, d_can_call, d_is_function, d_is_good, d__law_cell_at, d__law_next, d__law_value, d__law_names, d__law_few, d__law_tame, d__law_parts, d__law_call, d__law_do, d__law_form, d__law_heads, d__law_program, d__law_heads_of, d__law_put, d__law_odd, d__law_deep, d__law_with, d__law_spoilt, d__law_truth, d__law_is_name, d__law_text, d__law_sure, d_law]
def fa : List He.Fa := (fs.map fun p => .glo p.1) ++ hd.fa
def ts : List He.Tab := hd.tabs.map fun t => ((fun K => He.ga K t.1), t.2.1)
def tf : List He.Defn := gn.map fun x => (x, none)
abbrev R : PySem.W.OpenRow := PySem.W.OpenLaw.row PySem.Challenge.rw_halfrun_k03_good_programs
abbrev hk : PySem.W.Hook := He.hookX 4 fa fn ts tf hd.ex
def ob (s : PySem.W.SharedT) : He.AlX := He.obsX 4 fa fn ts tf hd.ex (HandSHeadRun.getT s)
theorem ob_eq (s : PySem.W.SharedT) : ob s = hk.obs s.abs := He.obsX_eq (HandSHeadRun.getT_eq s)
def others : List Str := [("is_number" : Str), ("is_value" : Str), ("is_operation" : Str), ("takes" : Str), ("is_name" : Str), ("are_unlike" : Str), ("is_body" : Str), ("are_bodies" : Str), ("can_do" : Str), ("can_call" : Str), ("is_function" : Str), ("is_good" : Str), ("_law_cell_at" : Str), ("_law_next" : Str), ("_law_value" : Str), ("_law_names" : Str), ("_law_few" : Str), ("_law_tame" : Str), ("_law_parts" : Str), ("_law_call" : Str), ("_law_do" : Str), ("_law_form" : Str), ("_law_heads" : Str), ("_law_program" : Str), ("_law_inputs" : Str), ("_law_sorting" : Str), ("_law_heads_of" : Str), ("_law_put" : Str), ("_law_odd" : Str), ("_law_deep" : Str), ("_law_with" : Str), ("_law_spoilt" : Str), ("_law_truth" : Str), ("_law_is_name" : Str), ("_law_text" : Str), ("_law_sure" : Str), ("WORDS" : Str), ("BOUND" : Str), ("MOST_WEIGHT" : Str), ("LETTERS" : Str), ("FIGURES" : Str), ("MOST_SIGNS" : Str), ("MOST_PARAMETERS" : Str), ("MOST_DEPTH" : Str), ("TAKEN" : Str)]
theorem run_f (w : World) : HandSHeadRun.RunEq R (PySem.W.view R.prog [49]) hk ob 30000 others (wf1 false w) := by
  intro os
  kernel_rfl
theorem run_t (w : World) : HandSHeadRun.RunEq R (PySem.W.view R.prog [49]) hk ob 30000 others (wf1 true w) := by
  intro os
  kernel_rfl
theorem run (w : World) : HandSHeadRun.RunEq R (PySem.W.view R.prog [49]) hk ob 30000 others w := world_of (M := fun w => HandSHeadRun.RunEq R (PySem.W.view R.prog [49]) hk ob 30000 others w) w fun b => match b with
  | false => run_f w
  | true => run_t w
section
variable {K : PySem.W.Frag} {h : Heap} {mg : Str → Option Value} {w : World}
theorem glo_at (X : K.In h) (G : h.Ns mainGlobals mg) (c : He.SaysX fa fn ts tf hd.ex w h K) {f : Str} {df : Df} (hf : (f, df) ∈ fs) : mg f = some (.ref (He.ga K f)) :=
  He.glo_ok X G (c.t.d.facts (f := .glo f) (List.mem_append_left _ (List.mem_map_of_mem (f := fun p : Str × Df => He.Fa.glo p.1) hf)))
theorem in_is_number : (("is_number" : Str), f_is_number) ∈ fs := List.mem_of_getElem? (i := 0) rfl
theorem at_is_number (X : K.In h) (G : h.Ns mainGlobals mg) (c : He.SaysX fa fn ts tf hd.ex w h K) : AnyAt (csOf K tf) ⟨K, mg, w, none, tbOf K tf⟩ pg "is_number" f_is_number := by
  obtain ⟨fd, F⟩ := c.t.d.def_ 0 (d := d_is_number) rfl
  exact ⟨_, _, _, _, _, fd, _, 60, glo_at X G c in_is_number, F, sc_is_number, cc_is_number, fun h => absurd h (by decide +kernel), fun _ => ⟨rfl, F.bindsN fun _ _ _ _ _ _ us hl => match us, hl with | [_], _ => rfl⟩, fun h => (nomatch h)⟩
theorem in_is_value : (("is_value" : Str), f_is_value) ∈ fs := List.mem_of_getElem? (i := 1) rfl
theorem at_is_value (X : K.In h) (G : h.Ns mainGlobals mg) (c : He.SaysX fa fn ts tf hd.ex w h K) : AnyAt (csOf K tf) ⟨K, mg, w, none, tbOf K tf⟩ pg "is_value" f_is_value := by
  obtain ⟨fd, F⟩ := c.t.d.def_ 1 (d := d_is_value) rfl
  exact ⟨_, _, _, _, _, fd, _, 60, glo_at X G c in_is_value, F, sc_is_value, cc_is_value, fun h => absurd h (by decide +kernel), fun _ => ⟨rfl, F.bindsN fun _ _ _ _ _ _ us hl => match us, hl with | [_], _ => rfl⟩, fun h => (nomatch h)⟩
theorem in_is_operation : (("is_operation" : Str), f_is_operation) ∈ fs := List.mem_of_getElem? (i := 2) rfl
theorem at_is_operation (X : K.In h) (G : h.Ns mainGlobals mg) (c : He.SaysX fa fn ts tf hd.ex w h K) : AnyAt (csOf K tf) ⟨K, mg, w, none, tbOf K tf⟩ pg "is_operation" f_is_operation := by
  obtain ⟨fd, F⟩ := c.t.d.def_ 2 (d := d_is_operation) rfl
  exact ⟨_, _, _, _, _, fd, _, 60, glo_at X G c in_is_operation, F, sc_is_operation, cc_is_operation, fun h => absurd h (by decide +kernel), fun _ => ⟨rfl, F.bindsN fun _ _ _ _ _ _ us hl => match us, hl with | [_], _ => rfl⟩, fun h => (nomatch h)⟩
theorem in_takes : (("takes" : Str), f_takes) ∈ fs := List.mem_of_getElem? (i := 3) rfl
theorem at_takes (X : K.In h) (G : h.Ns mainGlobals mg) (c : He.SaysX fa fn ts tf hd.ex w h K) : AnyAt (csOf K tf) ⟨K, mg, w, none, tbOf K tf⟩ pg "takes" f_takes := by
  obtain ⟨fd, F⟩ := c.t.d.def_ 3 (d := d_takes) rfl
  exact ⟨_, _, _, _, _, fd, _, 60, glo_at X G c in_takes, F, sc_takes, cc_takes, fun h => absurd h (by decide +kernel), fun _ => ⟨rfl, F.bindsN fun _ _ _ _ _ _ us hl => match us, hl with | [_, _], _ => rfl⟩, fun h => (nomatch h)⟩
theorem in_is_name : (("is_name" : Str), f_is_name) ∈ fs := List.mem_of_getElem? (i := 4) rfl
theorem at_is_name (X : K.In h) (G : h.Ns mainGlobals mg) (c : He.SaysX fa fn ts tf hd.ex w h K) : AnyAt (csOf K tf) ⟨K, mg, w, none, tbOf K tf⟩ pg "is_name" f_is_name := by
  obtain ⟨fd, F⟩ := c.t.d.def_ 4 (d := d_is_name) rfl
  exact ⟨_, _, _, _, _, fd, _, 60, glo_at X G c in_is_name, F, sc_is_name, cc_is_name, fun _ => tab_in F (List.mem_map_of_mem (f := fun x : Str => (x, (none : Option Str))) (a := ("is_name" : Str)) (by decide +kernel)), fun _ => ⟨rfl, F.bindsN fun _ _ _ _ _ _ us hl => match us, hl with | [_], _ => rfl⟩, fun h => (nomatch h)⟩
theorem in_are_unlike : (("are_unlike" : Str), f_are_unlike) ∈ fs := List.mem_of_getElem? (i := 5) rfl
theorem at_are_unlike (X : K.In h) (G : h.Ns mainGlobals mg) (c : He.SaysX fa fn ts tf hd.ex w h K) : AnyAt (csOf K tf) ⟨K, mg, w, none, tbOf K tf⟩ pg "are_unlike" f_are_unlike := by
  obtain ⟨fd, F⟩ := c.t.d.def_ 5 (d := d_are_unlike) rfl
  exact ⟨_, _, _, _, _, fd, _, 60, glo_at X G c in_are_unlike, F, sc_are_unlike, cc_are_unlike, fun h => absurd h (by decide +kernel), fun _ => ⟨rfl, F.bindsN fun _ _ _ _ _ _ us hl => match us, hl with | [_], _ => rfl⟩, fun h => (nomatch h)⟩
theorem in_is_body : (("is_body" : Str), f_is_body) ∈ fs := List.mem_of_getElem? (i := 6) rfl
theorem at_is_body (X : K.In h) (G : h.Ns mainGlobals mg) (c : He.SaysX fa fn ts tf hd.ex w h K) : AnyAt (csOf K tf) ⟨K, mg, w, none, tbOf K tf⟩ pg "is_body" f_is_body := by
  obtain ⟨fd, F⟩ := c.t.d.def_ 6 (d := d_is_body) rfl
  exact ⟨_, _, _, _, _, fd, _, 60, glo_at X G c in_is_body, F, sc_is_body, cc_is_body, fun h => absurd h (by decide +kernel), fun _ => ⟨rfl, F.bindsN fun _ _ _ _ _ _ us hl => match us, hl with | [_, _, _, _], _ => rfl⟩, fun h => (nomatch h)⟩
theorem in_are_bodies : (("are_bodies" : Str), f_are_bodies) ∈ fs := List.mem_of_getElem? (i := 7) rfl
theorem at_are_bodies (X : K.In h) (G : h.Ns mainGlobals mg) (c : He.SaysX fa fn ts tf hd.ex w h K) : AnyAt (csOf K tf) ⟨K, mg, w, none, tbOf K tf⟩ pg "are_bodies" f_are_bodies := by
  obtain ⟨fd, F⟩ := c.t.d.def_ 7 (d := d_are_bodies) rfl
  exact ⟨_, _, _, _, _, fd, _, 60, glo_at X G c in_are_bodies, F, sc_are_bodies, cc_are_bodies, fun _ => tab_in F (List.mem_map_of_mem (f := fun x : Str => (x, (none : Option Str))) (a := ("are_bodies" : Str)) (by decide +kernel)), fun _ => ⟨rfl, F.bindsN fun _ _ _ _ _ _ us hl => match us, hl with | [_, _, _, _], _ => rfl⟩, fun h => (nomatch h)⟩
theorem in_can_do : (("can_do" : Str), f_can_do) ∈ fs := List.mem_of_getElem? (i := 8) rfl
theorem at_can_do (X : K.In h) (G : h.Ns mainGlobals mg) (c : He.SaysX fa fn ts tf hd.ex w h K) : AnyAt (csOf K tf) ⟨K, mg, w, none, tbOf K tf⟩ pg "can_do" f_can_do := by
  obtain ⟨fd, F⟩ := c.t.d.def_ 8 (d := d_can_do) rfl
  exact ⟨_, _, _, _, _, fd, _, 60, glo_at X G c in_can_do, F, sc_can_do, cc_can_do, fun h => absurd h (by decide +kernel), fun _ => ⟨rfl, F.bindsN fun _ _ _ _ _ _ us hl => match us, hl with | [_, _], _ => rfl⟩, fun h => (nomatch h)⟩
theorem in_can_call : (("can_call" : Str), f_can_call) ∈ fs := List.mem_of_getElem? (i := 9) rfl
theorem at_can_call (X : K.In h) (G : h.Ns mainGlobals mg) (c : He.SaysX fa fn ts tf hd.ex w h K) : AnyAt (csOf K tf) ⟨K, mg, w, none, tbOf K tf⟩ pg "can_call" f_can_call := by
  obtain ⟨fd, F⟩ := c.t.d.def_ 9 (d := d_can_call) rfl
  exact ⟨_, _, _, _, _, fd, _, 60, glo_at X G c in_can_call, F, sc_can_call, cc_can_call, fun h => absurd h (by decide +kernel), fun _ => ⟨rfl, F.bindsN fun _ _ _ _ _ _ us hl => match us, hl with | [_, _, _], _ => rfl⟩, fun h => (nomatch h)⟩
theorem in_is_function : (("is_function" : Str), f_is_function) ∈ fs := List.mem_of_getElem? (i := 10) rfl
theorem at_is_function (X : K.In h) (G : h.Ns mainGlobals mg) (c : He.SaysX fa fn ts tf hd.ex w h K) : AnyAt (csOf K tf) ⟨K, mg, w, none, tbOf K tf⟩ pg "is_function" f_is_function := by
  obtain ⟨fd, F⟩ := c.t.d.def_ 10 (d := d_is_function) rfl
  exact ⟨_, _, _, _, _, fd, _, 60, glo_at X G c in_is_function, F, sc_is_function, cc_is_function, fun _ => tab_in F (List.mem_map_of_mem (f := fun x : Str => (x, (none : Option Str))) (a := ("is_function" : Str)) (by decide +kernel)), fun _ => ⟨rfl, F.bindsN fun _ _ _ _ _ _ us hl => match us, hl with | [_, _], _ => rfl⟩, fun h => (nomatch h)⟩
theorem in_is_good : (("is_good" : Str), f_is_good) ∈ fs := List.mem_of_getElem? (i := 11) rfl
theorem at_is_good (X : K.In h) (G : h.Ns mainGlobals mg) (c : He.SaysX fa fn ts tf hd.ex w h K) : AnyAt (csOf K tf) ⟨K, mg, w, none, tbOf K tf⟩ pg "is_good" f_is_good := by
  obtain ⟨fd, F⟩ := c.t.d.def_ 11 (d := d_is_good) rfl
  exact ⟨_, _, _, _, _, fd, _, 60, glo_at X G c in_is_good, F, sc_is_good, cc_is_good, fun _ => tab_in F (List.mem_map_of_mem (f := fun x : Str => (x, (none : Option Str))) (a := ("is_good" : Str)) (by decide +kernel)), fun _ => ⟨rfl, F.bindsN fun _ _ _ _ _ _ us hl => match us, hl with | [_], _ => rfl⟩, fun h => (nomatch h)⟩
theorem in__law_cell_at : (("_law_cell_at" : Str), f__law_cell_at) ∈ fs := List.mem_of_getElem? (i := 12) rfl
theorem at__law_cell_at (X : K.In h) (G : h.Ns mainGlobals mg) (c : He.SaysX fa fn ts tf hd.ex w h K) : AnyAt (csOf K tf) ⟨K, mg, w, none, tbOf K tf⟩ pg "_law_cell_at" f__law_cell_at := by
  obtain ⟨fd, F⟩ := c.t.d.def_ 12 (d := d__law_cell_at) rfl
  exact ⟨_, _, _, _, _, fd, _, 60, glo_at X G c in__law_cell_at, F, sc__law_cell_at, cc__law_cell_at, fun h => absurd h (by decide +kernel), fun _ => ⟨rfl, F.bindsN fun _ _ _ _ _ _ us hl => match us, hl with | [_, _], _ => rfl⟩, fun h => (nomatch h)⟩
theorem in__law_next : (("_law_next" : Str), f__law_next) ∈ fs := List.mem_of_getElem? (i := 13) rfl
theorem at__law_next (X : K.In h) (G : h.Ns mainGlobals mg) (c : He.SaysX fa fn ts tf hd.ex w h K) : AnyAt (csOf K tf) ⟨K, mg, w, none, tbOf K tf⟩ pg "_law_next" f__law_next := by
  obtain ⟨fd, F⟩ := c.t.d.def_ 13 (d := d__law_next) rfl
  exact ⟨_, _, _, _, _, fd, _, 60, glo_at X G c in__law_next, F, sc__law_next, cc__law_next, fun h => absurd h (by decide +kernel), fun _ => ⟨rfl, F.bindsN fun _ _ _ _ _ _ us hl => match us, hl with | [_], _ => rfl⟩, fun h => (nomatch h)⟩
theorem in__law_value : (("_law_value" : Str), f__law_value) ∈ fs := List.mem_of_getElem? (i := 14) rfl
theorem at__law_value (X : K.In h) (G : h.Ns mainGlobals mg) (c : He.SaysX fa fn ts tf hd.ex w h K) : AnyAt (csOf K tf) ⟨K, mg, w, none, tbOf K tf⟩ pg "_law_value" f__law_value := by
  obtain ⟨fd, F⟩ := c.t.d.def_ 14 (d := d__law_value) rfl
  exact ⟨_, _, _, _, _, fd, _, 60, glo_at X G c in__law_value, F, sc__law_value, cc__law_value, fun h => absurd h (by decide +kernel), fun _ => ⟨rfl, F.bindsN fun _ _ _ _ _ _ us hl => match us, hl with | [_], _ => rfl⟩, fun h => (nomatch h)⟩
theorem in__law_names : (("_law_names" : Str), f__law_names) ∈ fs := List.mem_of_getElem? (i := 15) rfl
theorem at__law_names (X : K.In h) (G : h.Ns mainGlobals mg) (c : He.SaysX fa fn ts tf hd.ex w h K) : AnyAt (csOf K tf) ⟨K, mg, w, none, tbOf K tf⟩ pg "_law_names" f__law_names := by
  obtain ⟨fd, F⟩ := c.t.d.def_ 15 (d := d__law_names) rfl
  exact ⟨_, _, _, _, _, fd, _, 60, glo_at X G c in__law_names, F, sc__law_names, cc__law_names, fun h => absurd h (by decide +kernel), fun _ => ⟨rfl, F.bindsN fun _ _ _ _ _ _ us hl => match us, hl with | [_], _ => rfl⟩, fun h => (nomatch h)⟩
theorem in__law_few : (("_law_few" : Str), f__law_few) ∈ fs := List.mem_of_getElem? (i := 16) rfl
theorem at__law_few (X : K.In h) (G : h.Ns mainGlobals mg) (c : He.SaysX fa fn ts tf hd.ex w h K) : AnyAt (csOf K tf) ⟨K, mg, w, none, tbOf K tf⟩ pg "_law_few" f__law_few := by
  obtain ⟨fd, F⟩ := c.t.d.def_ 16 (d := d__law_few) rfl
  exact ⟨_, _, _, _, _, fd, _, 60, glo_at X G c in__law_few, F, sc__law_few, cc__law_few, fun h => absurd h (by decide +kernel), fun _ => ⟨rfl, F.bindsN fun _ _ _ _ _ _ us hl => match us, hl with | [_, _], _ => rfl⟩, fun h => (nomatch h)⟩
theorem in__law_tame : (("_law_tame" : Str), f__law_tame) ∈ fs := List.mem_of_getElem? (i := 17) rfl
theorem at__law_tame (X : K.In h) (G : h.Ns mainGlobals mg) (c : He.SaysX fa fn ts tf hd.ex w h K) : AnyAt (csOf K tf) ⟨K, mg, w, none, tbOf K tf⟩ pg "_law_tame" f__law_tame := by
  obtain ⟨fd, F⟩ := c.t.d.def_ 17 (d := d__law_tame) rfl
  exact ⟨_, _, _, _, _, fd, _, 60, glo_at X G c in__law_tame, F, sc__law_tame, cc__law_tame, fun h => absurd h (by decide +kernel), fun _ => ⟨rfl, F.bindsN fun _ _ _ _ _ _ us hl => match us, hl with | [_, _, _], _ => rfl⟩, fun h => (nomatch h)⟩
theorem in__law_parts : (("_law_parts" : Str), f__law_parts) ∈ fs := List.mem_of_getElem? (i := 18) rfl
theorem at__law_parts (X : K.In h) (G : h.Ns mainGlobals mg) (c : He.SaysX fa fn ts tf hd.ex w h K) : AnyAt (csOf K tf) ⟨K, mg, w, none, tbOf K tf⟩ pg "_law_parts" f__law_parts := by
  obtain ⟨fd, F⟩ := c.t.d.def_ 18 (d := d__law_parts) rfl
  exact ⟨_, _, _, _, _, fd, _, 60, glo_at X G c in__law_parts, F, sc__law_parts, cc__law_parts, fun h => absurd h (by decide +kernel), fun _ => ⟨rfl, F.bindsN fun _ _ _ _ _ _ us hl => match us, hl with | [_, _, _, _, _, _], _ => rfl⟩, fun h => (nomatch h)⟩
theorem in__law_call : (("_law_call" : Str), f__law_call) ∈ fs := List.mem_of_getElem? (i := 19) rfl
theorem at__law_call (X : K.In h) (G : h.Ns mainGlobals mg) (c : He.SaysX fa fn ts tf hd.ex w h K) : AnyAt (csOf K tf) ⟨K, mg, w, none, tbOf K tf⟩ pg "_law_call" f__law_call := by
  obtain ⟨fd, F⟩ := c.t.d.def_ 19 (d := d__law_call) rfl
  exact ⟨_, _, _, _, _, fd, _, 60, glo_at X G c in__law_call, F, sc__law_call, cc__law_call, fun h => absurd h (by decide +kernel), fun _ => ⟨rfl, F.bindsN fun _ _ _ _ _ _ us hl => match us, hl with | [_, _, _, _, _], _ => rfl⟩, fun h => (nomatch h)⟩
theorem in__law_do : (("_law_do" : Str), f__law_do) ∈ fs := List.mem_of_getElem? (i := 20) rfl
theorem at__law_do (X : K.In h) (G : h.Ns mainGlobals mg) (c : He.SaysX fa fn ts tf hd.ex w h K) : AnyAt (csOf K tf) ⟨K, mg, w, none, tbOf K tf⟩ pg "_law_do" f__law_do := by
  obtain ⟨fd, F⟩ := c.t.d.def_ 20 (d := d__law_do) rfl
  exact ⟨_, _, _, _, _, fd, _, 60, glo_at X G c in__law_do, F, sc__law_do, cc__law_do, fun h => absurd h (by decide +kernel), fun _ => ⟨rfl, F.bindsN fun _ _ _ _ _ _ us hl => match us, hl with | [_, _, _, _, _], _ => rfl⟩, fun h => (nomatch h)⟩
theorem in__law_form : (("_law_form" : Str), f__law_form) ∈ fs := List.mem_of_getElem? (i := 21) rfl
theorem at__law_form (X : K.In h) (G : h.Ns mainGlobals mg) (c : He.SaysX fa fn ts tf hd.ex w h K) : AnyAt (csOf K tf) ⟨K, mg, w, none, tbOf K tf⟩ pg "_law_form" f__law_form := by
  obtain ⟨fd, F⟩ := c.t.d.def_ 21 (d := d__law_form) rfl
  exact ⟨_, _, _, _, _, fd, _, 60, glo_at X G c in__law_form, F, sc__law_form, cc__law_form, fun h => absurd h (by decide +kernel), fun _ => ⟨rfl, F.bindsN fun _ _ _ _ _ _ us hl => match us, hl with | [_, _, _, _, _], _ => rfl⟩, fun h => (nomatch h)⟩
theorem in__law_heads : (("_law_heads" : Str), f__law_heads) ∈ fs := List.mem_of_getElem? (i := 22) rfl
theorem at__law_heads (X : K.In h) (G : h.Ns mainGlobals mg) (c : He.SaysX fa fn ts tf hd.ex w h K) : AnyAt (csOf K tf) ⟨K, mg, w, none, tbOf K tf⟩ pg "_law_heads" f__law_heads := by
  obtain ⟨fd, F⟩ := c.t.d.def_ 22 (d := d__law_heads) rfl
  exact ⟨_, _, _, _, _, fd, _, 60, glo_at X G c in__law_heads, F, sc__law_heads, cc__law_heads, fun h => absurd h (by decide +kernel), fun _ => ⟨rfl, F.bindsN fun _ _ _ _ _ _ us hl => match us, hl with | [_], _ => rfl⟩, fun h => (nomatch h)⟩
theorem in__law_program : (("_law_program" : Str), f__law_program) ∈ fs := List.mem_of_getElem? (i := 23) rfl
theorem at__law_program (X : K.In h) (G : h.Ns mainGlobals mg) (c : He.SaysX fa fn ts tf hd.ex w h K) : AnyAt (csOf K tf) ⟨K, mg, w, none, tbOf K tf⟩ pg "_law_program" f__law_program := by
  obtain ⟨fd, F⟩ := c.t.d.def_ 23 (d := d__law_program) rfl
  exact ⟨_, _, _, _, _, fd, _, 60, glo_at X G c in__law_program, F, sc__law_program, cc__law_program, fun h => absurd h (by decide +kernel), fun _ => ⟨rfl, F.bindsN fun _ _ _ _ _ _ us hl => match us, hl with | [_, _], _ => rfl⟩, fun h => (nomatch h)⟩
theorem in__law_heads_of : (("_law_heads_of" : Str), f__law_heads_of) ∈ fs := List.mem_of_getElem? (i := 24) rfl
theorem at__law_heads_of (X : K.In h) (G : h.Ns mainGlobals mg) (c : He.SaysX fa fn ts tf hd.ex w h K) : AnyAt (csOf K tf) ⟨K, mg, w, none, tbOf K tf⟩ pg "_law_heads_of" f__law_heads_of := by
  obtain ⟨fd, F⟩ := c.t.d.def_ 24 (d := d__law_heads_of) rfl
  exact ⟨_, _, _, _, _, fd, _, 60, glo_at X G c in__law_heads_of, F, sc__law_heads_of, cc__law_heads_of, fun h => absurd h (by decide +kernel), fun _ => ⟨rfl, F.bindsN fun _ _ _ _ _ _ us hl => match us, hl with | [_], _ => rfl⟩, fun h => (nomatch h)⟩
theorem in__law_put : (("_law_put" : Str), f__law_put) ∈ fs := List.mem_of_getElem? (i := 25) rfl
theorem at__law_put (X : K.In h) (G : h.Ns mainGlobals mg) (c : He.SaysX fa fn ts tf hd.ex w h K) : AnyAt (csOf K tf) ⟨K, mg, w, none, tbOf K tf⟩ pg "_law_put" f__law_put := by
  obtain ⟨fd, F⟩ := c.t.d.def_ 25 (d := d__law_put) rfl
  exact ⟨_, _, _, _, _, fd, _, 60, glo_at X G c in__law_put, F, sc__law_put, cc__law_put, fun h => absurd h (by decide +kernel), fun _ => ⟨rfl, F.bindsN fun _ _ _ _ _ _ us hl => match us, hl with | [_, _, _], _ => rfl⟩, fun h => (nomatch h)⟩
theorem in__law_odd : (("_law_odd" : Str), f__law_odd) ∈ fs := List.mem_of_getElem? (i := 26) rfl
theorem at__law_odd (X : K.In h) (G : h.Ns mainGlobals mg) (c : He.SaysX fa fn ts tf hd.ex w h K) : AnyAt (csOf K tf) ⟨K, mg, w, none, tbOf K tf⟩ pg "_law_odd" f__law_odd := by
  obtain ⟨fd, F⟩ := c.t.d.def_ 26 (d := d__law_odd) rfl
  exact ⟨_, _, _, _, _, fd, _, 60, glo_at X G c in__law_odd, F, sc__law_odd, cc__law_odd, fun h => absurd h (by decide +kernel), fun _ => ⟨rfl, F.bindsN fun _ _ _ _ _ _ us hl => match us, hl with | [_, _], _ => rfl⟩, fun h => (nomatch h)⟩
theorem in__law_deep : (("_law_deep" : Str), f__law_deep) ∈ fs := List.mem_of_getElem? (i := 27) rfl
theorem at__law_deep (X : K.In h) (G : h.Ns mainGlobals mg) (c : He.SaysX fa fn ts tf hd.ex w h K) : AnyAt (csOf K tf) ⟨K, mg, w, none, tbOf K tf⟩ pg "_law_deep" f__law_deep := by
  obtain ⟨fd, F⟩ := c.t.d.def_ 27 (d := d__law_deep) rfl
  exact ⟨_, _, _, _, _, fd, _, 60, glo_at X G c in__law_deep, F, sc__law_deep, cc__law_deep, fun h => absurd h (by decide +kernel), fun _ => ⟨rfl, F.bindsN fun _ _ _ _ _ _ us hl => match us, hl with | [_], _ => rfl⟩, fun h => (nomatch h)⟩
theorem in__law_with : (("_law_with" : Str), f__law_with) ∈ fs := List.mem_of_getElem? (i := 28) rfl
theorem at__law_with (X : K.In h) (G : h.Ns mainGlobals mg) (c : He.SaysX fa fn ts tf hd.ex w h K) : AnyAt (csOf K tf) ⟨K, mg, w, none, tbOf K tf⟩ pg "_law_with" f__law_with := by
  obtain ⟨fd, F⟩ := c.t.d.def_ 28 (d := d__law_with) rfl
  exact ⟨_, _, _, _, _, fd, _, 60, glo_at X G c in__law_with, F, sc__law_with, cc__law_with, fun h => absurd h (by decide +kernel), fun _ => ⟨rfl, F.bindsN fun _ _ _ _ _ _ us hl => match us, hl with | [_, _, _], _ => rfl⟩, fun h => (nomatch h)⟩
theorem in__law_spoilt : (("_law_spoilt" : Str), f__law_spoilt) ∈ fs := List.mem_of_getElem? (i := 29) rfl
theorem at__law_spoilt (X : K.In h) (G : h.Ns mainGlobals mg) (c : He.SaysX fa fn ts tf hd.ex w h K) : AnyAt (csOf K tf) ⟨K, mg, w, none, tbOf K tf⟩ pg "_law_spoilt" f__law_spoilt := by
  obtain ⟨fd, F⟩ := c.t.d.def_ 29 (d := d__law_spoilt) rfl
  exact ⟨_, _, _, _, _, fd, _, 60, glo_at X G c in__law_spoilt, F, sc__law_spoilt, cc__law_spoilt, fun h => absurd h (by decide +kernel), fun _ => ⟨rfl, F.bindsN fun _ _ _ _ _ _ us hl => match us, hl with | [_, _, _, _], _ => rfl⟩, fun h => (nomatch h)⟩
theorem in__law_truth : (("_law_truth" : Str), f__law_truth) ∈ fs := List.mem_of_getElem? (i := 30) rfl
theorem at__law_truth (X : K.In h) (G : h.Ns mainGlobals mg) (c : He.SaysX fa fn ts tf hd.ex w h K) : AnyAt (csOf K tf) ⟨K, mg, w, none, tbOf K tf⟩ pg "_law_truth" f__law_truth := by
  obtain ⟨fd, F⟩ := c.t.d.def_ 30 (d := d__law_truth) rfl
  exact ⟨_, _, _, _, _, fd, _, 60, glo_at X G c in__law_truth, F, sc__law_truth, cc__law_truth, fun h => absurd h (by decide +kernel), fun _ => ⟨rfl, F.bindsN fun _ _ _ _ _ _ us hl => match us, hl with | [_, _], _ => rfl⟩, fun h => (nomatch h)⟩
theorem in__law_is_name : (("_law_is_name" : Str), f__law_is_name) ∈ fs := List.mem_of_getElem? (i := 31) rfl
theorem at__law_is_name (X : K.In h) (G : h.Ns mainGlobals mg) (c : He.SaysX fa fn ts tf hd.ex w h K) : AnyAt (csOf K tf) ⟨K, mg, w, none, tbOf K tf⟩ pg "_law_is_name" f__law_is_name := by
  obtain ⟨fd, F⟩ := c.t.d.def_ 31 (d := d__law_is_name) rfl
  exact ⟨_, _, _, _, _, fd, _, 60, glo_at X G c in__law_is_name, F, sc__law_is_name, cc__law_is_name, fun h => absurd h (by decide +kernel), fun _ => ⟨rfl, F.bindsN fun _ _ _ _ _ _ us hl => match us, hl with | [_], _ => rfl⟩, fun h => (nomatch h)⟩
theorem in__law_text : (("_law_text" : Str), f__law_text) ∈ fs := List.mem_of_getElem? (i := 32) rfl
theorem at__law_text (X : K.In h) (G : h.Ns mainGlobals mg) (c : He.SaysX fa fn ts tf hd.ex w h K) : AnyAt (csOf K tf) ⟨K, mg, w, none, tbOf K tf⟩ pg "_law_text" f__law_text := by
  obtain ⟨fd, F⟩ := c.t.d.def_ 32 (d := d__law_text) rfl
  exact ⟨_, _, _, _, _, fd, _, 60, glo_at X G c in__law_text, F, sc__law_text, cc__law_text, fun h => absurd h (by decide +kernel), fun _ => ⟨rfl, F.bindsN fun _ _ _ _ _ _ us hl => match us, hl with | [_], _ => rfl⟩, fun h => (nomatch h)⟩
theorem in__law_sure : (("_law_sure" : Str), f__law_sure) ∈ fs := List.mem_of_getElem? (i := 33) rfl
theorem at__law_sure (X : K.In h) (G : h.Ns mainGlobals mg) (c : He.SaysX fa fn ts tf hd.ex w h K) : AnyAt (csOf K tf) ⟨K, mg, w, none, tbOf K tf⟩ pg "_law_sure" f__law_sure := by
  obtain ⟨fd, F⟩ := c.t.d.def_ 33 (d := d__law_sure) rfl
  exact ⟨_, _, _, _, _, fd, _, 60, glo_at X G c in__law_sure, F, sc__law_sure, cc__law_sure, fun h => absurd h (by decide +kernel), fun _ => ⟨rfl, F.bindsN fun _ _ _ _ _ _ us hl => match us, hl with | [], _ => rfl⟩, fun h => (nomatch h)⟩
theorem in_law : (("law" : Str), f_law) ∈ fs := List.mem_of_getElem? (i := 34) rfl
theorem at_law (X : K.In h) (G : h.Ns mainGlobals mg) (c : He.SaysX fa fn ts tf hd.ex w h K) : AnyAt (csOf K tf) ⟨K, mg, w, none, tbOf K tf⟩ pg "law" f_law := by
  obtain ⟨fd, F⟩ := c.t.d.def_ 34 (d := d_law) rfl
  exact ⟨_, _, _, _, _, fd, _, 60, glo_at X G c in_law, F, sc_law, cc_law, fun h => absurd h (by decide +kernel), fun _ => ⟨rfl, F.bindsN fun _ _ _ _ _ _ us hl => match us, hl with | [_], _ => rfl⟩, fun h => (nomatch h)⟩
theorem all_at (X : K.In h) (G : h.Ns mainGlobals mg) (c : He.SaysX fa fn ts tf hd.ex w h K) (f : Str) (df : Df) (hf : pg.fs.lookup f = some df) : AnyAt (csOf K tf) ⟨K, mg, w, none, tbOf K tf⟩ pg f df := by
  have m : (f, df) ∈ fs := PySem.mem_of_lookup hf
  simp only [fs, List.mem_cons, List.not_mem_nil, or_false, Prod.mk.injEq] at m
  rcases m with ⟨rfl, rfl⟩ | ⟨rfl, rfl⟩ | ⟨rfl, rfl⟩ | ⟨rfl, rfl⟩ | ⟨rfl, rfl⟩ | ⟨rfl, rfl⟩ | ⟨rfl, rfl⟩ | ⟨rfl, rfl⟩ | ⟨rfl, rfl⟩ | ⟨rfl, rfl⟩ | ⟨rfl, rfl⟩ | ⟨rfl, rfl⟩ | ⟨rfl, rfl⟩ | ⟨rfl, rfl⟩ | ⟨rfl, rfl⟩ | ⟨rfl, rfl⟩ | ⟨rfl, rfl⟩ | ⟨rfl, rfl⟩ | ⟨rfl, rfl⟩ | ⟨rfl, rfl⟩ | ⟨rfl, rfl⟩ | ⟨rfl, rfl⟩ | ⟨rfl, rfl⟩ | ⟨rfl, rfl⟩ | ⟨rfl, rfl⟩ | ⟨rfl, rfl⟩ | ⟨rfl, rfl⟩ | ⟨rfl, rfl⟩ | ⟨rfl, rfl⟩ | ⟨rfl, rfl⟩ | ⟨rfl, rfl⟩ | ⟨rfl, rfl⟩ | ⟨rfl, rfl⟩ | ⟨rfl, rfl⟩ | ⟨rfl, rfl⟩
  · exact at_is_number X G c
  · exact at_is_value X G c
  · exact at_is_operation X G c
  · exact at_takes X G c
  · exact at_is_name X G c
  · exact at_are_unlike X G c
  · exact at_is_body X G c
  · exact at_are_bodies X G c
  · exact at_can_do X G c
  · exact at_can_call X G c
  · exact at_is_function X G c
  · exact at_is_good X G c
  · exact at__law_cell_at X G c
  · exact at__law_next X G c
  · exact at__law_value X G c
  · exact at__law_names X G c
  · exact at__law_few X G c
  · exact at__law_tame X G c
  · exact at__law_parts X G c
  · exact at__law_call X G c
  · exact at__law_do X G c
  · exact at__law_form X G c
  · exact at__law_heads X G c
  · exact at__law_program X G c
  · exact at__law_heads_of X G c
  · exact at__law_put X G c
  · exact at__law_odd X G c
  · exact at__law_deep X G c
  · exact at__law_with X G c
  · exact at__law_spoilt X G c
  · exact at__law_truth X G c
  · exact at__law_is_name X G c
  · exact at__law_text X G c
  · exact at__law_sure X G c
  · exact at_law X G c
theorem all_mo (X : K.In h) (G : h.Ns mainGlobals mg) (c : He.SaysX fa fn ts tf hd.ex w h K) : MoOk w ⟨K, mg, w, none, tbOf K tf⟩ pg.mo :=
  Hd.ok X G (by decide +kernel) (fun f hf => c.t.d.facts (List.mem_append_right _ hf)) c.more fun t ht => by
    obtain ⟨i, hi, e⟩ := List.mem_iff_getElem.mp ht
    exact c.t.tab i (t := ((fun K => He.ga K t.1), t.2.1)) (by show (hd.tabs.map _)[i]? = _; rw [List.getElem?_map, List.getElem?_eq_getElem hi, e]; rfl)
theorem nodup : (pg.fs.map (·.1)).Nodup := by decide +kernel
end
def depth : Nat := 200
theorem facts {P : Program} {w : World} {K : PySem.W.Frag} {h : Heap} {mg : Str → Option Value} {f : Addr} (X : K.In h) (G : h.Ns mainGlobals mg) (hfa : mg ("law" : Str) = some (.ref f)) (c : He.SaysX fa fn ts tf hd.ex w h K) :
    ∃ fd : FuncData, (∀ (s : Shared) (v : Value), BindsTo s fd ⟨[v], []⟩ [("_law_script", v)]) ∧ ∀ base : Heap, K.In base → base.Ns mainGlobals mg → (∀ p ∈ tf.map (He.cT K), LamX.TabB base mg p.1 p.2) → FnOk P w K mg base CX0 (depth + 1) f fd ["_law_script"] (fun vs H Q _ => spD ⟨K, mg, w, none, tbOf K tf⟩ 1 (callN pg (depth + 1) "law") vs H Q E0) := by
  obtain ⟨fd, F⟩ := c.t.d.def_ 34 (d := d_law) rfl
  have e := hfa.symm.trans (glo_at X G c in_law)
  cases e
  have b := FunD.bindsA (ps := ["_law_script"]) F fun _ _ _ _ _ _ us hl => match us, hl with | [_], _ => rfl
  have bN : Binds K fd ["_law_script"] [] := F.bindsN fun _ _ _ _ _ _ us hl => match us, hl with | [_], _ => rfl
  refine ⟨fd, fun s v => b s [v] rfl, fun base _ _ hT => ?_⟩
  have A : At (csOf K tf) ⟨K, mg, w, none, tbOf K tf⟩ pg "law" f_law "law" (defArgs (top 49)) (defBody (top 49)) (defScope (top 49)) _ fd ["_law_script"] 60 := ⟨glo_at X G c in_law, F, sc_law, cc_law, fun h => absurd h (by decide +kernel), fun _ => ⟨rfl, bN⟩, fun h => (nomatch h)⟩
  exact fn_no (G := ⟨K, mg, w, none, tbOf K tf⟩) (A.ok rfl nodup rfl rfl (all_mo X G c) (fun f k d n h => (by unfold Pg.hot at h; cases h)) (tabs_ok hT) (by kernel_rfl) depth (defs_ok2 (all_at X G c) nodup rfl rfl (all_mo X G c) (fun f k d n h => (by unfold Pg.hot at h; cases h)) (tabs_ok hT) depth).1 (defs_ok2 (all_at X G c) nodup rfl rfl (all_mo X G c) (fun f k d n h => (by unfold Pg.hot at h; cases h)) (tabs_ok hT) depth).2)

theorem has : Kv.HasL3 pg where
  l__law_names := ⟨f__law_names.N, rfl, by kernel_rfl⟩
  l__law_tame := ⟨f__law_tame.N, rfl, by kernel_rfl⟩
  l__law_parts := ⟨f__law_parts.N, rfl, by kernel_rfl⟩
  l__law_call := ⟨f__law_call.N, rfl, by kernel_rfl⟩
  l__law_do := ⟨f__law_do.N, rfl, by kernel_rfl⟩
  l__law_form := ⟨f__law_form.N, rfl, by kernel_rfl⟩
  l__law_heads := ⟨f__law_heads.N, rfl, by kernel_rfl⟩
  l__law_program := ⟨f__law_program.N, rfl, by kernel_rfl⟩
  l__law_few := ⟨f__law_few.N, rfl, by kernel_rfl⟩
  l__law_cell_at := by kernel_rfl
  l__law_next := by kernel_rfl
  l__law_value := by kernel_rfl
  l_is_number := by kernel_rfl
  l_is_value := by kernel_rfl
  wf := by kernel_rfl
  g_B := by kernel_rfl
  g_M := by kernel_rfl
  l_is_operation := by kernel_rfl
  l_takes := by kernel_rfl
  l_is_name := by kernel_rfl
  l_are_unlike := by kernel_rfl
  l_is_body := by kernel_rfl
  l_are_bodies := by kernel_rfl
  l_can_do := by kernel_rfl
  l_can_call := by kernel_rfl
  l_is_function := by kernel_rfl
  l_is_good := by kernel_rfl
  g_T := by kernel_rfl
  g_W := by kernel_rfl
  g_L := by kernel_rfl
  g_F := by kernel_rfl
  g_S := by kernel_rfl
  g_P := by kernel_rfl
  g_D := by kernel_rfl
  l__law_heads_of := ⟨f__law_heads_of.N, rfl, by kernel_rfl⟩
  l__law_put := ⟨f__law_put.N, rfl, by kernel_rfl⟩
  l__law_odd := ⟨f__law_odd.N, rfl, by kernel_rfl⟩
  l__law_deep := ⟨f__law_deep.N, rfl, by kernel_rfl⟩
  l__law_with := ⟨f__law_with.N, rfl, by kernel_rfl⟩
  l__law_spoilt := ⟨f__law_spoilt.N, rfl, by kernel_rfl⟩
  l__law_truth := ⟨f__law_truth.N, rfl, by kernel_rfl⟩
  l__law_is_name := ⟨f__law_is_name.N, rfl, by kernel_rfl⟩
  l__law_text := ⟨f__law_text.N, rfl, by kernel_rfl⟩
  l__law_sure := ⟨f__law_sure.N, rfl, by kernel_rfl⟩
  l_law := ⟨f_law.N, rfl, by kernel_rfl⟩
theorem law_val (ns : List Int) (h : ns.length ≤ 63) : callN pg (depth + 1) "law" [.lst (ns.map D.int)] = .ok (false, .bl true) := Kv.law_k03 (n := 100) has ns h


theorem law_holds (ns : List Int) (h : ns.length ≤ 63) : ∃ b, callN pg (depth + 1) "law" [.lst (ns.map D.int)] = .ok (b, .bl true) := ⟨_, law_val ns h⟩
end K03
open PySem PySem.W PySem.Calls PyProof.Rows
theorem PySem.Challenge.cw_halfrun_k03_good_programs_holds : PySem.Challenge.rw_halfrun_k03_good_programs.Holds := by
  w_on; o_law
  refine HandSHeadRun.head_any (r := OpenLaw.row PySem.Challenge.rw_halfrun_k03_good_programs) (q := view (OpenLaw.row PySem.Challenge.rw_halfrun_k03_good_programs).prog [49]) (H := K03.hk) (ob := K03.ob) (M := 30000) (loose := K03.others) (d := HandSHeadRun.topDef (OpenLaw.row PySem.Challenge.rw_halfrun_k03_good_programs).prog 49) (kwd := []) K03.ob_eq
    (by kernel_rfl) (fun s => by kernel_rfl) K03.run (by kernel_rfl) (by kernel_rfl) (by kernel_rfl) (by rfl) (by first | assumption | decide +kernel) (by decide +kernel) ⟨rfl, rfl, rfl, rfl, rfl, by decide +kernel⟩ ?hw ?hc
  case hw => w_witness2
  case hc =>
    refine Hf.walk_ofTE (l := PySem.Challenge.rw_halfrun_k03_good_programs) (n := 63) (k := K03.depth + 1) (x := "_law_script") (CX := L2.CX0) rfl (by decide) (by kernel_rfl) ⟨rfl, by decide, by decide⟩ ?F (fun _ _ _ _ z => z)
    intro w mg fa h Y G hmg0
    obtain ⟨K, KX, c⟩ := Y
    have hmg : mg ("law" : PySem.Str) = some (.ref fa) := by
      have e : (HandSHeadRun.topDef (OpenLaw.row PySem.Challenge.rw_halfrun_k03_good_programs).prog 49).name = ("law" : PySem.Str) := by kernel_rfl
      rw [← e]
      exact hmg0
    obtain ⟨fd, hb, hF⟩ := K03.facts (P := (PySem.Challenge.rw_halfrun_k03_good_programs).prog) (w := w) KX G hmg c
    refine ⟨K, KX, fd, K03.tf.map (He.cT K), (fun vs H Q _ => Hf.spD ⟨K, mg, w, none, Hf.tbOf K K03.tf⟩ 1 (Hf.callN K03.pg (K03.depth + 1) "law") vs H Q L2.E0), fun p hp => ?_, fun p hp => ?_, fun p hp => ?_, hb, fun H a ns hl _ hT hS => Hf.law_sp (G := ⟨K, mg, w, none, Hf.tbOf K K03.tf⟩) K03.law_holds H a ns hl (Hf.tabs_at hT) hS, hF⟩
    · obtain ⟨q, hq, e⟩ := List.mem_map.mp hp
      rw [← e]
      exact c.empty q hq
    · obtain ⟨q, hq, e⟩ := List.mem_map.mp hp
      rw [← e]
      exact c.out q hq
    · obtain ⟨q, hq, e⟩ := List.mem_map.mp hp
      rw [← e]
      exact PySem.W.codeHd_of_K KX (c.hd q hq)

