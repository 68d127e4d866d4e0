import PyProof.Rows.All
import PySem.Challenge.RW_halfrun_k02_operations
import HandS.ForMost
import HandS.ForExc
import HandS.TupMul
import HandS.TupAny
import HandS.TupLe
import HandS.IsInst
import HandS.Wide
import HandS.Flow
import HandS.Dict
import HandS.More
import HandS.Star
import HandS.ExcOwn
import HandS.ExcIs
import HandS.HotCalls
import HandS.Defaults
import HandS.HeadHook4
import HandS.Head0
import HandS.Head1
import HandS.Head2
import HandS.HeadEnd
import HandS.HeadHook1
import HandS.HeadHook2
import HandS.HeadHook3
set_option Elab.async false
set_option linter.all false
set_option maxRecDepth 100000
set_option maxHeartbeats 0
/-! Hf0: data by value over the abstract heap; what is frozen, what is one's own; environments by slots. -/
namespace Hf
open PySem PySem.Spec PyProof.Rows L2
set_option autoImplicit false

/-- data by value -/
inductive D where
  | non | bl (b : Bool) | int (i : Int) | str (x : Str)
  | tup (xs : List D) | lst (xs : List D)
  | fn (x : Str) | exc (c : Str)
  | dct (ks : List Str) (vs : List D)
  deriving Inhabited

inductive Res (α : Type) where
  | ok (a : α) | exc (c : Str) | fail
def Res.bind {α β : Type} (r : Res α) (f : α → Res β) : Res β := match r with
  | .ok a => f a
  | .exc c => .exc c
  | .fail => .fail
instance : Monad Res where
  pure := .ok
  bind := Res.bind

abbrev Sy := Addr → Prop
def KL (K : PySem.W.Frag) (a : Addr) (xs : List V) : Prop := ∃ (o : Obj) (its : Array Value) (n : Nat), K.lookup a = some o ∧ o.cls = .type "list" ∧ o.dict = none ∧ o.data = .seq its n ∧ its.size ≤ sizeLine ∧ Vals xs its.toList
def KT (K : PySem.W.Frag) (a : Addr) (xs : List V) : Prop := ∃ (o : Obj) (its : Array Value) (n : Nat), K.lookup a = some o ∧ o.cls = .type "tuple" ∧ o.data = .seq its n ∧ its.size ≤ sizeLine ∧ Vals xs its.toList
def FzL (K : PySem.W.Frag) (H : Hp) (S : Sy) (a : Addr) (xs : List V) : Prop := (S a ∧ Rd H a (.lst xs)) ∨ KL K a xs
theorem FzL.sq {K : PySem.W.Frag} {H : Hp} {S : Sy} {a : Addr} {xs : List V} (h : FzL K H S a xs) : SqL K H a xs := h.imp (·.2) id
def FzT (K : PySem.W.Frag) (H : Hp) (S : Sy) (a : Addr) (xs : List V) : Prop := (S a ∧ Rd H a (.tup xs)) ∨ KT K a xs
theorem FzT.sq {K : PySem.W.Frag} {H : Hp} {S : Sy} {a : Addr} {xs : List V} (h : FzT K H S a xs) : SqT K H a xs := h.imp (·.2) id

/-- what a row of keys and values says of a key -/
def lkD {α : Type} : List Str → List α → Str → Option α
  | k :: ks, x :: xs, z => if k = z then some x else lkD ks xs z
  | _, _, _ => none
def kvD (ks : List Str) (xs : List V) : List (Key × V) := (ks.zip xs).map fun p => (Sum.inr p.1, p.2)
/-- a written dict of the module -/
def KD (K : PySem.W.Frag) (w : World) (a : Addr) (ks : List Str) (xs : List V) : Prop := (∃ es n, KDict K w a es n) ∧ ∀ z, match lkD ks xs z with
  | some v => ∃ u, PySem.W.nsIn K a z = some (some u) ∧ RelV v u
  | none => PySem.W.nsIn K a z = some none
def FzD (K : PySem.W.Frag) (w : World) (H : Hp) (S : Sy) (a : Addr) (ks : List Str) (xs : List V) : Prop := (S a ∧ Rd H a (.dK (kvD ks xs))) ∨ KD K w a ks xs
/-- the world that a def runs in, as far as data speak of it -/
structure Gm where
  K : PySem.W.Frag
  mg : Str → Option Value
  w : World
  /-- the exception that is handled: where it lies, its class's name -/
  hx : Option (Addr × Str)

inductive Rep (G : Gm) (H : Hp) (S : Sy) : D → V → Prop
  | non : Rep G H S .non .non
  | bl (b : Bool) : Rep G H S (.bl b) (.bl b)
  | int (i : Int) : Rep G H S (.int i) (.int i)
  | str (x : Str) : Rep G H S (.str x) (.str x)
  | lst {a : Addr} {xs : List V} {ds : List D} : FzL G.K H S a xs → Paired (Rep G H S) ds xs → Rep G H S (.lst ds) (.ref a)
  | tup {a : Addr} {xs : List V} {ds : List D} : FzT G.K H S a xs → Paired (Rep G H S) ds xs → Rep G H S (.tup ds) (.ref a)
  | fn {x : Str} {a : Addr} : G.mg x = some (.ref a) → Rep G H S (.fn x) (.ref a)
  | exc {c : Str} {a : Addr} : G.hx = some (a, c) → Rep G H S (.exc c) (.ref a)
  | dct {a : Addr} {ks : List Str} {xs : List V} {ds : List D} : FzD G.K G.w H S a ks xs → Paired (Rep G H S) ds xs → Rep G H S (.dct ks ds) (.ref a)

/-- what is frozen here stands there -/
def Keep (H : Hp) (S : Sy) (H' : Hp) (S' : Sy) : Prop := ∀ a, S a → S' a ∧ ∀ o, H a = some o → H' a = some o
theorem Keep.rd {H H' : Hp} {S S' : Sy} (k : Keep H S H' S') {a : Addr} {o : HO} (s : S a) (r : Rd H a o) : S' a ∧ Rd H' a o :=
  ⟨(k a s).1, r.imp ((k a s).2 _) fun ⟨u, e⟩ => ⟨u, (k a s).2 _ e⟩⟩
theorem Keep.fzl {K : PySem.W.Frag} {H H' : Hp} {S S' : Sy} (k : Keep H S H' S') {a : Addr} {xs : List V} (h : FzL K H S a xs) : FzL K H' S' a xs := h.imp (fun z => k.rd z.1 z.2) id
theorem Keep.fzt {K : PySem.W.Frag} {H H' : Hp} {S S' : Sy} (k : Keep H S H' S') {a : Addr} {xs : List V} (h : FzT K H S a xs) : FzT K H' S' a xs := h.imp (fun z => k.rd z.1 z.2) id
theorem Keep.fzd {K : PySem.W.Frag} {w : World} {H H' : Hp} {S S' : Sy} (k : Keep H S H' S') {a : Addr} {ks : List Str} {xs : List V} (h : FzD K w H S a ks xs) : FzD K w H' S' a ks xs := h.imp (fun z => k.rd z.1 z.2) id
mutual
theorem Rep.keep {G : Gm} {H H' : Hp} {S S' : Sy} (k : Keep H S H' S') : ∀ (d : D) (v : V), Rep G H S d v → Rep G H' S' d v
  | .non, _, .non => .non
  | .bl _, _, .bl b => .bl b
  | .int _, _, .int i => .int i
  | .str _, _, .str x => .str x
  | .lst ds, _, .lst h p => .lst (k.fzl h) (Rep.keepL k ds _ p)
  | .tup ds, _, .tup h p => .tup (k.fzt h) (Rep.keepL k ds _ p)
  | .fn _, _, .fn h => .fn h
  | .exc _, _, .exc h => .exc h
  | .dct _ ds, _, .dct h p => .dct (k.fzd h) (Rep.keepL k ds _ p)
theorem Rep.keepL {G : Gm} {H H' : Hp} {S S' : Sy} (k : Keep H S H' S') : ∀ (ds : List D) (xs : List V), Paired (Rep G H S) ds xs → Paired (Rep G H' S') ds xs
  | [], _, .nil => .nil
  | d :: ds, _, .cons h t => .cons (Rep.keep k d _ h) (Rep.keepL k ds _ t)
end

/-- later: nothing that was tracked has changed; what is frozen grows by new things alone -/
structure Gr (H : Hp) (S : Sy) (H' : Hp) (S' : Sy) : Prop where
  same : Same H H'
  sub : ∀ a, S a → S' a
  new : ∀ a, S' a → S a ∨ (H a = none ∧ ∃ o, H' a = some o)
theorem Gr.refl (H : Hp) (S : Sy) : Gr H S H S := ⟨Same.refl H, fun _ h => h, fun _ h => .inl h⟩
theorem Gr.trans {H H1 H2 : Hp} {S S1 S2 : Sy} (a : Gr H S H1 S1) (b : Gr H1 S1 H2 S2) : Gr H S H2 S2 :=
  ⟨a.same.trans b.same, fun x h => b.sub x (a.sub x h), fun x h => (b.new x h).elim (fun z => (a.new x z).imp id fun ⟨q, o, r⟩ => ⟨q, o, b.same _ _ r⟩) fun ⟨z, q⟩ => .inr ⟨a.same.free z, q⟩⟩
theorem Gr.keep {H H' : Hp} {S S' : Sy} (e : Gr H S H' S') : Keep H S H' S' := fun a s => ⟨e.sub a s, fun o h => e.same a o h⟩
theorem Gr.rep {G : Gm} {H H' : Hp} {S S' : Sy} (e : Gr H S H' S') {d : D} {v : V} (h : Rep G H S d v) : Rep G H' S' d v := h.keep e.keep
theorem Gr.reps {G : Gm} {H H' : Hp} {S S' : Sy} (e : Gr H S H' S') {ds : List D} {xs : List V} (h : Paired (Rep G H S) ds xs) : Paired (Rep G H' S') ds xs := Rep.keepL e.keep ds xs h
/-- a new object is laid -/
theorem Gr.laid {H : Hp} {S : Sy} {p : Addr} {o : HO} (h : H p = none) : Gr H S (upd H p o) S :=
  ⟨fun b x e => by rw [upd_ne (ne_of_none e h)]; exact e, fun _ h => h, fun _ h => .inl h⟩
/-- .. and frozen -/
theorem Gr.laidF {H : Hp} {S : Sy} {p : Addr} {o : HO} (h : H p = none) : Gr H S (upd H p o) (fun a => S a ∨ a = p) :=
  ⟨fun b x e => by rw [upd_ne (ne_of_none e h)]; exact e, fun _ h => .inl h, fun a z => z.elim .inl fun e => .inr (by subst e; exact ⟨h, _, upd_same⟩)⟩
/-- what is frozen is there -/
def Dm (H : Hp) (S : Sy) : Prop := ∀ a, S a → ∃ o, H a = some o
theorem Dm.gr {H H' : Hp} {S S' : Sy} (e : Gr H S H' S') (h : Dm H S) : Dm H' S' := fun a z => (e.new a z).elim (fun q => let ⟨o, r⟩ := h a q; ⟨o, e.same _ _ r⟩) fun q => q.2
theorem Dm.no {H : Hp} {S : Sy} (h : Dm H S) {p : Addr} (n : H p = none) : ¬ S p := fun z => by
  obtain ⟨o, r⟩ := h p z
  rw [n] at r
  cases r

/-- one's own list: held by nothing else -/
def Own (G : Gm) (H0 H : Hp) (S : Sy) (d : D) (v : V) : Prop := ∃ a xs ds, v = .ref a ∧ d = .lst ds ∧ ¬ S a ∧ H0 a = none ∧ H a = some (.lst xs) ∧ Paired (Rep G H S) ds xs
def RepO (G : Gm) (H0 H : Hp) (S : Sy) (own : Bool) (d : D) (v : V) : Prop := match own with
  | true => Own G H0 H S d v
  | false => Rep G H S d v
/-- what may be read: frozen, or one's own -/
def Loo (G : Gm) (H : Hp) (S : Sy) (d : D) (v : V) : Prop := Rep G H S d v ∨ ∃ a xs ds, v = .ref a ∧ d = .lst ds ∧ ¬ S a ∧ H a = some (.lst xs) ∧ Paired (Rep G H S) ds xs
theorem RepO.loo {G : Gm} {H0 H : Hp} {S : Sy} {own : Bool} {d : D} {v : V} (h : RepO G H0 H S own d v) : Loo G H S d v := by
  cases own with
  | false => exact .inl h
  | true =>
    obtain ⟨a, xs, ds, e1, e2, e3, _, e4, e5⟩ := h
    exact .inr ⟨a, xs, ds, e1, e2, e3, e4, e5⟩
theorem Loo.ex {G : Gm} {H H' : Hp} {S S' : Sy} (e : Gr H S H' S') {d : D} {v : V} (h : Loo G H S d v) : Loo G H' S' d v := by
  rcases h with h | ⟨a, xs, ds, e1, e2, e3, e4, e5⟩
  · exact .inl (e.rep h)
  · refine .inr ⟨a, xs, ds, e1, e2, fun z => ?_, e.same _ _ e4, e.reps e5⟩
    rcases e.new a z with q | ⟨q, _⟩
    · exact e3 q
    · rw [e4] at q; cases q
/-- an own result is frozen -/
theorem RepO.fz {G : Gm} {H H' : Hp} {S S' : Sy} (e : Gr H S H' S') {own : Bool} {d : D} {v : V} (h : RepO G H H' S' own d v) : ∃ S'', Gr H S H' S'' ∧ Keep H' S' H' S'' ∧ Rep G H' S'' d v := by
  cases own with
  | false => exact ⟨S', e, fun _ s => ⟨s, fun _ h => h⟩, h⟩
  | true =>
    obtain ⟨a, xs, ds, rfl, rfl, ns, h0, ha, hp⟩ := h
    have k : Keep H' S' H' (fun b => S' b ∨ b = a) := fun b s => ⟨.inl s, fun _ h => h⟩
    exact ⟨fun b => S' b ∨ b = a, ⟨e.same, fun b s => .inl (e.sub b s), fun b z => z.elim (e.new b) fun q => .inr (by subst q; exact ⟨h0, _, ha⟩)⟩, k, .lst (.inl ⟨.inr rfl, .inl ha⟩) (Rep.keepL k _ _ hp)⟩

/-! ### environments -/
abbrev En := List (Option (Bool × D))
structure REnv (G : Gm) (H0 H : Hp) (S : Sy) (σ : L2.St) (ρ : En) : Prop where
  len : ρ.length = σ.length
  dom : Dm H S
  slot : ∀ (i : Nat) (b : Bool) (d : D), ρ[i]? = some (some (b, d)) → ∃ v, σ[i]? = some (some v) ∧ RepO G H0 H S b d v
  apart : ∀ (i j : Nat) (d e : D) (a : Addr), i ≠ j → ρ[i]? = some (some (true, d)) → ρ[j]? = some (some (true, e)) → σ[i]? = some (some (.ref a)) → σ[j]? = some (some (.ref a)) → False
theorem RepO.gr {G : Gm} {H0 H H' : Hp} {S S' : Sy} (e : Gr H S H' S') {b : Bool} {d : D} {v : V} (h : RepO G H0 H S b d v) : RepO G H0 H' S' b d v := by
  cases b with
  | false => exact e.rep h
  | true =>
    obtain ⟨a, xs, ds, e1, e2, e3, h0, e4, e5⟩ := h
    refine ⟨a, xs, ds, e1, e2, fun z => ?_, h0, e.same _ _ e4, e.reps e5⟩
    rcases e.new a z with q | ⟨q, _⟩
    · exact e3 q
    · rw [e4] at q; cases q
theorem REnv.gr {G : Gm} {H0 H H' : Hp} {S S' : Sy} {σ : L2.St} {ρ : En} (e : Gr H S H' S') (R : REnv G H0 H S σ ρ) : REnv G H0 H' S' σ ρ :=
  ⟨R.len, R.dom.gr e, fun i b d h => let ⟨v, h1, h2⟩ := R.slot i b d h; ⟨v, h1, h2.gr e⟩, R.apart⟩

/-! ### what an expression gives -/
def Post (G : Gm) (W : Str → Hp → Prop) (H : Hp) (S : Sy) (r : Res (Bool × D)) (Q : VK) : Prop := match r with
  | .ok (b, d) => ∀ v H' S', Gr H S H' S' → RepO G H H' S' b d v → Q v H'
  | .exc c => ∀ H' S', Gr H S H' S' → W c H'
  | .fail => False
def PostB (G : Gm) (W : Str → Hp → Prop) (H : Hp) (S : Sy) (r : Res D) (Q : VK) : Prop := match r with
  | .ok d => ∀ v H' S', Gr H S H' S' → Loo G H' S' d v → Q v H'
  | .exc c => ∀ H' S', Gr H S H' S' → W c H'
  | .fail => False
def PostF (G : Gm) (W : Str → Hp → Prop) (H : Hp) (S : Sy) (r : Res D) (Q : VK) : Prop := match r with
  | .ok d => ∀ v H' S', Gr H S H' S' → Rep G H' S' d v → Q v H'
  | .exc c => ∀ H' S', Gr H S H' S' → W c H'
  | .fail => False
theorem Post.gr {G : Gm} {W : Str → Hp → Prop} {H H2 : Hp} {S S2 : Sy} {r : Res (Bool × D)} {Q : VK} (e : Gr H S H2 S2) (h : Post G W H S r Q) : Post G W H2 S2 r Q := by
  cases r with
  | fail => exact h
  | exc c => exact fun H' S' e' => h H' S' (e.trans e')
  | ok x =>
    obtain ⟨b, d⟩ := x
    intro v H' S' e' q
    refine h v H' S' (e.trans e') ?_
    cases b with
    | false => exact q
    | true =>
      obtain ⟨a, xs, ds, e1, e2, e3, h0, r⟩ := q
      exact ⟨a, xs, ds, e1, e2, e3, e.same.free h0, r⟩
def sndR (r : Res (Bool × D)) : Res D := match r with
  | .ok x => .ok x.2
  | .exc c => .exc c
  | .fail => .fail
end Hf

/-! Hf1: the small language by slots, what its terms give. -/
namespace Hf
open PySem PySem.Spec PyProof.Rows L2
set_option autoImplicit false

inductive Bi where
  | len | tuple | list | sum | abs | int
  deriving DecidableEq
inductive Ty where
  | int | bool | str | tuple | list
  deriving DecidableEq
/-- where a turn's item goes -/
inductive Tg where
  | one (i : Nat) | tup (is : List Nat)
mutual
inductive Ex where
  | lit (d : D) | var (i : Nat) | gl (x : Str)
  | bin (o : Operator) (a b : Ex) | neg (a : Ex)
  | cmp (o : CmpOp) (a b : Ex) | chn (o p : CmpOp) (a b c : Ex)
  | and (a b : Ex) | or (a b : Ex) | not (a : Ex) | ite (c : Te) (a b : Ex)
  | tup (es : Exs) | lst (es : Exs)
  | idx (a i : Ex) | slc (a : Ex) (lo hi : Exo)
  | call (f : Str) (es : Exs)
  | bi (f : Bi) (a : Ex)
  | isi (a : Ex) (t : Ty)
  | star (i : Nat) (a : Ex)
  | dict (ks : List Str) (es : Exs)
  | isx (i : Nat) (ys : List Str) (tp : Bool)
  | comp (t : Tg) (vs : List Nat) (it : Is) (c : Tes) (e : Ex)
inductive Exs where
  | nil | cons (e : Ex) (es : Exs) | star (e : Ex) (es : Exs)
inductive Exo where
  | none | some (e : Ex)
/-- a test -/
inductive Te where
  | val (e : Ex) | and (a b : Te) | or (a b : Te) | not (a : Te)
/-- a clause's test -/
inductive Tes where
  | nil | one (c : Te)
/-- what is walked -/
inductive Is where
  | seq (e : Ex) | rng1 (hi : Ex) | rng2 (lo hi : Ex)
end

/-! ### operations on data -/
def D.tru : D → Res Bool
  | .non => .ok false
  | .bl b => .ok b
  | .int i => .ok (i != 0)
  | .str x => if x.length ≤ sizeLine then .ok ((x.length : Int) != 0) else .fail
  | .tup xs => .ok (!xs.isEmpty)
  | .lst xs => .ok (!xs.isEmpty)
  | _ => .fail
mutual
def D.toP : D → PyData
  | .non => .none
  | .bl b => .bool b
  | .int i => .int i
  | .str x => .str x
  | .tup xs => .tuple (D.toPs xs)
  | .lst xs => .list (D.toPs xs)
  | .fn _ => .none
  | .exc _ => .none
  | .dct _ _ => .none
def D.toPs : List D → List PyData
  | [] => []
  | d :: ds => d.toP :: D.toPs ds
end
mutual
/-- plain data -/
def D.pl : D → Bool
  | .tup xs => D.pls xs
  | .lst xs => D.pls xs
  | .fn _ => false
  | .exc _ => false
  | .dct _ _ => false
  | _ => true
def D.pls : List D → Bool
  | [] => true
  | d :: ds => d.pl && D.pls ds
end
/-- == -/
def D.eqD (a b : D) : Res Bool := if a.pl = true ∧ b.pl = true ∧ a.toP.canLay0 = true ∧ b.toP.canLay0 = true ∧ min a.toP.depth b.toP.depth ≤ 150 then .ok (PyData.eqv a.toP b.toP) else .fail
def okF (d : D) : Res (Bool × D) := .ok (false, d)
def okB (r : Res Bool) : Res (Bool × D) := match r with
  | .ok b => .ok (false, .bl b)
  | .exc c => .exc c
  | .fail => .fail
def MulOk (i j : Int) : Prop := (-(2 ^ 64) < j ∧ j < 2 ^ 64) ∨ (-(2 ^ 64) < i ∧ i < 2 ^ 64) ∨ i.natAbs.log2 + j.natAbs.log2 < 1000000
instance (i j : Int) : Decidable (MulOk i j) := by unfold MulOk; infer_instance
def opD (o : Operator) (a b : D) : Res (Bool × D) := match o, a, b with
  | .Add, .int i, .int j => okF (.int (i + j))
  | .Sub, .int i, .int j => okF (.int (i - j))
  | .Mult, .int i, .int j => if MulOk i j then okF (.int (i * j)) else .fail
  | .FloorDiv, .int i, .int j => if 0 < j ∧ j.natAbs.log2 < 9000 then okF (.int (i / j)) else if j < 0 ∧ j.natAbs.log2 < 9000 then okF (.int (i.fdiv j)) else .fail
  | .Mod, .int i, .int j => if 0 < j then okF (.int (i % j)) else .fail
  | .Pow, .int i, .int j => if 0 ≤ j ∧ j ≤ 1000000 ∧ i.natAbs < 2 ^ 64 then okF (.int (i ^ j.toNat)) else .fail
  | .Add, .str x, .str y => if x.length + y.length ≤ sizeLine then okF (.str (x ++ y)) else .fail
  | .Add, .lst xs, .lst ys => if xs.length + ys.length ≤ sizeLine then .ok (true, .lst (xs ++ ys)) else .fail
  | .Add, .tup xs, .tup ys => if xs.length + ys.length ≤ sizeLine then okF (.tup (xs ++ ys)) else .fail
  | .Mult, .lst xs, .int k => if -(2 ^ 63) ≤ k ∧ k < 2 ^ 63 ∧ xs.length * k.toNat ≤ sizeLine then .ok (true, .lst (List.replicate k.toNat xs).flatten) else .fail
  | .Mult, .tup xs, .int k => if xs ≠ [] ∧ 2 ≤ k ∧ k ≤ 1000 ∧ xs.length ≤ 1000 then okF (.tup (List.replicate k.toNat xs).flatten) else .fail
  | _, _, _ => .fail
def negD : D → Res (Bool × D)
  | .int i => okF (.int (-i))
  | _ => .fail
/-- x in y -/
def inS (a : D) (xs : List D) : Res Bool := if a.pl = true ∧ D.pls xs = true ∧ a.toP.canLay0 = true ∧ PyData.canLayAll0 (D.toPs xs) = true ∧ min (PyData.depthAll (D.toPs xs)) a.toP.depth ≤ 140 then .ok ((D.toPs xs).any fun z => PyData.eqv z a.toP) else .fail
def inD (a b : D) : Res Bool := match b with
  | .tup xs => inS a xs
  | .lst xs => inS a xs
  | .str y => (match a with
    | .str x => .ok (!(Builtin.Str.occurrences y x 0 y.length 1).isEmpty)
    | _ => .fail)
  | .dct ks vs => (match a with
    | .str x => .ok (lkD ks vs x).isSome
    | _ => .fail)
  | _ => .fail
def cmpD (o : CmpOp) (a b : D) : Res Bool := match o, a, b with
  | .Lt, .int i, .int j => .ok (decide (i < j))
  | .LtE, .int i, .int j => .ok (decide (i ≤ j))
  | .Gt, .int i, .int j => .ok (decide (j < i))
  | .GtE, .int i, .int j => .ok (decide (j ≤ i))
  | .Eq, a, b => D.eqD a b
  | .NotEq, a, b => (match D.eqD a b with
    | .ok c => .ok (!c)
    | .exc c => .exc c
    | .fail => .fail)
  | .Is, .bl a, .bl b => .ok (decide (a = b))
  | .IsNot, .bl a, .bl b => .ok (!decide (a = b))
  | .In, a, b => inD a b
  | .NotIn, a, b => (match inD a b with
    | .ok c => .ok (!c)
    | .exc c => .exc c
    | .fail => .fail)
  | _, _, _ => .fail
def idxD (a i : D) : Res (Bool × D) := match a, i with
  | .lst xs, .int i => (match atI xs i with
    | some d => okF d
    | none => .fail)
  | .tup xs, .int i => (match atI xs i with
    | some d => okF d
    | none => .fail)
  | .dct ks vs, .str x => (match lkD ks vs x with
    | some d => okF d
    | none => .fail)
  | .str z, .int i => if z.length ≤ sizeLine then (match atI z.cps.toList i with
    | some c => okF (.str ⟨#[c]⟩)
    | none => .fail) else .fail
  | _, _ => .fail
def cutD (xs : List D) (lo hi : Option Int) : List D := (xs.drop (HT.sIx xs.length 0 lo)).take (HT.sIx xs.length xs.length hi - HT.sIx xs.length 0 lo)
def slcD (a : D) (lo hi : Option Int) : Res (Bool × D) := match a with
  | .lst xs => .ok (true, .lst (cutD xs lo hi))
  | .tup xs => okF (.tup (cutD xs lo hi))
  | .str z => if z.length ≤ sizeLine then okF (.str (cutS z lo hi)) else .fail
  | _ => .fail
def intsOf : List D → Option (List Int)
  | [] => some []
  | .int i :: r => (intsOf r).map (i :: ·)
  | _ => none
def biD (f : Bi) (a : D) : Res (Bool × D) := match f, a with
  | .len, .lst xs => okF (.int xs.length)
  | .len, .tup xs => okF (.int xs.length)
  | .len, .str z => if z.length ≤ sizeLine then okF (.int z.length) else .fail
  | .tuple, .lst xs => okF (.tup xs)
  | .tuple, .tup xs => okF (.tup xs)
  | .list, .lst xs => .ok (true, .lst xs)
  | .list, .tup xs => .ok (true, .lst xs)
  | .sum, .lst xs => (match intsOf xs with
    | some ns => okF (.int ns.sum)
    | none => .fail)
  | .abs, .int i => okF (.int (if i < 0 then -i else i))
  | .int, .int i => okF (.int i)
  | .int, .bl k => okF (.int (if k then 1 else 0))
  | _, _ => .fail
def isiD (a : D) (t : Ty) : Res Bool := match a, t with
  | .fn _, _ => .fail
  | .exc _, _ => .fail
  | .dct _ _, _ => .fail
  | .int _, .int => .ok true
  | .bl _, .int => .ok true
  | .bl _, .bool => .ok true
  | .str _, .str => .ok true
  | .tup _, .tuple => .ok true
  | .lst _, .list => .ok true
  | _, _ => .ok false
def itemsD : D → Res (List D)
  | .lst xs => .ok xs
  | .tup xs => .ok xs
  | _ => .fail

/-! ### environments -/
def getO (ρ : En) (i : Nat) : Res (Bool × D) := match ρ[i]? with
  | some (some x) => .ok x
  | _ => .fail
def getF (ρ : En) (i : Nat) : Res (Bool × D) := match ρ[i]? with
  | some (some (false, d)) => .ok (false, d)
  | _ => .fail
def wipeE (ρ : En) : List Nat → En
  | [] => ρ
  | v :: vs => (wipeE ρ vs).set v none
def setE (ρ : En) (i : Nat) (d : D) : En := ρ.set i (some (false, d))
def setEs : List Nat → List D → En → Res En
  | [], [], ρ => .ok ρ
  | i :: is, d :: ds, ρ => setEs is ds (setE ρ i d)
  | _, _, _ => .fail
def bindT (t : Tg) (d : D) (ρ : En) : Res En := match t with
  | .one i => .ok (setE ρ i d)
  | .tup is => (match d with
    | .tup ds => setEs is ds ρ
    | _ => .fail)
def bor (a : Ex) (ρ : En) (r : Res (Bool × D)) : Res D := match a with
  | .var i => sndR (getO ρ i)
  | _ => sndR r
def intR (r : Res D) : Res Int := match r with
  | .ok (.int i) => .ok i
  | .ok _ => .fail
  | .exc c => .exc c
  | .fail => .fail
/-- what may not raise -/
def noX {α : Type} (r : Res α) : Res α := match r with
  | .ok a => .ok a
  | _ => .fail
/-- the items of a comprehension -/
def compL (f : D → Res (Option D)) : List D → Res (List D)
  | [] => .ok []
  | d :: ds => (f d).bind fun o => (compL f ds).bind fun r => .ok (match o with
    | some y => y :: r
    | none => r)

def rngD (i j : Int) : Res (List D) :=
  if -(2 ^ 62) ≤ i ∧ i < 2 ^ 62 ∧ -(2 ^ 62) ≤ j ∧ j < 2 ^ 62 then .ok ((List.range (j - i).toNat).map fun (k : Nat) => D.int (i + (k : Int))) else .fail

/-- what the text's own defs and constants give -/
structure Tb where
  fn : Str → List D → Res (Bool × D)
  gl : Str → Option D
  ar : Str → Option (Nat × Bool)
  ki : Str → Str → Option Bool
  /-- what an except clause of the class y does with an error of the class c -/
  sub : Str → Str → Option Bool
  /-- what a def says of the error that is handled -/
  hot : Str → Str → Option D
def kiAny (T : Tb) (c : Str) : List Str → Option Bool
  | [] => some false
  | y :: r => match T.ki c y, kiAny T c r with
    | some b, some b' => some (b || b')
    | _, _ => none
/-- isinstance(d, (ys)) of the error that is handled -/
def isxD (T : Tb) (d : D) (ys : List Str) : Res Bool := match d with
  | .exc c => (match kiAny T c ys with
    | some b => .ok b
    | none => .fail)
  | _ => .fail
def arOk : Option (Nat × Bool) → Nat → Bool
  | some (k, false), n => decide (n = k)
  | some (k, true), n => decide (k ≤ n) && decide (n ≤ sizeLine)
  | none, _ => false
/-- f(*a), f a def as a value -/
def starD (T : Tb) (f : D) (r : Res D) : Res (Bool × D) := match f with
  | .fn g => if (T.ar g).isSome = true then r.bind fun a => (itemsD a).bind fun ds => if arOk (T.ar g) ds.length = true then T.fn g ds else .fail else .fail
  | _ => .fail

mutual
def ev (T : Tb) : Ex → En → Res (Bool × D)
  | .lit d, _ => okF d
  | .var i, ρ => getF ρ i
  | .gl x, _ => (match T.gl x with
    | some d => okF d
    | none => .fail)
  | .bin o a b, ρ => (bor a ρ (ev T a ρ)).bind fun x => (bor b ρ (ev T b ρ)).bind fun y => opD o x y
  | .neg a, ρ => (bor a ρ (ev T a ρ)).bind negD
  | .cmp o a b, ρ => (bor a ρ (ev T a ρ)).bind fun x => (bor b ρ (ev T b ρ)).bind fun y => okB (cmpD o x y)
  | .chn o p a b c, ρ => (bor a ρ (ev T a ρ)).bind fun x => (bor b ρ (ev T b ρ)).bind fun y => (cmpD o x y).bind fun k =>
      if k = true then (bor c ρ (ev T c ρ)).bind fun z => okB (cmpD p y z) else okF (.bl false)
  | .and a b, ρ => (ev T a ρ).bind fun x => x.2.tru.bind fun k => if k = true then ev T b ρ else .ok x
  | .or a b, ρ => (ev T a ρ).bind fun x => x.2.tru.bind fun k => if k = true then .ok x else ev T b ρ
  | .not a, ρ => (bor a ρ (ev T a ρ)).bind fun x => x.tru.bind fun k => okF (.bl (!k))
  | .ite c a b, ρ => (evT T c ρ).bind fun k => if k = true then ev T a ρ else ev T b ρ
  | .tup es, ρ => (evs T es ρ).bind fun xs => if xs.length ≤ sizeLine then okF (.tup xs) else .fail
  | .lst es, ρ => (evs T es ρ).bind fun xs => if xs.length ≤ sizeLine then .ok (true, .lst xs) else .fail
  | .idx a i, ρ => (bor a ρ (ev T a ρ)).bind fun x => (bor i ρ (ev T i ρ)).bind fun y => idxD x y
  | .slc a lo hi, ρ => (bor a ρ (ev T a ρ)).bind fun x => (evo T lo ρ).bind fun l => (evo T hi ρ).bind fun h => slcD x l h
  | .call f es, ρ => (evs T es ρ).bind fun xs => T.fn f xs
  | .bi f a, ρ => (bor a ρ (ev T a ρ)).bind fun x => biD f x
  | .star i a, ρ => (getF ρ i).bind fun f => starD T f.2 (bor a ρ (ev T a ρ))
  | .isx i ys _, ρ => (getF ρ i).bind fun x => okB (isxD T x.2 ys)
  | .dict ks es, ρ => (evs T es ρ).bind fun xs => okF (.dct ks xs)
  | .isi a t, ρ => (bor a ρ (ev T a ρ)).bind fun x => okB (isiD x t)
  | .comp t vs it c e, ρ => (evi T it ρ).bind fun ds => if ds.length ≤ sizeLine then (compL (fun d => noX ((bindT t d (wipeE ρ vs)).bind fun ρ' => (evc T c ρ').bind fun k =>
      if k = true then (ev T e ρ').bind fun y => .ok (some y.2) else .ok none)) ds).bind fun ys => .ok (true, .lst ys) else .fail
/-- a test -/
def evT (T : Tb) : Te → En → Res Bool
  | .val e, ρ => (bor e ρ (ev T e ρ)).bind D.tru
  | .and a b, ρ => (evT T a ρ).bind fun k => if k = true then evT T b ρ else .ok false
  | .or a b, ρ => (evT T a ρ).bind fun k => if k = true then .ok true else evT T b ρ
  | .not a, ρ => (evT T a ρ).bind fun k => .ok (!k)
def evs (T : Tb) : Exs → En → Res (List D)
  | .nil, _ => .ok []
  | .cons e es, ρ => (ev T e ρ).bind fun x => (evs T es ρ).bind fun xs => .ok (x.2 :: xs)
  | .star e es, ρ => (bor e ρ (ev T e ρ)).bind fun x => (itemsD x).bind fun ds => (evs T es ρ).bind fun xs => .ok (ds ++ xs)
def evo (T : Tb) : Exo → En → Res (Option Int)
  | .none, _ => .ok none
  | .some e, ρ => (intR (bor e ρ (ev T e ρ))).bind fun i => .ok (some i)
/-- a clause's test -/
def evc (T : Tb) : Tes → En → Res Bool
  | .nil, _ => .ok true
  | .one e, ρ => evT T e ρ
/-- what is walked -/
def evi (T : Tb) : Is → En → Res (List D)
  | .seq e, ρ => (sndR (ev T e ρ)).bind itemsD
  | .rng1 hi, ρ => (intR (bor hi ρ (ev T hi ρ))).bind fun j => rngD 0 j
  | .rng2 lo hi, ρ => (intR (bor lo ρ (ev T lo ρ))).bind fun i => (intR (bor hi ρ (ev T hi ρ))).bind fun j => rngD i j
end
end Hf

/-! Hf2: rules of values. -/
namespace PySem
set_option autoImplicit false
/-! ### lists side by side -/
section
variable {α β : Type} {F : α → β → Prop}
theorem Paired.app : ∀ {l₁ l₂ : List α} {m₁ m₂ : List β}, Paired F l₁ m₁ → Paired F l₂ m₂ → Paired F (l₁ ++ l₂) (m₁ ++ m₂)
  | _, _, _, _, .nil, s => s
  | _, _, _, _, .cons r t, s => .cons r (Paired.app t s)
theorem Paired.tk : ∀ {l : List α} {m : List β} (n : Nat), Paired F l m → Paired F (l.take n) (m.take n)
  | _, _, 0, _ => .nil
  | _, _, _ + 1, .nil => .nil
  | _, _, n + 1, .cons r t => .cons r (Paired.tk n t)
theorem Paired.dp : ∀ {l : List α} {m : List β} (n : Nat), Paired F l m → Paired F (l.drop n) (m.drop n)
  | _, _, 0, r => r
  | _, _, _ + 1, .nil => .nil
  | _, _, n + 1, .cons _ t => Paired.dp n t
theorem Paired.rp {l : List α} {m : List β} (h : Paired F l m) : ∀ k : Nat, Paired F (List.replicate k l).flatten (List.replicate k m).flatten
  | 0 => .nil
  | k + 1 => by
    rw [List.replicate_succ, List.replicate_succ, List.flatten_cons, List.flatten_cons]
    exact Paired.app h (Paired.rp h k)
theorem Paired.gt : ∀ {l : List α} {m : List β} {i : Nat} {x : α}, Paired F l m → l[i]? = some x → ∃ u, m[i]? = some u ∧ F x u
  | _, _, _, _, .nil, e => by simp at e
  | _, _, 0, _, .cons r _, e => by simp at e; subst e; exact ⟨_, rfl, r⟩
  | _, _, i + 1, x, .cons _ t, e => by
    obtain ⟨u, h1, h2⟩ := Paired.gt (i := i) (x := x) t (by simpa using e)
    exact ⟨u, by simpa using h1, h2⟩
theorem Paired.st {x : α} {u : β} (r : F x u) : ∀ {l : List α} {m : List β} (i : Nat), Paired F l m → Paired F (l.set i x) (m.set i u)
  | _, _, _, .nil => .nil
  | _, _, 0, .cons _ t => .cons r t
  | _, _, i + 1, .cons q t => .cons q (Paired.st r i t)
theorem Paired.dl {l : List α} {m : List β} (h : Paired F l m) : Paired F l.dropLast m.dropLast := by
  induction h with
  | nil => exact .nil
  | cons r t ih =>
    cases t with
    | nil => exact .nil
    | cons q t' => exact .cons r ih
theorem Paired.emp {l : List α} {m : List β} (h : Paired F l m) : m.isEmpty = l.isEmpty := by
  cases h <;> rfl
end
end PySem

namespace Hf
open PySem PySem.Spec PyProof.Rows L2
set_option autoImplicit false

/-! ### what loose data are -/
section
variable {G : Gm} {H : Hp} {S : Sy} {x : V}
theorem Loo.non (h : Loo G H S .non x) : x = .non := by
  rcases h with h | ⟨_, _, _, _, e, _⟩
  · cases h; rfl
  · cases e
theorem Loo.bl {b : Bool} (h : Loo G H S (.bl b) x) : x = .bl b := by
  rcases h with h | ⟨_, _, _, _, e, _⟩
  · cases h; rfl
  · cases e
theorem Loo.int {i : Int} (h : Loo G H S (.int i) x) : x = .int i := by
  rcases h with h | ⟨_, _, _, _, e, _⟩
  · cases h; rfl
  · cases e
theorem Loo.str {z : Str} (h : Loo G H S (.str z) x) : x = .str z := by
  rcases h with h | ⟨_, _, _, _, e, _⟩
  · cases h; rfl
  · cases e
theorem Loo.lst {K : PySem.W.Frag} (hK : K = G.K) {ds : List D} (h : Loo G H S (.lst ds) x) : ∃ a xs, x = .ref a ∧ SqL K H a xs ∧ Paired (Rep G H S) ds xs := by
  subst hK
  rcases h with h | ⟨a, xs, ds', e1, e, _, e2, e3⟩
  · cases h with
    | lst q p => exact ⟨_, _, rfl, q.sq, p⟩
  · cases e; exact ⟨a, xs, e1, .inl (.inl e2), e3⟩
theorem Loo.tup {ds : List D} (h : Loo G H S (.tup ds) x) : ∃ a xs, x = .ref a ∧ FzT G.K H S a xs ∧ Paired (Rep G H S) ds xs := by
  rcases h with h | ⟨_, _, _, _, e, _⟩
  · cases h with
    | tup q p => exact ⟨_, _, rfl, q, p⟩
  · cases e
theorem Loo.dct {ks : List Str} {ds : List D} (h : Loo G H S (.dct ks ds) x) : ∃ a xs, x = .ref a ∧ FzD G.K G.w H S a ks xs ∧ Paired (Rep G H S) ds xs := by
  rcases h with h | ⟨_, _, _, _, e, _⟩
  · cases h with
    | dct q p => exact ⟨_, _, rfl, q, p⟩
  · cases e
theorem Loo.rep_tup {ds : List D} (h : Loo G H S (.tup ds) x) : Rep G H S (.tup ds) x := by
  rcases h with h | ⟨_, _, _, _, e, _⟩
  · exact h
  · cases e
end
theorem sql {K : PySem.W.Frag} {H : Hp} {a : Addr} {xs : List V} (h : Rd H a (.lst xs)) : SqL K H a xs := .inl h
theorem cutD_pair {G : Gm} {H : Hp} {S : Sy} {ds : List D} {xs : List V} (h : Paired (Rep G H S) ds xs) (lo hi : Option Int) : Paired (Rep G H S) (cutD ds lo hi) (cutV xs lo hi) := by
  unfold cutD cutV
  rw [Paired.length h]
  exact Paired.tk _ (Paired.dp _ h)

/-! ### truth -/
theorem tru_rep {G : Gm} {H : Hp} {S : Sy} {d : D} {v : V} {k : Bool} (h : Loo G H S d v) (e : d.tru = .ok k) : TruV G.K v H k := by
  cases d with
  | non => rw [h.non]; cases e; exact rfl
  | bl b => rw [h.bl]; cases e; exact rfl
  | int i => rw [h.int]; cases e; exact rfl
  | str z =>
    rw [h.str]
    have e' : (if z.length ≤ sizeLine then Res.ok ((z.length : Int) != 0) else Res.fail) = Res.ok k := e
    split at e'
    · cases e'; exact ⟨by assumption, rfl⟩
    · cases e'
  | lst ds =>
    obtain ⟨a, xs, rfl, r, p⟩ := h.lst rfl
    cases e
    exact .inl ⟨xs, r, by rw [p.emp]⟩
  | tup ds =>
    obtain ⟨a, xs, rfl, r, p⟩ := h.tup
    cases e
    exact .inr (.inl ⟨xs, r.sq, by rw [p.emp]⟩)
  | fn _ => cases e
  | exc _ => cases e
  | dct _ _ => cases e

/-! ### operators -/
def rD (G : Gm) (h : D → D → Res (Bool × D)) : R2 := fun x y H Q => ∃ W S dx dy, Dm H S ∧ Loo G H S dx x ∧ Loo G H S dy y ∧ Post G W H S (h dx dy) Q
section
variable {G : Gm} {W : Str → Hp → Prop} {H : Hp} {S : Sy} {Q : VK}
theorem Post.f {d : D} {v : V} (p : Post G W H S (okF d) Q) (r : Rep G H S d v) : Q v H := p v H S (Gr.refl H S) r
/-- a new list of frozen things -/
theorem Post.new {ds : List D} {xs : List V} (q : Post G W H S (.ok (true, .lst ds)) Q) (dm : Dm H S) (r : Paired (Rep G H S) ds xs) (p : Addr) (hp : H p = none) : Q (.ref p) (upd H p (.lst xs)) :=
  have e : Gr H S (upd H p (.lst xs)) S := Gr.laid hp
  q _ _ S e ⟨p, xs, ds, rfl, rfl, dm.no hp, hp, upd_same, e.reps r⟩
/-- a new tuple -/
theorem Post.newT {ds : List D} {xs : List V} (q : Post G W H S (okF (.tup ds)) Q) (r : Paired (Rep G H S) ds xs) (p : Addr) (hp : H p = none) : Q (.ref p) (upd H p (.tup xs)) :=
  have e : Gr H S (upd H p (.tup xs)) (fun a => S a ∨ a = p) := Gr.laidF hp
  q _ _ _ e (.tup (.inl ⟨.inr rfl, .inl upd_same⟩) (e.reps r))
end
section
variable {X : Cx} {G : Gm}
theorem op_catR : OpR X (binaryOp .Add) (fun x y H Q => ∃ l b xs zs, x = .ref l ∧ y = .ref b ∧ SqL X.K H l xs ∧ SqL X.K H b zs ∧ xs.length + zs.length ≤ sizeLine ∧ ∀ p, H p = none → Q (.ref p) (upd H p (.lst (xs ++ zs)))) := by
  intro pins s σ H x y v u Q I rx ry h
  obtain ⟨l, b, xs, zs, rfl, rfl, hH, hB, hz, q⟩ := h
  cases rx
  cases ry
  obtain ⟨its, r, ⟨⟨cls, dd, data, sl⟩, n, ho, hc, hn, hd⟩, _⟩ := I.list hH
  obtain ⟨its2, r2, ⟨⟨cls2, dd2, data2, sl2⟩, n2, ho2, hc2, hn2, hd2⟩, _⟩ := I.list hB
  simp only at hc hd hc2 hd2 hn hn2
  subst hc hd hc2 hd2 hn hn2
  have hl := r.length
  have hl2 := r2.length
  have e : its.toArray ++ its2.toArray = (its ++ its2).toArray := by simp
  refine concat_meets ⟨_, ho, rfl⟩ ⟨_, ho2, rfl⟩ noFill_list_add seq_list_add PySem.F.slot_list_add PySem.F.entry_list_add (PySem.F.args_list_add_2 _ _) (list_addW l b its.toArray its2.toArray n n2 none none sl sl2 (by rw [List.size_toArray, List.size_toArray]; omega)) ⟨ho, ho2, ?_⟩
  rw [e]
  exact ⟨.ref _, _, I.lnew (t' := s.toks) (r.append r2) (by rw [List.length_append]; omega), rfl, q _ I.fresh⟩
open PySem.AutoSeq1 (wpAny_loadPart') in
theorem list_mulW (l : Addr) (items : Array Value) (n : Nat) (sl : Array (Option Value)) (x : Int) (u : Tok) (hc0 : ¬(!Builtin.List.listFitsIndex x) = true) (hc1 : ¬items.size * x.toNat > (2 ^ 63 - 1) / 8) (hc2 : ¬Builtin.List.listTooLong (items.size * x.toNat) = true)
    (hsz : (List.foldl (fun x1 x2 => x1 ++ x2) #[] (List.replicate (if items.isEmpty = true then 0 else x.toNat) items)).size ≤ sizeLine) :
    Meets (Builtin.«list.__mul__» ⟨[.ref l, .int x u], []⟩) (fun _ R s => s.heap.get? l = some { cls := .type "list", dict := none, data := .seq items n, slots := sl } ∧ R (.ok (.ret (Value.ref s.heap.objs.size))) { s with heap := s.heap.push { cls := Value.type "list", data := Data.seq (List.foldl (fun x1 x2 => x1 ++ x2) #[] (List.replicate (if items.isEmpty = true then 0 else x.toNat) items)) }, toks := s.toks }) :=
  .of_wp fun prog w A R s h => by
    obtain ⟨hp, g, d, tk, os⟩ := s; obtain ⟨hl, h⟩ := h
    have f1 := AutoSeq1.idx_int
    wp_walk using wpAny_loadPart' hl; refine wpAny_ite_false (decide_eq_false (Nat.not_lt.mpr hsz)) ?_; wp_walk using wpAny_loadPart' hl; exact ⟨_, rfl, h⟩
open PySem.AutoSeq1 (wpAny_loadPart') in
theorem int_rmul_listW (a : Int) (t : Tok) (l : Addr) (items : Array Value) (n : Nat) (sl : Array (Option Value)) :
    Meets (Builtin.«int.__rmul__» ⟨[.int a t, .ref l], []⟩) (fun _ R s => s.heap.get? l = some { cls := .type "list", dict := none, data := .seq items n, slots := sl } ∧ R (.ok (.ret Value.notImplemented)) s) :=
  .of_wp fun prog w A R s h => by obtain ⟨hp, g, d, tk, os⟩ := s; obtain ⟨hl, h⟩ := h; wp_walk using wpAny_loadPart' hl; exact ⟨_, rfl, h⟩
/-- list * int -/
theorem op_repR : OpR X (binaryOp .Mult) (fun x y H Q => ∃ l k xs, x = .ref l ∧ y = .int k ∧ SqL X.K H l xs ∧ -(2 ^ 63) ≤ k ∧ k < 2 ^ 63 ∧ xs.length * k.toNat ≤ sizeLine ∧
    ∀ p, H p = none → Q (.ref p) (upd H p (.lst (List.replicate k.toNat xs).flatten))) := by
  intro pins s σ H x y v u Q I rx ry h
  obtain ⟨l, k, xs, rfl, rfl, hH, h1, h2, hz, q⟩ := h
  cases rx
  obtain ⟨t, rfl⟩ := ry
  obtain ⟨its, r, ⟨⟨cls, dd, data, sl⟩, n, e, hc, hn, hd⟩, z⟩ := I.list hH
  simp only at hc hd hn
  subst hc hd hn
  have hl := r.length
  have hlen : its.toArray.size * k.toNat ≤ sizeLine := by rw [List.size_toArray, ← hl]; exact hz
  have hcap : ¬ its.toArray.size * k.toNat > (2 ^ 63 - 1) / 8 := by
    have : (sizeLine : Nat) ≤ (2 ^ 63 - 1) / 8 := by decide
    omega
  have hfit : ¬ (!Builtin.List.listFitsIndex k) = true := by
    rw [fitsIndex_both h1 h2]
    exact Bool.false_ne_true
  have hlong : ¬ Builtin.List.listTooLong (its.toArray.size * k.toNat) = true := by
    rw [notLongL hlen]
    exact Bool.false_ne_true
  have hnew : List.foldl (fun x1 x2 => x1 ++ x2) #[] (List.replicate (if its.toArray.isEmpty = true then 0 else k.toNat) its.toArray) = (List.replicate k.toNat its).flatten.toArray := by
    have f0 : ∀ m : Nat, List.foldl (fun x1 x2 => x1 ++ x2) #[] (List.replicate m its.toArray) = (List.replicate m its).flatten.toArray := fun m => by
      have := foldl_rep its m []
      rw [List.nil_append] at this
      exact this
    rw [f0]
    cases its with
    | nil => simp
    | cons a r' => rw [if_neg (by simp)]
  refine wpAny_binaryOp_repeat_ref (T := "list") (U := "int") (by decide) ⟨_, e, rfl⟩ (fun s' => typeIs_int s' k t) noFill_list_mul F.fills_int_mul F.slot_int_rmul repeat_list F.slot_int_index.lookup
    (call_meets F.slot_int_rmul (typeIs_int s k t) F.entry_int_rmul (F.args_int_rmul_2 _ _) (int_rmul_listW k t l its.toArray n sl)
      ⟨e, rfl, ⟨_, e, rfl⟩, call_meets F.slot_list_mul ⟨_, e, rfl⟩ F.entry_list_mul (F.args_list_mul_2 _ _) (list_mulW l its.toArray n sl k t hfit hcap hlong (by rw [hnew, List.size_toArray, PyProof.Rows.lm_len_rep_flat, Nat.mul_comm, ← hl]; exact hz)) ⟨e, ?_⟩⟩)
  rw [hnew]
  exact ⟨.ref _, _, I.lnew (t' := s.toks) (r.rep k.toNat) (by rw [PyProof.Rows.lm_len_rep_flat, Nat.mul_comm]; exact hz), rfl, q _ I.fresh⟩
/-- two rules, by which of them the data ask -/
theorem op_pick {f : Value → Value → Sem Value} {h : D → D → Res (Bool × D)} (pick : ∀ (pins : List (Addr × Obj)) (s : Shared) (σ : L2.St) (H : Hp) (W : Str → Hp → Prop) (S : Sy) (x y : V) (v u : Value) (Q : VK) (dx dy : D), Inv X pins σ H s → RelV x v → RelV y u → Dm H S → Loo G H S dx x → Loo G H S dy y → Post G W H S (h dx dy) Q →
    wpAny (model X.prog X.w) X.A (f v u) (EP X pins σ Q) X.xe s) : OpR X f (rD G h) := by
  intro pins s σ H x y v u Q I rx ry h
  obtain ⟨W, S, dx, dy, dm, lx, ly, p⟩ := h
  exact pick pins s σ H W S x y v u Q dx dy I rx ry dm lx ly p
theorem Post.ite {W : Str → Hp → Prop} {H : Hp} {S : Sy} {c : Prop} [Decidable c] {r : Res (Bool × D)} {Q : VK} (p : Post G W H S (if c then r else .fail) Q) : c ∧ Post G W H S r Q := by
  by_cases z : c
  · rw [if_pos z] at p; exact ⟨z, p⟩
  · rw [if_neg z] at p; exact p.elim
theorem MulOk.ok {i j : Int} (h : MulOk i j) : IntMulOk i j := by
  rcases h with h | h | h
  · exact CMul.ok (.inr h)
  · exact CMul.ok (.inl h)
  · exact CMulW.ok h
theorem op_mulM : OpR X (binaryOp .Mult) (rI MulOk fun i j => .int (i * j)) := opI fun _ _ _ _ _ _ _ hc q => mul_int q hc.ok
theorem op_fdivNeg : OpR X (binaryOp .FloorDiv) (rI (fun _ j => j < 0 ∧ j.natAbs.log2 < 9000) fun i j => .int (i.fdiv j)) := opI fun i j _ _ _ _ _ hc q => floordiv_int (by omega) q (.inl (PyProof.noPylong_of_log2 hc.2))
theorem op_binD (hK : X.K = G.K) (o : Operator) : OpR X (binaryOp o) (rD G (opD o)) := by
  refine op_pick fun pins s σ H W S x y v u Q dx dy I rx ry dm lx ly p => ?_
  cases dx with
  | int i =>
    cases dy with
    | int j =>
      have ex := lx.int
      have ey := ly.int
      subst ex ey
      cases o with
      | Add => exact op_add pins s σ H _ _ v u Q I rx ry ⟨i, j, rfl, rfl, p.f (.int _)⟩
      | Sub => exact op_sub pins s σ H _ _ v u Q I rx ry ⟨i, j, rfl, rfl, p.f (.int _)⟩
      | Mult =>
        obtain ⟨c, p⟩ := Post.ite p
        exact op_mulM pins s σ H _ _ v u Q I rx ry ⟨i, j, rfl, rfl, c, p.f (.int _)⟩
      | FloorDiv =>
        have p : Post G W H S (if 0 < j ∧ j.natAbs.log2 < 9000 then okF (.int (i / j)) else if j < 0 ∧ j.natAbs.log2 < 9000 then okF (.int (i.fdiv j)) else .fail) Q := p
        by_cases c : 0 < j ∧ j.natAbs.log2 < 9000
        · rw [if_pos c] at p
          exact op_fdivW pins s σ H _ _ v u Q I rx ry ⟨i, j, rfl, rfl, c, p.f (.int _)⟩
        · rw [if_neg c] at p
          obtain ⟨c, p⟩ := Post.ite p
          exact op_fdivNeg pins s σ H _ _ v u Q I rx ry ⟨i, j, rfl, rfl, c, p.f (.int _)⟩
      | Mod =>
        obtain ⟨c, p⟩ := Post.ite p
        exact op_mod pins s σ H _ _ v u Q I rx ry ⟨i, j, rfl, rfl, c, p.f (.int _)⟩
      | Pow =>
        obtain ⟨c, p⟩ := Post.ite p
        exact op_pow pins s σ H _ _ v u Q I rx ry ⟨i, j, rfl, rfl, c, p.f (.int _)⟩
      | _ => exact False.elim p
    | _ => cases o <;> exact False.elim p
  | str a =>
    cases dy with
    | str b =>
      have ex := lx.str
      have ey := ly.str
      subst ex ey
      cases o with
      | Add =>
        obtain ⟨c, p⟩ := Post.ite p
        exact op_add_str pins s σ H _ _ v u Q I rx ry ⟨a, b, rfl, rfl, c, p.f (.str _)⟩
      | _ => exact False.elim p
    | _ => cases o <;> exact False.elim p
  | lst as =>
    obtain ⟨a, xs, rfl, ra, pa⟩ := lx.lst hK
    cases dy with
    | lst bs =>
      obtain ⟨b, ys, rfl, rb, pb⟩ := ly.lst hK
      cases o with
      | Add =>
        obtain ⟨c, p⟩ := Post.ite p
        exact op_catR pins s σ H _ _ v u Q I rx ry ⟨a, b, xs, ys, rfl, rfl, ra, rb, by rw [← Paired.length pa, ← Paired.length pb]; exact c, fun q hq => p.new dm (pa.app pb) q hq⟩
      | _ => exact False.elim p
    | int k =>
      have ey := ly.int
      subst ey
      cases o with
      | Mult =>
        obtain ⟨⟨c1, c2, c3⟩, p⟩ := Post.ite p
        exact op_repR pins s σ H _ _ v u Q I rx ry ⟨a, k, xs, rfl, rfl, ra, c1, c2, by rw [← Paired.length pa]; exact c3, fun q hq => p.new dm (pa.rp _) q hq⟩
      | _ => exact False.elim p
    | _ => cases o <;> exact False.elim p
  | tup as =>
    obtain ⟨a, xs, rfl, ra, pa⟩ := lx.tup
    cases dy with
    | tup bs =>
      obtain ⟨b, ys, rfl, rb, pb⟩ := ly.tup
      cases o with
      | Add =>
        obtain ⟨c, p⟩ := Post.ite p
        refine op_catA pins s σ H _ _ v u Q I rx ry ⟨a, b, xs, ys, rfl, rfl, by rw [hK]; exact ra.sq, by rw [hK]; exact rb.sq, by rw [← Paired.length pa, ← Paired.length pb]; exact c, fun e => ?_, fun _ e => ?_, fun _ _ q hq => p.newT (pa.app pb) q hq⟩
        · subst e
          cases pa
          exact p.f (.tup rb pb)
        · subst e
          cases pb
          exact p.f (.tup ra (by rw [List.append_nil]; exact pa))
      | _ => exact False.elim p
    | int k =>
      have ey := ly.int
      subst ey
      cases o with
      | Mult =>
        obtain ⟨⟨c1, c2, c3, c4⟩, p⟩ := Post.ite p
        have hn : xs ≠ [] := fun z => by
          subst z
          cases pa
          exact c1 rfl
        exact op_repT pins s σ H _ _ v u Q I rx ry ⟨a, k, xs, rfl, rfl, by rw [hK]; exact ra.sq, hn, c2, c3, by rw [← Paired.length pa]; exact c4, fun q hq => p.newT (pa.rp _) q hq⟩
      | _ => exact False.elim p
    | _ => cases o <;> exact False.elim p
  | _ => cases o <;> cases dy <;> exact False.elim p
end
end Hf

/-! Hf3: comparisons, subscripts, built-in functions, by values. -/
namespace Hf
open PySem PySem.Spec PyProof.Rows L2
set_option autoImplicit false
section
variable {G : Gm} {H : Hp} {S : Sy}
mutual
theorem Rep.dp : ∀ (d : D) (v : V), d.pl = true → Rep G H S d v → Dp G.K H v d.toP
  | .non, _, _, .non => .non
  | .bl _, _, _, .bl b => .bl b
  | .int _, _, _, .int i => .int i
  | .str _, _, _, .str x => .str x
  | .lst ds, _, h, .lst q p => .lst q.sq (Rep.dps ds _ h p)
  | .tup ds, _, h, .tup q p => .tup q.sq (Rep.dps ds _ h p)
  | .fn _, _, h, _ => by cases h
  | .exc _, _, h, _ => by cases h
  | .dct _ _, _, h, _ => by cases h
theorem Rep.dps : ∀ (ds : List D) (vs : List V), D.pls ds = true → Paired (Rep G H S) ds vs → DpAll G.K H vs (D.toPs ds)
  | [], _, _, .nil => .nil
  | d :: ds, _, h, .cons r t => by
    have h' : (d.pl && D.pls ds) = true := h
    rw [Bool.and_eq_true] at h'
    exact .cons (Rep.dp d _ h'.1 r) (Rep.dps ds _ h'.2 t)
end
theorem Loo.dp {d : D} {v : V} (hp : d.pl = true) (h : Loo G H S d v) : Dp G.K H v d.toP := by
  rcases h with h | ⟨a, xs, ds, rfl, rfl, _, e2, e3⟩
  · exact Rep.dp d v hp h
  · exact .lst (sql (.inl e2)) (Rep.dps ds _ hp e3)
end
section
variable {X : Cx} {G : Gm}
theorem Post.okB {W : Str → Hp → Prop} {H : Hp} {S : Sy} {r : Res Bool} {Q : VK} (p : Post G W H S (okB r) Q) (hx : ∀ c, r ≠ .exc c) : ∃ k, r = .ok k ∧ Q (.bl k) H := by
  cases r with
  | ok k => exact ⟨k, rfl, p.f (.bl k)⟩
  | exc c => exact absurd rfl (hx c)
  | fail => exact False.elim p
theorem eqD_ok {a b : D} {k : Bool} (e : D.eqD a b = .ok k) : a.pl = true ∧ b.pl = true ∧ a.toP.canLay0 = true ∧ b.toP.canLay0 = true ∧ min a.toP.depth b.toP.depth ≤ 150 ∧ k = PyData.eqv a.toP b.toP := by
  unfold D.eqD at e
  split at e
  · rename_i h
    cases e
    exact ⟨h.1, h.2.1, h.2.2.1, h.2.2.2.1, h.2.2.2.2, rfl⟩
  · cases e
theorem eqD_nox {a b : D} {c : Str} : D.eqD a b ≠ .exc c := fun e => by
  unfold D.eqD at e
  split at e <;> cases e
theorem cmp_eq (hK : X.K = G.K) (hu : X.A.units + 150 < cLine) {pins : List (Addr × Obj)} {s : Shared} {σ : L2.St} {H : Hp} {S : Sy} {x y : V} {v u : Value} {Q : VK} {dx dy : D} {k : Bool} (I : Inv X pins σ H s) (rx : RelV x v) (ry : RelV y u) (lx : Loo G H S dx x) (ly : Loo G H S dy y)
    (e : D.eqD dx dy = .ok k) : (Q (.bl k) H → wpAny (model X.prog X.w) X.A (compareOp .Eq v u) (EP X pins σ Q) X.xe s) ∧ (Q (.bl (!k)) H → wpAny (model X.prog X.w) X.A (compareOp .NotEq v u) (EP X pins σ Q) X.xe s) := by
  obtain ⟨h1, h2, h3, h4, h5, rfl⟩ := eqD_ok e
  obtain ⟨as, r1⟩ := Dp.reads I dx.toP x v (by rw [hK]; exact lx.dp h1) rx
  obtain ⟨bs, r2⟩ := Dp.reads I dy.toP y u (by rw [hK]; exact ly.dp h2) ry
  have hr : X.A.units + min dx.toP.depth dy.toP.depth < cLine := by omega
  exact ⟨fun q => SeqAt.compareEq_reads r1 r2 h3 h4 hr ⟨.bl _, H, I, rfl, q⟩, fun q => SeqAt.compareNe_reads r1 r2 h3 h4 hr ⟨.bl _, H, I, rfl, q⟩⟩
theorem inS_ok {a : D} {xs : List D} {k : Bool} (e : inS a xs = .ok k) : a.pl = true ∧ D.pls xs = true ∧ a.toP.canLay0 = true ∧ PyData.canLayAll0 (D.toPs xs) = true ∧ min (PyData.depthAll (D.toPs xs)) a.toP.depth ≤ 140 ∧ k = (D.toPs xs).any fun z => PyData.eqv z a.toP := by
  unfold inS at e
  split at e
  · rename_i h
    cases e
    exact ⟨h.1, h.2.1, h.2.2.1, h.2.2.2.1, h.2.2.2.2, rfl⟩
  · cases e
theorem valV_kvD (ks : List Str) (xs : List V) (z : Str) : valV (kvD ks xs) (.inr z) = lkD ks xs z := by
  induction ks generalizing xs with
  | nil => rfl
  | cons k r ih =>
    cases xs with
    | nil => rfl
    | cons x t =>
      show valV ((Sum.inr k, x) :: kvD r t) (Sum.inr z) = if k = z then some x else lkD r t z
      by_cases e : k = z
      · rw [if_pos e, valV_pos (by rw [e])]
      · rw [if_neg e, valV_neg (fun q => e (Sum.inr.inj q)), ih]
theorem lkD_pair {F : D → V → Prop} {ds : List D} {xs : List V} (p : Paired F ds xs) (z : Str) : ∀ ks : List Str, (∀ d, lkD ks ds z = some d → ∃ v, lkD ks xs z = some v ∧ F d v) ∧ (lkD ks xs z).isSome = (lkD ks ds z).isSome := by
  induction p with
  | nil => intro ks; cases ks <;> exact ⟨(fun _ e => nomatch e), rfl⟩
  | @cons a b l m h t ih =>
    intro ks
    cases ks with
    | nil => exact ⟨(fun _ e => nomatch e), rfl⟩
    | cons k r =>
      by_cases e : k = z
      · refine ⟨fun d q => ?_, ?_⟩
        · rw [lkD, if_pos e] at q ⊢
          cases q
          exact ⟨_, rfl, h⟩
        · rw [lkD, lkD, if_pos e, if_pos e] <;> rfl
      · refine ⟨fun d q => ?_, ?_⟩
        · rw [lkD, if_neg e] at q ⊢
          exact (ih r).1 d q
        · rw [lkD, lkD, if_neg e, if_neg e]
          exact (ih r).2
theorem dct_in (hK : X.K = G.K) (hW : X.w = G.w) (hu : X.A.units + 150 < cLine) {pins : List (Addr × Obj)} {s : Shared} {σ : L2.St} {H : Hp} {S : Sy} {v u : Value} {Q : VK} {z : Str} {a : Addr} {ks : List Str} {xs : List V} (I : Inv X pins σ H s) (rx : RelV (.str z) v) (ry : RelV (.ref a) u) (q : FzD G.K G.w H S a ks xs) :
    (Q (.bl (lkD ks xs z).isSome) H → wpAny (model X.prog X.w) X.A (compareOp .In v u) (EP X pins σ Q) X.xe s) ∧ (Q (.bl (!(lkD ks xs z).isSome)) H → wpAny (model X.prog X.w) X.A (compareOp .NotIn v u) (EP X pins σ Q) X.xe s) := by
  have hu1 : X.A.units + 1 < cLine := by omega
  rcases q with ⟨_, q⟩ | ⟨⟨es, n, hd⟩, hz⟩
  · have g : DGet H a (kV (.inr z)) (lkD ks xs z) := .inl ⟨_, .inr z, q, rfl, (valV_kvD ks xs z).symm⟩
    cases ry
    exact ⟨fun p => d_in hu1 I g rx fun s' I' => ⟨.bl _, H, I', rfl, p⟩, fun p => d_notIn hu1 I g rx fun s' I' => ⟨.bl _, H, I', rfl, p⟩⟩
  · have hd' : KDict X.K X.w a es n := by rw [hK, hW]; exact hd
    have h := hz z
    have key : ∃ r, PySem.W.nsIn X.K a z = some r ∧ r.isSome = (lkD ks xs z).isSome := by
      rw [hK]
      cases e : lkD ks xs z with
      | none => rw [e] at h; exact ⟨none, h, rfl⟩
      | some w => rw [e] at h; obtain ⟨u', h1, _⟩ := h; exact ⟨some u', h1, rfl⟩
    obtain ⟨r, h1, h2⟩ := key
    exact ⟨fun p => op_in_kd hd' pins s σ H _ _ v u Q I rx ry ⟨z, r, rfl, rfl, h1, by rw [h2]; exact p⟩, fun p => op_notIn_kd hd' pins s σ H _ _ v u Q I rx ry ⟨z, r, rfl, rfl, h1, by rw [h2]; exact p⟩⟩
theorem ix_dct (hK : X.K = G.K) (hW : X.w = G.w) (hu : X.A.units + 150 < cLine) : IxR X (fun x y H Q => ∃ (S : Sy) (a : Addr) (z : Str) (ks : List Str) (xs : List V) (v : V), x = .ref a ∧ y = .str z ∧ FzD G.K G.w H S a ks xs ∧ lkD ks xs z = some v ∧ Q v H) := by
  intro value slice pins s σ H x y v u Q I rx ry h hs
  obtain ⟨S, a, z, ks, xs, w, rfl, rfl, q, e, p⟩ := h
  have hu1 : X.A.units + 1 < cLine := by omega
  rcases q with ⟨_, q⟩ | ⟨⟨es, n, hd⟩, hz⟩
  · have g : DGet H a (kV (.inr z)) (some w) := .inl ⟨_, .inr z, q, rfl, by rw [valV_kvD, e]⟩
    obtain rfl : v = Value.ref a := rx
    exact tail_any (dict_typeIs I g) PySem.F.slot_dict_getitem.lookup (d_getItem hu1 I g ry fun w' s' I' rw' => ⟨w, H, I', rw', p⟩) hs
  · have h := hz z
    rw [e] at h
    obtain ⟨u', h1, h2⟩ := h
    exact ix_kdict value slice pins s σ H _ _ v u Q I rx ry ⟨a, z, w, rfl, rfl, ⟨es, n, u', by rw [hK]; exact hd.at_, by rw [hW]; exact hd.lit, by rw [hK]; exact h1, h2⟩, p⟩ hs
theorem inD_nox {a b : D} {c : Str} : inD a b ≠ .exc c := fun e => by
  cases b with
  | tup xs =>
    have e' : inS a xs = .exc c := e
    unfold inS at e'
    split at e' <;> cases e'
  | lst xs =>
    have e' : inS a xs = .exc c := e
    unfold inS at e'
    split at e' <;> cases e'
  | str y => cases a <;> cases e
  | dct ks vs => cases a <;> cases e
  | _ => cases e
theorem cmp_in (hK : X.K = G.K) (hW : X.w = G.w) (hu : X.A.units + 150 < cLine) {pins : List (Addr × Obj)} {s : Shared} {σ : L2.St} {H : Hp} {S : Sy} {x y : V} {v u : Value} {Q : VK} {dx dy : D} {k : Bool} (I : Inv X pins σ H s) (rx : RelV x v) (ry : RelV y u) (lx : Loo G H S dx x) (ly : Loo G H S dy y)
    (e : inD dx dy = .ok k) : (Q (.bl k) H → wpAny (model X.prog X.w) X.A (compareOp .In v u) (EP X pins σ Q) X.xe s) ∧ (Q (.bl (!k)) H → wpAny (model X.prog X.w) X.A (compareOp .NotIn v u) (EP X pins σ Q) X.xe s) := by
  cases dy with
  | tup xs =>
    obtain ⟨h1, h2, h3, h4, h5, rfl⟩ := inS_ok e
    obtain ⟨as, r1⟩ := Dp.reads I dx.toP x v (by rw [hK]; exact lx.dp h1) rx
    obtain ⟨bs, r2⟩ := Dp.reads I (D.tup xs).toP y u (by rw [hK]; exact ly.dp h2) ry
    have hr : X.A.units + 1 + min (PyData.depthAll (D.toPs xs)) dx.toP.depth < cLine := by omega
    exact ⟨fun q => SeqAt.in_tuple_reads r2 r1 h4 h3 hr ⟨.bl _, H, I, rfl, q⟩, fun q => SeqAt.notIn_tuple_reads r2 r1 h4 h3 hr ⟨.bl _, H, I, rfl, q⟩⟩
  | lst xs =>
    obtain ⟨h1, h2, h3, h4, h5, rfl⟩ := inS_ok e
    obtain ⟨as, r1⟩ := Dp.reads I dx.toP x v (by rw [hK]; exact lx.dp h1) rx
    obtain ⟨bs, r2⟩ := Dp.reads I (D.lst xs).toP y u (by rw [hK]; exact ly.dp h2) ry
    have hr : X.A.units + 1 + min (PyData.depthAll (D.toPs xs)) dx.toP.depth < cLine := by omega
    exact ⟨fun q => SeqAt.in_list_reads r2 r1 h4 h3 hr ⟨.bl _, H, I, rfl, q⟩, fun q => SeqAt.notIn_list_reads r2 r1 h4 h3 hr ⟨.bl _, H, I, rfl, q⟩⟩
  | str b =>
    cases dx with
    | str a =>
      cases e
      cases lx.str
      cases ly.str
      exact ⟨fun q => op_in_str pins s σ H _ _ v u Q I rx ry ⟨a, b, rfl, rfl, q⟩, fun q => op_notin_str pins s σ H _ _ v u Q I rx ry ⟨a, b, rfl, rfl, q⟩⟩
    | _ => cases e
  | dct ks ds =>
    cases dx with
    | str z =>
      cases e
      cases lx.str
      obtain ⟨a, xs, rfl, q, p⟩ := ly.dct
      rw [← (lkD_pair p z ks).2]
      exact dct_in hK hW hu I rx ry q
    | _ => cases e
  | _ => cases e
theorem cm_in {a b : D} : cmpD .In a b = inD a b := by cases a <;> cases b <;> rfl
theorem cm_notin {a b : D} : cmpD .NotIn a b = (match inD a b with | .ok c => Res.ok (!c) | .exc c => .exc c | .fail => .fail) := by cases a <;> cases b <;> rfl
theorem cmpD_nox {o : CmpOp} {a b : D} {c : Str} : cmpD o a b ≠ .exc c := fun e => by
  cases o with
  | Eq => exact eqD_nox e
  | NotEq =>
    have e' : (match D.eqD a b with | .ok c => Res.ok (!c) | .exc c => .exc c | .fail => .fail) = Res.exc c := e
    cases q : D.eqD a b with
    | ok k => rw [q] at e'; cases e'
    | exc k => exact eqD_nox q
    | fail => rw [q] at e'; cases e'
  | In => exact inD_nox (cm_in.symm.trans e)
  | NotIn =>
    have e' : (match inD a b with | .ok c => Res.ok (!c) | .exc c => .exc c | .fail => .fail) = Res.exc c := cm_notin.symm.trans e
    cases q : inD a b with
    | ok k => rw [q] at e'; cases e'
    | exc k => exact inD_nox q
    | fail => rw [q] at e'; cases e'
  | _ => cases a <;> cases b <;> cases e
/-- a comparison gives a truth value -/
theorem op_cmpD (hK : X.K = G.K) (hW : X.w = G.w) (hu : X.A.units + 150 < cLine) (o : CmpOp) : OpR X (compareOp o) (fun x y H Q => ∃ S dx dy k, Loo G H S dx x ∧ Loo G H S dy y ∧ cmpD o dx dy = .ok k ∧ Q (.bl k) H) := by
  intro pins s σ H x y v u Q I rx ry h
  obtain ⟨S, dx, dy, k, lx, ly, e, q⟩ := h
  cases o with
  | Eq => exact (cmp_eq hK hu I rx ry lx ly e).1 q
  | NotEq =>
    have e' : (match D.eqD dx dy with | .ok c => Res.ok (!c) | .exc c => .exc c | .fail => .fail) = Res.ok k := e
    cases z : D.eqD dx dy with
    | ok k' => rw [z] at e'; cases e'; exact (cmp_eq hK hu I rx ry lx ly z).2 q
    | exc k' => rw [z] at e'; cases e'
    | fail => rw [z] at e'; cases e'
  | In => exact (cmp_in hK hW hu I rx ry lx ly (cm_in.symm.trans e)).1 q
  | NotIn =>
    have e' : (match inD dx dy with | .ok c => Res.ok (!c) | .exc c => .exc c | .fail => .fail) = Res.ok k := cm_notin.symm.trans e
    cases z : inD dx dy with
    | ok k' => rw [z] at e'; cases e'; exact (cmp_in hK hW hu I rx ry lx ly z).2 q
    | exc k' => rw [z] at e'; cases e'
    | fail => rw [z] at e'; cases e'
  | Lt =>
    cases dx <;> cases dy <;> first | (cases e; done) | skip
    cases lx.int; cases ly.int; cases e
    obtain ⟨t, rfl⟩ := rx; obtain ⟨t', rfl⟩ := ry
    exact lt_int ⟨.bl _, H, I, rfl, q⟩
  | LtE =>
    cases dx <;> cases dy <;> first | (cases e; done) | skip
    cases lx.int; cases ly.int; cases e
    obtain ⟨t, rfl⟩ := rx; obtain ⟨t', rfl⟩ := ry
    exact le_int ⟨.bl _, H, I, rfl, q⟩
  | Gt =>
    cases dx <;> cases dy <;> first | (cases e; done) | skip
    cases lx.int; cases ly.int; cases e
    obtain ⟨t, rfl⟩ := rx; obtain ⟨t', rfl⟩ := ry
    exact gt_int ⟨.bl _, H, I, rfl, q⟩
  | GtE =>
    cases dx <;> cases dy <;> first | (cases e; done) | skip
    cases lx.int; cases ly.int; cases e
    obtain ⟨t, rfl⟩ := rx; obtain ⟨t', rfl⟩ := ry
    exact ge_int ⟨.bl _, H, I, rfl, q⟩
  | Is =>
    cases dx <;> cases dy <;> first | (cases e; done) | skip
    cases lx.bl; cases ly.bl; cases e
    exact op_is_bl pins s σ H _ _ v u Q I rx ry ⟨_, _, rfl, rfl, q⟩
  | IsNot =>
    cases dx <;> cases dy <;> first | (cases e; done) | skip
    cases lx.bl; cases ly.bl; cases e
    exact op_isnot_bl pins s σ H _ _ v u Q I rx ry ⟨_, _, rfl, rfl, q⟩

/-! ### subscripts -/
theorem ixN_pair {ds : List D} {xs : List V} {F : D → V → Prop} (p : Paired F ds xs) {i : Int} {d : D} (h : atI ds i = some d) : ∃ v, atI xs i = some v ∧ F d v := by
  unfold atI at h ⊢
  rw [← Paired.length p]
  cases e : ixN ds.length i with
  | none => rw [e] at h; cases h
  | some j =>
    rw [e] at h
    obtain ⟨v, h1, h2⟩ := p.gt h
    exact ⟨v, h1, h2⟩
theorem ix_D (hK : X.K = G.K) (hW : X.w = G.w) (hu : X.A.units + 150 < cLine) : IxR X (rD G idxD) := by
  intro value slice pins s σ H x y v u Q I rx ry h hs
  obtain ⟨W, S, dx, dy, dm, lx, ly, p⟩ := h
  cases dx with
  | lst as =>
    cases dy with
    | int i =>
      obtain ⟨a, xs, rfl, ra, pa⟩ := lx.lst hK
      cases ly.int
      have p' : Post G W H S (match atI as i with | some d => okF d | none => .fail) Q := p
      cases e : atI as i with
      | none => rw [e] at p'; exact p'.elim
      | some d =>
        rw [e] at p'
        obtain ⟨w, h1, h2⟩ := ixN_pair pa e
        exact ix_list value slice pins s σ H _ _ v u Q I rx ry ⟨a, xs, i, w, rfl, rfl, ra, h1, p'.f h2⟩ hs
    | _ => exact False.elim p
  | tup as =>
    cases dy with
    | int i =>
      obtain ⟨a, xs, rfl, ra, pa⟩ := lx.tup
      cases ly.int
      have p' : Post G W H S (match atI as i with | some d => okF d | none => .fail) Q := p
      cases e : atI as i with
      | none => rw [e] at p'; exact p'.elim
      | some d =>
        rw [e] at p'
        obtain ⟨w, h1, h2⟩ := ixN_pair pa e
        exact ix_tup value slice pins s σ H _ _ v u Q I rx ry ⟨a, xs, i, w, rfl, rfl, by rw [hK]; exact ra.sq, h1, p'.f h2⟩ hs
    | _ => exact False.elim p
  | dct ks ds =>
    cases dy with
    | str z =>
      obtain ⟨a, xs, rfl, ra, pa⟩ := lx.dct
      cases ly.str
      have p' : Post G W H S (match lkD ks ds z with | some d => okF d | none => .fail) Q := p
      cases e : lkD ks ds z with
      | none => rw [e] at p'; exact p'.elim
      | some d =>
        rw [e] at p'
        obtain ⟨w, h1, h2⟩ := (lkD_pair pa z ks).1 d e
        exact ix_dct hK hW hu value slice pins s σ H _ _ v u Q I rx ry ⟨S, a, z, ks, xs, w, rfl, rfl, ra, h1, p'.f h2⟩ hs
    | _ => exact False.elim p
  | str z =>
    cases dy with
    | int i =>
      cases lx.str
      cases ly.int
      obtain ⟨c, p⟩ := Post.ite p
      have p' : Post G W H S (match atI z.cps.toList i with | some c => okF (.str ⟨#[c]⟩) | none => .fail) Q := p
      cases e : atI z.cps.toList i with
      | none => rw [e] at p'; exact p'.elim
      | some d =>
        rw [e] at p'
        exact ix_str value slice pins s σ H _ _ v u Q I rx ry ⟨z, i, d, rfl, rfl, c, e, p'.f (.str _)⟩ hs
    | _ => exact False.elim p
  | _ => cases dy <;> exact False.elim p
def rSl (G : Gm) : V → Option Int → Option Int → Hp → VK → Prop := fun x lo hi H Q => ∃ W S dx, Dm H S ∧ Loo G H S dx x ∧ Post G W H S (slcD dx lo hi) Q
theorem whole_of {α : Type} {xs : List α} {lo hi : Option Int} (h : HT.sIx xs.length 0 lo = 0 ∧ HT.sIx xs.length xs.length hi = xs.length) : (xs.drop (HT.sIx xs.length 0 lo)).take (HT.sIx xs.length xs.length hi - HT.sIx xs.length 0 lo) = xs := by
  rw [h.1, h.2]
  simp
theorem sl_D (hK : X.K = G.K) : SlR X (rSl G) := by
  intro pins s σ H x v vl vu lo hi sl Q I rx hs pl pu h
  obtain ⟨W, S, dx, dm, lx, p⟩ := h
  cases dx with
  | lst as =>
    obtain ⟨a, xs, rfl, ra, pa⟩ := lx.lst hK
    exact sl_list pins s σ H _ v vl vu lo hi sl Q I rx hs pl pu ⟨a, xs, rfl, ra, fun q hq => p.new dm (cutD_pair pa lo hi) q hq⟩
  | tup as =>
    obtain ⟨a, xs, rfl, ra, pa⟩ := lx.tup
    refine sl_tupA pins s σ H _ v vl vu lo hi sl Q I rx hs pl pu ⟨a, xs, rfl, by rw [hK]; exact ra.sq, fun hw => ?_, fun _ q hq => p.newT (cutD_pair pa lo hi) q hq⟩
    refine p.f (.tup ra ?_)
    have e : cutD as lo hi = as := whole_of (by rw [Paired.length pa]; exact hw)
    rw [e]
    exact pa
  | str z =>
    cases lx.str
    obtain ⟨c, p⟩ := Post.ite p
    exact sl_str pins s σ H _ v vl vu lo hi sl Q I rx hs pl pu ⟨z, rfl, c, p.f (.str _)⟩
  | _ => exact False.elim p

/-! ### built-in functions of one value -/
def rB (G : Gm) (f : D → Res (Bool × D)) : List V → Hp → VK → Prop := fun xs H Q => ∃ W S x dx, xs = [x] ∧ Dm H S ∧ Loo G H S dx x ∧ Post G W H S (f dx) Q
theorem ints_pair {H : Hp} {S : Sy} : ∀ {ds : List D} {xs : List V} {ns : List Int}, Paired (Rep G H S) ds xs → intsOf ds = some ns → xs = ns.map V.int
  | [], _, ns, .nil, e => by cases e; rfl
  | d :: ds, _, ns, .cons r t, e => by
    cases r with
    | int i =>
      have e' : (intsOf ds).map (i :: ·) = some ns := e
      cases q : intsOf ds with
      | none => rw [q] at e'; cases e'
      | some ms =>
        rw [q] at e'
        cases e'
        rw [ints_pair t q]
        rfl
    | _ => cases e
def Bi.fv : Bi → Value
  | .len => .builtin "len"
  | .tuple => .type "tuple"
  | .list => .type "list"
  | .sum => .builtin "sum"
  | .abs => .builtin "abs"
  | .int => .type "int"
theorem call_bi (hK : X.K = G.K) (f : Bi) (hc : f = .sum → X.calm = true) : CallR X f.fv (rB G (biD f)) := by
  intro pins s σ H xs us Q I r h
  obtain ⟨W, S, x, dx, rfl, dm, lx, p⟩ := h
  cases f with
  | len =>
    cases dx with
    | lst as =>
      obtain ⟨a, xs, rfl, ra, pa⟩ := lx.lst hK
      refine call_len pins s σ H _ us Q I r ⟨_, xs.length, rfl, .inl ⟨xs, ra, rfl⟩, ?_⟩
      rw [← Paired.length pa]
      exact p.f (.int _)
    | tup as =>
      obtain ⟨a, xs, rfl, ra, pa⟩ := lx.tup
      refine call_len pins s σ H _ us Q I r ⟨_, xs.length, rfl, .inr ⟨xs, by rw [hK]; exact ra.sq, rfl⟩, ?_⟩
      rw [← Paired.length pa]
      exact p.f (.int _)
    | str z =>
      cases lx.str
      obtain ⟨c, p⟩ := Post.ite p
      exact call_len pins s σ H _ us Q I r ⟨_, z.length, rfl, ⟨c, rfl⟩, p.f (.int _)⟩
    | _ => exact False.elim p
  | tuple =>
    cases dx with
    | lst as =>
      obtain ⟨a, xs, rfl, ra, pa⟩ := lx.lst hK
      exact call_tuple_of pins s σ H _ us Q I r ⟨a, xs, rfl, .inl ⟨ra, fun q hq => p.newT pa q hq⟩⟩
    | tup as =>
      obtain ⟨a, xs, rfl, ra, pa⟩ := lx.tup
      exact call_tuple_of pins s σ H _ us Q I r ⟨a, xs, rfl, .inr ⟨by rw [hK]; exact ra.sq, p.f (.tup ra pa)⟩⟩
    | _ => exact False.elim p
  | list =>
    cases dx with
    | lst as =>
      obtain ⟨a, xs, rfl, ra, pa⟩ := lx.lst hK
      exact call_list_of pins s σ H _ us Q I r ⟨a, xs, rfl, .inl (ra), fun q hq => p.new dm pa q hq⟩
    | tup as =>
      obtain ⟨a, xs, rfl, ra, pa⟩ := lx.tup
      exact call_list_of pins s σ H _ us Q I r ⟨a, xs, rfl, .inr (by rw [hK]; exact ra.sq), fun q hq => p.new dm pa q hq⟩
    | _ => exact False.elim p
  | sum =>
    cases dx with
    | lst as =>
      obtain ⟨a, xs, rfl, ra, pa⟩ := lx.lst hK
      have p' : Post G W H S (match intsOf as with | some ns => okF (.int ns.sum) | none => .fail) Q := p
      cases e : intsOf as with
      | none => rw [e] at p'; exact p'.elim
      | some ns =>
        rw [e] at p'
        have ex := ints_pair pa e
        subst ex
        exact cr_sum (hc rfl) pins s σ H _ us Q I r ⟨a, ns, rfl, ra, p'.f (.int _)⟩
    | _ => exact False.elim p
  | abs =>
    cases dx with
    | int i =>
      cases lx.int
      exact call_abs pins s σ H _ us Q I r ⟨i, rfl, p.f (.int _)⟩
    | _ => exact False.elim p
  | int =>
    cases dx with
    | int i =>
      cases lx.int
      exact call_int1 pins s σ H _ us Q I r (.inl ⟨i, rfl, p.f (.int _)⟩)
    | bl k =>
      cases lx.bl
      exact call_int1 pins s σ H _ us Q I r (.inr ⟨k, rfl, p.f (.int _)⟩)
    | _ => exact False.elim p

/-! ### isinstance -/
def Ty.nm : Ty → String
  | .int => "int" | .bool => "bool" | .str => "str" | .tuple => "tuple" | .list => "list"
def rI1 (G : Gm) (t : Ty) : List V → Hp → VK → Prop := fun xs H Q => ∃ S x dx k, xs = [x, .ty t.nm] ∧ Loo G H S dx x ∧ isiD dx t = .ok k ∧ Q (.bl k) H
theorem tyx_tup {K : PySem.W.Frag} {H : Hp} {S : Sy} {a : Addr} {xs : List V} (h : FzT K H S a xs) : TyX K H (.ref a) (.type "tuple") := by
  rcases h with ⟨_, h | ⟨o, h⟩⟩ | ⟨o, its, n, h, c, _⟩
  · exact .base (.tup h)
  · exact .fTuple h
  · exact .kTuple h c
theorem tyx_lst {K : PySem.W.Frag} {H : Hp} {a : Addr} {xs : List V} (h : SqL K H a xs) : TyX K H (.ref a) (.type "list") := by
  rcases h with (h | ⟨o, h⟩) | ⟨o, its, n, h, c, _⟩
  · exact .base (.lst h)
  · exact .base (.frz h)
  · exact .kList h c
theorem call_isiD (hK : X.K = G.K) (t : Ty) : CallR X (.builtin "isinstance") (rI1 G t) := by
  intro pins s σ H xs us Q I r h
  obtain ⟨S, x, dx, k, rfl, lx, e, q⟩ := h
  have go : ∀ (a : String), TyX X.K H x (.type a) → kitB a t.nm = some k → wpAny (model X.prog X.w) X.A (call (.builtin "isinstance") us) (EP X pins σ Q) X.xe s := fun a h1 h2 =>
    call_isi pins s σ H _ us Q I r ⟨x, _, .type a, .type t.nm, k, rfl, .ty _, h1, kit_ty h2, q⟩
  cases dx with
  | non => cases lx.non; refine go "NoneType" (.base .non) ?_; cases t <;> cases e <;> decide +kernel
  | bl b => cases lx.bl; refine go "bool" (.base (.bl _)) ?_; cases t <;> cases e <;> decide +kernel
  | int i => cases lx.int; refine go "int" (.base (.int _)) ?_; cases t <;> cases e <;> decide +kernel
  | str z => cases lx.str; refine go "str" (.base (.str _)) ?_; cases t <;> cases e <;> decide +kernel
  | lst as =>
    obtain ⟨a, xs, rfl, ra, pa⟩ := lx.lst hK
    refine go "list" (tyx_lst ra) ?_
    cases t <;> cases e <;> decide +kernel
  | tup as =>
    obtain ⟨a, xs, rfl, ra, pa⟩ := lx.tup
    refine go "tuple" (tyx_tup (by rw [hK]; exact ra)) ?_
    cases t <;> cases e <;> decide +kernel
  | fn _ => cases t <;> cases e
  | exc _ => cases t <;> cases e
  | dct _ _ => cases t <;> cases e
end
end Hf

/-! Hf4: readings by data; expressions' rules over them. -/
namespace Hf
open PySem PySem.Spec PyProof.Rows L2
set_option autoImplicit false

abbrev WD := Str → L2.St → Hp → Prop
def PostL (G : Gm) (W : Str → Hp → Prop) (H : Hp) (S : Sy) (r : Res (List D)) (Q : List V → Hp → Prop) : Prop := match r with
  | .ok ds => ∀ vs H' S', Gr H S H' S' → Paired (Rep G H' S') ds vs → Q vs H'
  | .exc c => ∀ H' S', Gr H S H' S' → W c H'
  | .fail => False
def PostV {α : Type} (W : Str → Hp → Prop) (H : Hp) (S : Sy) (r : Res α) (Q : α → Hp → Prop) : Prop := match r with
  | .ok k => ∀ H' S', Gr H S H' S' → Q k H'
  | .exc c => ∀ H' S', Gr H S H' S' → W c H'
  | .fail => False
/-- what is walked -/
structure Wlk (G : Gm) (J : It) (ds : List D) (H : Hp) (S : Sy) : Prop where
  go : ∀ (i : Nat) (H' : Hp) (S' : Sy), Keep H S H' S' → i < ds.length → J.go i H'
  yld : ∀ (i : Nat) (H' : Hp) (S' : Sy) (x : V) (H'' : Hp), Keep H S H' S' → J.yld i H' x H'' → ∀ d, ds[i]? = some d → H'' = H' ∧ Rep G H' S' d x
  stop : ∀ (H' : Hp) (S' : Sy), Keep H S H' S' → J.stop ds.length H'
def PostI (G : Gm) (W : Str → Hp → Prop) (H : Hp) (S : Sy) (r : Res (List D)) (R : It → Hp → Prop) : Prop := match r with
  | .ok ds => ∀ J H' S', Gr H S H' S' → Wlk G J ds H' S' → R J H'
  | .exc c => ∀ H' S', Gr H S H' S' → W c H'
  | .fail => False
section
variable (G : Gm) (W : WD) (H0 : Hp)
def tD (f : En → Res (Bool × D)) : TE := fun σ H Q => ∃ S ρ, REnv G H0 H S σ ρ ∧ Post G (fun c => W c σ) H S (f ρ) Q
def tB (f : En → Res D) : TE := fun σ H Q => ∃ S ρ, REnv G H0 H S σ ρ ∧ PostB G (fun c => W c σ) H S (f ρ) Q
def tF (f : En → Res D) : TE := fun σ H Q => ∃ S ρ, REnv G H0 H S σ ρ ∧ PostF G (fun c => W c σ) H S (f ρ) Q
def tL (f : En → Res (List D)) : TA := fun σ H Q => ∃ S ρ, REnv G H0 H S σ ρ ∧ PostL G (fun c => W c σ) H S (f ρ) Q
def tT (f : En → Res Bool) : TT := fun σ H Q => ∃ S ρ, REnv G H0 H S σ ρ ∧ PostV (fun c => W c σ) H S (f ρ) Q
def tO (f : En → Res (Option Int)) : TO := fun σ H Q => ∃ S ρ, REnv G H0 H S σ ρ ∧ PostV (fun c => W c σ) H S (f ρ) Q
def tI (f : En → Res (List D)) : TI := fun σ H R => ∃ S ρ, REnv G H0 H S σ ρ ∧ PostI G (fun c => W c σ) H S (f ρ) R
end
section
variable {X : Cx} {e : Expr}
theorem _root_.L2.PE.im {t t' : TE} (h : PE X e t) (i : ∀ σ H Q, t' σ H Q → t σ H Q) : PE X e t' := ⟨fun pins s σ H Q I q => h.run pins s σ H Q I (i σ H Q q)⟩
theorem _root_.L2.PT.im {t t' : TT} (h : PT X e t) (i : ∀ σ H Q, t' σ H Q → t σ H Q) : PT X e t' := ⟨fun pins s σ H Q I q => h.run pins s σ H Q I (i σ H Q q)⟩
theorem _root_.L2.PW.im {t t' : TT} (h : PW X e t) (i : ∀ σ H Q, t' σ H Q → t σ H Q) : PW X e t' := ⟨fun w pins s σ H Q I q => h.run w pins s σ H Q I (i σ H Q q)⟩
theorem _root_.L2.PA.im {es : List Expr} {t t' : TA} (h : PA X es t) (i : ∀ σ H Q, t' σ H Q → t σ H Q) : PA X es t' := ⟨fun pos pins s σ H Q I q => h.run pos pins s σ H Q I (i σ H Q q)⟩
theorem _root_.L2.PI.im {tg : Expr} {t t' : TI} (h : PI X tg e t) (i : ∀ σ H Q, t' σ H Q → t σ H Q) : PI X tg e t' := ⟨fun pins s σ H Q I q => h.run pins s σ H Q I (i σ H Q q)⟩
end

/-! ### one step behind another -/
section
variable {G : Gm} {W : Str → Hp → Prop} {H : Hp} {S : Sy} {β : Type} {Z : Res β → Prop}
/-- what a wish about a result allows to read off a first step -/
structure Rd1 (W : Str → Hp → Prop) (H : Hp) (S : Sy) {β : Type} (Z : Res β → Prop) : Prop where
  f : Z .fail → False
  x : ∀ c, Z (.exc c) → ∀ H' S', Gr H S H' S' → W c H'
theorem rdD {Q : VK} : Rd1 W H S (fun r => Post G W H S r Q) := ⟨fun h => h, fun _ h => h⟩
theorem rdB {Q : VK} : Rd1 W H S (fun r => PostB G W H S r Q) := ⟨fun h => h, fun _ h => h⟩
theorem rdF {Q : VK} : Rd1 W H S (fun r => PostF G W H S r Q) := ⟨fun h => h, fun _ h => h⟩
theorem rdL {Q : List V → Hp → Prop} : Rd1 W H S (fun r => PostL G W H S r Q) := ⟨fun h => h, fun _ h => h⟩
theorem rdV {α : Type} {Q : α → Hp → Prop} : Rd1 W H S (fun r => PostV W H S r Q) := ⟨fun h => h, fun _ h => h⟩
theorem rdI {R : It → Hp → Prop} : Rd1 W H S (fun r => PostI G W H S r R) := ⟨fun h => h, fun _ h => h⟩
variable {α : Type}
theorem mkD (rd : Rd1 W H S Z) {r : Res (Bool × D)} {k : Bool × D → Res β} {Q : VK} (z : Z (r.bind k)) (ok : ∀ b d, Z (k (b, d)) → ∀ v H' S', Gr H S H' S' → RepO G H H' S' b d v → Q v H') : Post G W H S r Q := by
  cases r with
  | ok x => exact ok x.1 x.2 z
  | exc c => exact rd.x c z
  | fail => exact rd.f z
theorem mkB (rd : Rd1 W H S Z) {r : Res D} {k : D → Res β} {Q : VK} (z : Z (r.bind k)) (ok : ∀ d, Z (k d) → ∀ v H' S', Gr H S H' S' → Loo G H' S' d v → Q v H') : PostB G W H S r Q := by
  cases r with
  | ok x => exact ok x z
  | exc c => exact rd.x c z
  | fail => exact rd.f z
theorem mkF (rd : Rd1 W H S Z) {r : Res D} {k : D → Res β} {Q : VK} (z : Z (r.bind k)) (ok : ∀ d, Z (k d) → ∀ v H' S', Gr H S H' S' → Rep G H' S' d v → Q v H') : PostF G W H S r Q := by
  cases r with
  | ok x => exact ok x z
  | exc c => exact rd.x c z
  | fail => exact rd.f z
theorem mkL (rd : Rd1 W H S Z) {r : Res (List D)} {k : List D → Res β} {Q : List V → Hp → Prop} (z : Z (r.bind k)) (ok : ∀ ds, Z (k ds) → ∀ vs H' S', Gr H S H' S' → Paired (Rep G H' S') ds vs → Q vs H') : PostL G W H S r Q := by
  cases r with
  | ok x => exact ok x z
  | exc c => exact rd.x c z
  | fail => exact rd.f z
theorem mkV (rd : Rd1 W H S Z) {r : Res α} {k : α → Res β} {Q : α → Hp → Prop} (z : Z (r.bind k)) (ok : ∀ a, Z (k a) → ∀ H' S', Gr H S H' S' → Q a H') : PostV W H S r Q := by
  cases r with
  | ok x => exact ok x z
  | exc c => exact rd.x c z
  | fail => exact rd.f z
theorem mkI (rd : Rd1 W H S Z) {r : Res (List D)} {k : List D → Res β} {R : It → Hp → Prop} (z : Z (r.bind k)) (ok : ∀ ds, Z (k ds) → ∀ J H' S', Gr H S H' S' → Wlk G J ds H' S' → R J H') : PostI G W H S r R := by
  cases r with
  | ok x => exact ok x z
  | exc c => exact rd.x c z
  | fail => exact rd.f z
theorem PostB.gr {r : Res D} {Q : VK} {H2 : Hp} {S2 : Sy} (e : Gr H S H2 S2) (h : PostB G W H S r Q) : PostB G W H2 S2 r Q := by
  cases r with
  | fail => exact h
  | exc c => exact fun H' S' e' => h H' S' (e.trans e')
  | ok d => exact fun v H' S' e' => h v H' S' (e.trans e')
theorem PostL.gr {r : Res (List D)} {Q : List V → Hp → Prop} {H2 : Hp} {S2 : Sy} (e : Gr H S H2 S2) (h : PostL G W H S r Q) : PostL G W H2 S2 r Q := by
  cases r with
  | fail => exact h
  | exc c => exact fun H' S' e' => h H' S' (e.trans e')
  | ok d => exact fun v H' S' e' => h v H' S' (e.trans e')
theorem PostV.gr {α : Type} {r : Res α} {Q : α → Hp → Prop} {H2 : Hp} {S2 : Sy} (e : Gr H S H2 S2) (h : PostV W H S r Q) : PostV W H2 S2 r Q := by
  cases r with
  | fail => exact h
  | exc c => exact fun H' S' e' => h H' S' (e.trans e')
  | ok d => exact fun H' S' e' => h H' S' (e.trans e')
theorem PostI.gr {r : Res (List D)} {R : It → Hp → Prop} {H2 : Hp} {S2 : Sy} (e : Gr H S H2 S2) (h : PostI G W H S r R) : PostI G W H2 S2 r R := by
  cases r with
  | fail => exact h
  | exc c => exact fun H' S' e' => h H' S' (e.trans e')
  | ok d => exact fun v H' S' e' => h v H' S' (e.trans e')
theorem Post.weak {W2 : Str → Hp → Prop} {r : Res (Bool × D)} {Q : VK} (i : ∀ c H', W c H' → W2 c H') (h : Post G W H S r Q) : Post G W2 H S r Q := by
  cases r with
  | fail => exact h
  | exc c => exact fun H' S' e => i c H' (h H' S' e)
  | ok x => exact h
/-- a result read loosely, frozen -/
theorem Post.ofB {r : Res (Bool × D)} {Q : VK} (h : PostB G W H S (sndR r) Q) : Post G W H S r Q := by
  cases r with
  | fail => exact h
  | exc c => exact h
  | ok x => exact fun v H' S' e q => h v H' S' e q.loo
theorem Post.ofF {r : Res (Bool × D)} {Q : VK} (h : PostF G W H S (sndR r) Q) : Post G W H S r Q := by
  cases r with
  | fail => exact h
  | exc c => exact h
  | ok x =>
    intro v H' S' e q
    obtain ⟨S'', e2, _, q2⟩ := q.fz e
    exact h v H' S'' e2 q2
end
section
variable {G : Gm} {W : WD} {H0 : Hp} {X : Cx} {e : Expr}
theorem pe_B {f : En → Res (Bool × D)} (h : PE X e (tD G W H0 f)) : PE X e (tB G W H0 fun ρ => sndR (f ρ)) := h.im fun _ _ _ ⟨S, ρ, R, p⟩ => ⟨S, ρ, R, .ofB p⟩
theorem pe_F {f : En → Res (Bool × D)} (h : PE X e (tD G W H0 f)) : PE X e (tF G W H0 fun ρ => sndR (f ρ)) := h.im fun _ _ _ ⟨S, ρ, R, p⟩ => ⟨S, ρ, R, .ofF p⟩

/-! ### names -/
theorem pe_getF {i : Nat} (h : PE X e (tVar i)) : PE X e (tD G W H0 fun ρ => getF ρ i) := h.im fun σ H Q ⟨S, ρ, R, p⟩ => by
  unfold getF at p
  dsimp only at p
  split at p
  · rename_i d q
    obtain ⟨v, h1, h2⟩ := R.slot i false d q
    exact ⟨v, h1, p v H S (Gr.refl H S) h2⟩
  · exact p.elim
theorem pe_getO {i : Nat} (h : PE X e (tVar i)) : PE X e (tB G W H0 fun ρ => sndR (getO ρ i)) := h.im fun σ H Q ⟨S, ρ, R, p⟩ => by
  unfold getO at p
  dsimp only at p
  split at p
  · rename_i x q
    obtain ⟨v, h1, h2⟩ := R.slot i x.1 x.2 q
    exact ⟨v, h1, p v H S (Gr.refl H S) h2.loo⟩
  · exact p.elim
theorem pe_lit {d : D} {v : V} (h : PE X e (tC v)) (r : ∀ H S, Rep G H S d v) : PE X e (tD G W H0 fun _ => okF d) := h.im fun σ H Q ⟨S, ρ, R, p⟩ => p v H S (Gr.refl H S) (r H S)

/-! ### two, three values -/
variable {a b c : Expr} {fa fb fc : En → Res D} {pos : Pos}
theorem t2 {r : R2} {β : Type} {h : D → D → Res (Bool × D)} {σ : L2.St} {H : Hp} {Q : VK}
    (hr : ∀ x y H' S' dx dy, Dm H' S' → Loo G H' S' dx x → Loo G H' S' dy y → Post G (fun c => W c σ) H' S' (h dx dy) Q → r x y H' Q)
    (p : tD G W H0 (fun ρ => (fa ρ).bind fun x => (fb ρ).bind fun y => h x y) σ H Q) : tOp r (tB G W H0 fa) (tB G W H0 fb) σ H Q := by
  obtain ⟨S, ρ, R, p⟩ := p
  refine ⟨S, ρ, R, mkB rdD p fun dx p v H1 S1 e1 l1 => ⟨S1, ρ, R.gr e1, ?_⟩⟩
  have p1 := p.gr e1
  refine mkB rdD p1 fun dy p u H2 S2 e2 l2 => ?_
  exact hr v u H2 S2 dx dy ((R.gr e1).gr e2).dom (l1.ex e2) l2 (p.gr e2)
theorem pe_bin (hK : X.K = G.K) {o : Operator} (ha : PE X a (tB G W H0 fa)) (hb : PE X b (tB G W H0 fb)) : PE X (.BinOp a o b pos) (tD G W H0 fun ρ => (fa ρ).bind fun x => (fb ρ).bind fun y => opD o x y) :=
  (pe_op (op_binD hK o) ha hb).im fun σ H Q p => t2 (β := D) (fun x y H' S' dx dy dm lx ly q => ⟨_, S', dx, dy, dm, lx, ly, q⟩) p
theorem pe_ng (ha : PE X a (tB G W H0 fa)) : PE X (.UnaryOp .USub a pos) (tD G W H0 fun ρ => (fa ρ).bind negD) := (pe_un un_neg ha).im fun σ H Q ⟨S, ρ, R, p⟩ => by
  refine ⟨S, ρ, R, mkB rdD p fun d p v H1 S1 e1 l1 => ?_⟩
  cases d with
  | int i => exact ⟨i, l1.int, (p.gr e1).f (.int _)⟩
  | _ => exact False.elim p
abbrev rCmp (G : Gm) (o : CmpOp) : R2 := fun x y H Q => ∃ S dx dy k, Loo G H S dx x ∧ Loo G H S dy y ∧ cmpD o dx dy = .ok k ∧ Q (.bl k) H
theorem pe_cm (hK : X.K = G.K) (hW : X.w = G.w) (hu : X.A.units + 150 < cLine) {o : CmpOp} (hm : behindInMarks o b = false) (ha : PE X a (tB G W H0 fa)) (hb : PE X b (tB G W H0 fb)) :
    PE X (.Compare a [o] [b] pos) (tD G W H0 fun ρ => (fa ρ).bind fun x => (fb ρ).bind fun y => okB (cmpD o x y)) :=
  (pe_cmpR (op_cmpD hK hW hu o) ha hb hm).im fun σ H Q p => t2 (β := D) (fun x y H' S' dx dy dm lx ly q => by
    obtain ⟨k, e, q⟩ := q.okB fun _ => cmpD_nox
    exact ⟨S', dx, dy, k, lx, ly, e, q⟩) p
theorem pt_cm (hK : X.K = G.K) (hW : X.w = G.w) (hu : X.A.units + 150 < cLine) {o : CmpOp} (hm : behindInMarks o b = false) (ha : PE X a (tB G W H0 fa)) (hb : PE X b (tB G W H0 fb)) :
    PT X (.Compare a [o] [b] pos) (tT G W H0 fun ρ => (fa ρ).bind fun x => (fb ρ).bind fun y => cmpD o x y) :=
  (pt_cmpR (op_cmpD hK hW hu o) ha hb hm).im fun σ H Q ⟨S, ρ, R, p⟩ => by
    refine ⟨S, ρ, R, mkB rdV p fun dx p v H1 S1 e1 l1 => ⟨S1, ρ, R.gr e1, mkB rdV (p.gr e1) fun dy p u H2 S2 e2 l2 => ?_⟩⟩
    cases z : cmpD o dx dy with
    | fail => rw [z] at p; exact p.elim
    | exc k => exact absurd z cmpD_nox
    | ok k =>
      rw [z] at p
      exact ⟨S2, dx, dy, k, l1.ex e2, l2, z, k, rfl, p H2 S2 e2⟩
theorem pe_ch (hK : X.K = G.K) (hW : X.w = G.w) (hu : X.A.units + 150 < cLine) {o o' : CmpOp} (hm : lastMarks [o, o'] [b, c] = false) (ha : PE X a (tB G W H0 fa)) (hb : PE X b (tB G W H0 fb)) (hc : PE X c (tB G W H0 fc)) :
    PE X (.Compare a [o, o'] [b, c] pos) (tD G W H0 fun ρ => (fa ρ).bind fun x => (fb ρ).bind fun y => (cmpD o x y).bind fun k => if k = true then (fc ρ).bind fun z => okB (cmpD o' y z) else okF (.bl false)) :=
  (pe_chain (op_cmpD hK hW hu o) (op_cmpD hK hW hu o') ha hb hc hm).im fun σ H Q ⟨S, ρ, R, p⟩ => by
    refine ⟨S, ρ, R, mkB rdD p fun dx p v H1 S1 e1 l1 => ⟨S1, ρ, R.gr e1, mkB rdD (p.gr e1) fun dy p u H2 S2 e2 l2 => ?_⟩⟩
    have p := p.gr e2
    cases z : cmpD o dx dy with
    | fail => rw [z] at p; exact p.elim
    | exc k => exact absurd z cmpD_nox
    | ok k =>
      rw [z] at p
      refine ⟨S2, dx, dy, k, l1.ex e2, l2, z, k, rfl, ?_⟩
      cases k with
      | false => exact p.f (.bl false)
      | true =>
        refine ⟨S2, ρ, (R.gr e1).gr e2, mkB rdD (show Post G _ H2 S2 ((fc ρ).bind fun z => okB (cmpD o' dy z)) Q from p) fun dz p w H3 S3 e3 l3 => ?_⟩
        obtain ⟨k, e, q⟩ := (p.gr e3).okB fun _ => cmpD_nox
        exact ⟨S3, dy, dz, k, l2.ex e3, l3, e, q⟩
theorem pt_ch (hK : X.K = G.K) (hW : X.w = G.w) (hu : X.A.units + 150 < cLine) {o o' : CmpOp} (hm : lastMarks [o, o'] [b, c] = false) (ha : PE X a (tB G W H0 fa)) (hb : PE X b (tB G W H0 fb)) (hc : PE X c (tB G W H0 fc)) :
    PT X (.Compare a [o, o'] [b, c] pos) (tT G W H0 fun ρ => (fa ρ).bind fun x => (fb ρ).bind fun y => (cmpD o x y).bind fun k => if k = true then (fc ρ).bind fun z => cmpD o' y z else .ok false) :=
  (pt_chain (op_cmpD hK hW hu o) (op_cmpD hK hW hu o') ha hb hc hm).im fun σ H Q ⟨S, ρ, R, p⟩ => by
    refine ⟨S, ρ, R, mkB rdV p fun dx p v H1 S1 e1 l1 => ⟨S1, ρ, R.gr e1, mkB rdV (p.gr e1) fun dy p u H2 S2 e2 l2 => ?_⟩⟩
    have p := p.gr e2
    cases z : cmpD o dx dy with
    | fail => rw [z] at p; exact p.elim
    | exc k => exact absurd z cmpD_nox
    | ok k =>
      rw [z] at p
      refine ⟨S2, dx, dy, k, l1.ex e2, l2, z, k, rfl, ?_⟩
      cases k with
      | false => exact ⟨false, rfl, p H2 S2 (Gr.refl _ _)⟩
      | true =>
        refine ⟨S2, ρ, (R.gr e1).gr e2, mkB rdV (show PostV _ H2 S2 ((fc ρ).bind fun z => cmpD o' dy z) Q from p) fun dz p w H3 S3 e3 l3 => ?_⟩
        cases z' : cmpD o' dy dz with
        | fail => rw [z'] at p; exact p.elim
        | exc k => exact absurd z' cmpD_nox
        | ok k =>
          rw [z'] at p
          exact ⟨S3, dy, dz, k, l2.ex e3, l3, z', k, rfl, p H3 S3 e3⟩

/-! ### and, or, not, by truth -/
variable {rest : List Expr} {ga gb : En → Res (Bool × D)}
theorem truK (hK : X.K = G.K) {H : Hp} {S : Sy} {d : D} {v : V} {k : Bool} (l : Loo G H S d v) (e : d.tru = .ok k) : TruV X.K v H k := by
  rw [hK]; exact tru_rep l e
theorem tru_nox {d : D} {c : Str} : d.tru ≠ .exc c := fun e => by
  cases d with
  | str z =>
    have e' : (if z.length ≤ sizeLine then Res.ok ((z.length : Int) != 0) else Res.fail) = Res.exc c := e
    split at e' <;> cases e'
  | _ => cases e
theorem pe_an (hK : X.K = G.K) (ha : PE X a (tD G W H0 ga)) (hb : PE X (.BoolOp .And (b :: rest) pos) (tD G W H0 gb)) : PE X (.BoolOp .And (a :: b :: rest) pos) (tD G W H0 fun ρ => (ga ρ).bind fun x => x.2.tru.bind fun k => if k = true then gb ρ else .ok x) :=
  (pe_andT ha hb).im fun σ H Q ⟨S, ρ, R, p⟩ => by
    refine ⟨S, ρ, R, mkD rdD p fun bo d p v H1 S1 e1 r1 => ?_⟩
    cases z : d.tru with
    | fail => rw [show (bo, d).2.tru = d.tru from rfl, z] at p; exact p.elim
    | exc k => exact absurd z tru_nox
    | ok k =>
      rw [show (bo, d).2.tru = d.tru from rfl, z] at p
      refine ⟨k, truK hK r1.loo z, ?_⟩
      cases k with
      | false => exact p v H1 S1 e1 r1
      | true => exact ⟨S1, ρ, R.gr e1, Post.gr e1 p⟩
theorem pe_o (hK : X.K = G.K) (ha : PE X a (tD G W H0 ga)) (hb : PE X (.BoolOp .Or (b :: rest) pos) (tD G W H0 gb)) : PE X (.BoolOp .Or (a :: b :: rest) pos) (tD G W H0 fun ρ => (ga ρ).bind fun x => x.2.tru.bind fun k => if k = true then .ok x else gb ρ) :=
  (pe_orT ha hb).im fun σ H Q ⟨S, ρ, R, p⟩ => by
    refine ⟨S, ρ, R, mkD rdD p fun bo d p v H1 S1 e1 r1 => ?_⟩
    cases z : d.tru with
    | fail => rw [show (bo, d).2.tru = d.tru from rfl, z] at p; exact p.elim
    | exc k => exact absurd z tru_nox
    | ok k =>
      rw [show (bo, d).2.tru = d.tru from rfl, z] at p
      refine ⟨k, truK hK r1.loo z, ?_⟩
      cases k with
      | true => exact p v H1 S1 e1 r1
      | false => exact ⟨S1, ρ, R.gr e1, Post.gr e1 p⟩
theorem pe_no (hK : X.K = G.K) (ha : PE X a (tB G W H0 fa)) : PE X (.UnaryOp .Not a pos) (tD G W H0 fun ρ => (fa ρ).bind fun x => x.tru.bind fun k => okF (.bl (!k))) :=
  (pe_notT ha).im fun σ H Q ⟨S, ρ, R, p⟩ => by
    refine ⟨S, ρ, R, mkB rdD p fun d p v H1 S1 e1 l1 => ?_⟩
    cases z : d.tru with
    | fail => rw [z] at p; exact p.elim
    | exc k => exact absurd z tru_nox
    | ok k =>
      rw [z] at p
      exact ⟨k, truK hK l1 z, (Post.gr e1 p).f (.bl _)⟩
theorem pe_if {tc : En → Res Bool} (hc : PT X c (tT G W H0 tc)) (ha : PE X a (tD G W H0 ga)) (hb : PE X b (tD G W H0 gb)) : PE X (.IfExp c a b pos) (tD G W H0 fun ρ => (tc ρ).bind fun k => if k = true then ga ρ else gb ρ) :=
  (pe_ifExp hc ha hb).im fun σ H Q ⟨S, ρ, R, p⟩ => by
    refine ⟨S, ρ, R, mkV rdD p fun k p H1 S1 e1 => ?_⟩
    cases k with
    | true => exact ⟨S1, ρ, R.gr e1, Post.gr e1 p⟩
    | false => exact ⟨S1, ρ, R.gr e1, Post.gr e1 p⟩

/-! ### tests -/
variable {ta tb : En → Res Bool}
theorem pt_tr (hK : X.K = G.K) (ha : PE X a (tB G W H0 fa)) (he : ∀ whole, isTrue a X.env whole = (do let v ← whole; standAt a.pos; holding [v] (truthy v))) : PT X a (tT G W H0 fun ρ => (fa ρ).bind D.tru) :=
  (pt_truth ha he).im fun σ H Q ⟨S, ρ, R, p⟩ => by
    refine ⟨S, ρ, R, mkB rdV p fun d p v H1 S1 e1 l1 => ?_⟩
    cases z : d.tru with
    | fail => rw [z] at p; exact p.elim
    | exc k => exact absurd z tru_nox
    | ok k =>
      rw [z] at p
      exact ⟨k, truK hK l1 z, p H1 S1 e1⟩
theorem pw_an (ha : PT X a (tT G W H0 ta)) (hb : PW X (.BoolOp .And (b :: rest) pos) (tT G W H0 tb)) : PW X (.BoolOp .And (a :: b :: rest) pos) (tT G W H0 fun ρ => (ta ρ).bind fun k => if k = true then tb ρ else .ok false) :=
  (pw_and ha hb).im fun σ H Q ⟨S, ρ, R, p⟩ => by
    refine ⟨S, ρ, R, mkV rdV p fun k p H1 S1 e1 => ?_⟩
    cases k with
    | true => exact ⟨S1, ρ, R.gr e1, PostV.gr e1 p⟩
    | false => exact p H1 S1 e1
theorem pw_o (ha : PT X a (tT G W H0 ta)) (hb : PW X (.BoolOp .Or (b :: rest) pos) (tT G W H0 tb)) : PW X (.BoolOp .Or (a :: b :: rest) pos) (tT G W H0 fun ρ => (ta ρ).bind fun k => if k = true then .ok true else tb ρ) :=
  (pw_or ha hb).im fun σ H Q ⟨S, ρ, R, p⟩ => by
    refine ⟨S, ρ, R, mkV rdV p fun k p H1 S1 e1 => ?_⟩
    cases k with
    | true => exact p H1 S1 e1
    | false => exact ⟨S1, ρ, R.gr e1, PostV.gr e1 p⟩
theorem pt_no (ha : PT X a (tT G W H0 ta)) : PT X (.UnaryOp .Not a pos) (tT G W H0 fun ρ => (ta ρ).bind fun k => .ok (!k)) :=
  (pt_not ha).im fun σ H Q ⟨S, ρ, R, p⟩ => ⟨S, ρ, R, mkV rdV p fun k p H1 S1 e1 => p H1 S1 e1⟩

/-! ### displays, subscripts, calls -/
variable {es : List Expr} {fs : En → Res (List D)}
theorem pa_ni : PA X [] (tL G W H0 fun _ => .ok []) := pa_nil.im fun σ H Q ⟨S, ρ, R, p⟩ => p [] H S (Gr.refl _ _) .nil
theorem pa_co (ha : PE X a (tD G W H0 ga)) (hr : PA X es (tL G W H0 fs)) (hs : starEach (a :: es) X.env = (false, eval a X.env) :: starEach es X.env) : PA X (a :: es) (tL G W H0 fun ρ => (ga ρ).bind fun x => (fs ρ).bind fun xs => .ok (x.2 :: xs)) :=
  (pa_cons ha hr hs).im fun σ H Q ⟨S, ρ, R, p⟩ => by
    refine ⟨S, ρ, R, mkD rdL p fun bo d p v H1 S1 e1 r1 => ?_⟩
    obtain ⟨S2, e2, k2, r2⟩ := r1.fz e1
    refine ⟨S2, ρ, R.gr e2, mkL rdL (p.gr e2) fun ds p vs H3 S3 e3 r3 => ?_⟩
    exact p (v :: vs) H3 S3 e3 (.cons (e3.rep r2) r3)
theorem pa_st {ga : En → Res D} {sp : Pos} (hK : X.K = G.K) (ha : PE X a (tB G W H0 ga)) (hr : PA X es (tL G W H0 fs)) : PA X (.Starred a sp :: es) (tL G W H0 fun ρ => (ga ρ).bind fun x => (itemsD x).bind fun ds => (fs ρ).bind fun xs => .ok (ds ++ xs)) :=
  (StX.pa_star ha hr).im fun σ H Q ⟨S, ρ, R, p⟩ => by
    refine ⟨S, ρ, R, mkB rdL p fun d p v H1 S1 e1 l1 => ?_⟩
    have fin : ∀ ds xs b, v = V.ref b → (SqT X.K H1 b xs ∨ SqL X.K H1 b xs) → Paired (Rep G H1 S1) ds xs → PostL G (fun c => W c σ) H S ((fs ρ).bind fun xs => .ok (ds ++ xs)) Q →
        ∃ p xs, v = V.ref p ∧ (SqT X.K H1 p xs ∨ SqL X.K H1 p xs) ∧ tL G W H0 fs σ H1 fun ys H2 => Q (xs ++ ys) H2 := fun ds xs b ev hs hp p =>
      ⟨b, xs, ev, hs, S1, ρ, R.gr e1, mkL rdL (p.gr e1) fun ys p vs H2 S2 e2 r2 => p (xs ++ vs) H2 S2 e2 (Paired.app (e2.reps hp) r2)⟩
    cases d with
    | lst ds =>
      obtain ⟨b, xs, ev, hs, hp⟩ := l1.lst hK
      exact fin ds xs b ev (.inr hs) hp p
    | tup ds =>
      obtain ⟨b, xs, ev, hs, hp⟩ := l1.tup
      exact fin ds xs b ev (.inl (by rw [hK]; exact hs.sq)) hp p
    | _ => exact p.elim
theorem pe_tu {k : Nat} (h : PA X es (tL G W H0 fs)) : PE X (.Tuple es k pos) (tD G W H0 fun ρ => (fs ρ).bind fun xs => if xs.length ≤ sizeLine then okF (.tup xs) else .fail) :=
  (pe_tup h).im fun σ H Q ⟨S, ρ, R, p⟩ => by
    refine ⟨S, ρ, R, mkL rdD p fun ds p vs H1 S1 e1 r1 => ?_⟩
    obtain ⟨c, p⟩ := Post.ite p
    exact ⟨by rw [← Paired.length r1]; exact c, fun q hq => (Post.gr e1 p).newT r1 q hq⟩
theorem pe_li (h : PA X es (tL G W H0 fs)) : PE X (.List es pos) (tD G W H0 fun ρ => (fs ρ).bind fun xs => if xs.length ≤ sizeLine then .ok (true, .lst xs) else .fail) :=
  (pe_lst h).im fun σ H Q ⟨S, ρ, R, p⟩ => by
    refine ⟨S, ρ, R, mkL rdD p fun ds p vs H1 S1 e1 r1 => ?_⟩
    obtain ⟨c, p⟩ := Post.ite p
    exact ⟨by rw [← Paired.length r1]; exact c, fun q hq => (Post.gr e1 p).new (R.gr e1).dom r1 q hq⟩
theorem pe_id (hK : X.K = G.K) (hW : X.w = G.w) (hu : X.A.units + 150 < cLine) (hs : PlainIx b) (ha : PE X a (tB G W H0 fa)) (hb : PE X b (tB G W H0 fb)) : PE X (.Subscript a b pos) (tD G W H0 fun ρ => (fa ρ).bind fun x => (fb ρ).bind fun y => idxD x y) :=
  (pe_ix (ix_D hK hW hu) ha hb hs).im fun σ H Q p => t2 (β := D) (fun x y H' S' dx dy dm lx ly q => ⟨_, S', dx, dy, dm, lx, ly, q⟩) p
theorem po_no : PO X none (tO G W H0 fun _ => .ok none) := ⟨fun pins s σ H Q I ⟨S, ρ, R, p⟩ => po_none.run pins s σ H Q I (p H S (Gr.refl _ _))⟩
theorem po_so (h : PE X e (tB G W H0 fa)) : PO X (some e) (tO G W H0 fun ρ => (intR (fa ρ)).bind fun i => .ok (some i)) := ⟨fun pins s σ H Q I ⟨S, ρ, R, p⟩ => (po_some h).run pins s σ H Q I ⟨S, ρ, R, by
  dsimp only at p
  cases z : fa ρ with
  | fail => rw [z] at p; exact p.elim
  | exc c => rw [z] at p; exact p
  | ok d =>
    rw [z] at p
    cases d with
    | int i => exact fun v H1 S1 e1 l1 => ⟨i, l1.int, p H1 S1 e1⟩
    | _ => exact False.elim p⟩⟩
theorem pe_sl {lo hi : Option Expr} {fl fh : En → Res (Option Int)} {p2 : Pos} (hK : X.K = G.K) (ha : PE X a (tB G W H0 fa)) (hl : PO X lo (tO G W H0 fl)) (hh : PO X hi (tO G W H0 fh)) :
    PE X (.Subscript a (.Slice lo hi none p2) pos) (tD G W H0 fun ρ => (fa ρ).bind fun x => (fl ρ).bind fun l => (fh ρ).bind fun h => slcD x l h) :=
  (pe_slice (sl_D hK) ha hl hh).im fun σ H Q ⟨S, ρ, R, p⟩ => by
    refine ⟨S, ρ, R, mkB rdD p fun d p v H1 S1 e1 l1 => ⟨S1, ρ, R.gr e1, mkV rdD (p.gr e1) fun l p H2 S2 e2 => ⟨S2, ρ, (R.gr e1).gr e2, mkV rdD (p.gr e2) fun h p H3 S3 e3 => ?_⟩⟩⟩
    exact ⟨_, S3, d, (((R.gr e1).gr e2).gr e3).dom, (l1.ex e2).ex e3, p.gr e3⟩
/-- what a def of the text gives, as its promise -/
def spD (G : Gm) (k : Nat) (r : List D → Res (Bool × D)) : Sp := fun vs H Q E => vs.length = k ∧ ∃ S ds, Dm H S ∧ Paired (Rep G H S) ds vs ∧ Post G (fun c H' => ∀ a, G.mg c = some (.ref a) → E (.ref a) none H') H S (r ds) Q
def wOf (G : Gm) (W : WD) : WX := fun cls d σ H => ∃ c a, cls = .ref a ∧ G.mg c = some (.ref a) ∧ d = none ∧ W c σ H
theorem tCallS_of {k : Nat} {r : List D → Res (Bool × D)} {σ : L2.St} {H : Hp} {Q : VK} (hk : ∀ vs ds H' S', Paired (Rep G H' S') ds vs → (∃ x, r ds = .ok x ∨ ∃ c, r ds = .exc c) → vs.length = k)
    (p : tD G W H0 (fun ρ => (fs ρ).bind r) σ H Q) : tCallS (spD G k r) (WE (wOf G W)) (tL G W H0 fs) σ H Q := by
  obtain ⟨S, ρ, R, p⟩ := p
  refine ⟨S, ρ, R, mkL rdD p fun ds p vs H1 S1 e1 r1 => ?_⟩
  have p1 := Post.gr e1 p
  refine ⟨hk vs ds H1 S1 r1 ?_, S1, ds, (R.gr e1).dom, r1, p1.weak fun c H' w a ha => ⟨c, a, rfl, ha, rfl, w⟩⟩
  cases z : r ds with
  | fail => rw [z] at p1; exact p1.elim
  | exc c => exact ⟨(false, .non), .inr ⟨c, rfl⟩⟩
  | ok x => exact ⟨x, .inl rfl⟩
theorem pe_callS0 {CX : CXT} {k : Nat} {f : Addr} {fd : FuncData} {ps : List Str} {sp : Sp} {E : L2.St → XK} {x : Str} {p : Pos} (F : FnOk X.prog X.w X.K X.mg X.base CX k f fd ps sp) (hr : Room k X.A) (hg : Gl X x) (hm : X.mg x = some (.ref f)) (hk : PySem.W.keepIn X.K (.ref f) = true) (hb : Binds X.K fd ps []) (hx : ∀ σ, PassesAt CX X σ (E σ))
    (hdb : (x == ("__debug__" : Str)) = false) : PE X (.Call (.Name x p) [] [] pos) (tCallS sp E tNil) := by
  refine ⟨fun pins s σ H Q I h => ?_⟩
  refine wpAny_Call_Name_kw (ld_glob I hg hm ?_ hdb)
  exact PySem.W.callWith_K0 I.kIn hk (run_fnS (us := []) F hr hb (hx σ) I .nil h)
theorem pe_b1 {f : Bi} {x : Str} {p : Pos} (hK : X.K = G.K) (hc : f = .sum → X.calm = true) (hg : Gl X x) (hm : X.mg x = none) (hv : bootBuiltins x = some f.fv) (hn : x ≠ "__name__") (hdb : (x == ("__debug__" : Str)) = false) (ha : PE X a (tB G W H0 fa))
    (hs : starEach [a] X.env = [(false, eval a X.env)]) : PE X (.Call (.Name x p) [a] [] pos) (tD G W H0 fun ρ => (fa ρ).bind fun x => biD f x) := by
  have hA := pa_cons ha pa_nil hs
  have fin : ∀ σ H Q, tD G W H0 (fun ρ => (fa ρ).bind fun x => biD f x) σ H Q → tCB (rB G (biD f)) (tCons (tB G W H0 fa) tNil) σ H Q := fun σ H Q ⟨S, ρ, R, p⟩ =>
    ⟨S, ρ, R, mkB rdD p fun d p v H1 S1 e1 l1 => ⟨_, S1, v, d, rfl, (R.gr e1).dom, l1, p.gr e1⟩⟩
  cases f with
  | len => exact (pe_callB (call_bi hK .len hc) hg hm hv hA hn hdb hs rfl).im fin
  | sum => exact (pe_callB (call_bi hK .sum hc) hg hm hv hA hn hdb hs rfl).im fin
  | abs => exact (pe_callB (call_bi hK .abs hc) hg hm hv hA hn hdb hs rfl).im fin
  | tuple => exact (pe_callTy (call_bi hK .tuple hc) hg hm hv hA hn hdb hs rfl).im fin
  | list => exact (pe_callTy (call_bi hK .list hc) hg hm hv hA hn hdb hs rfl).im fin
  | int => exact (pe_callTy (call_bi hK .int hc) hg hm hv hA hn hdb hs rfl).im fin
theorem isiD_nox {d : D} {t : Ty} {c : Str} : isiD d t ≠ .exc c := fun e => by
  cases d <;> cases t <;> cases e
theorem pe_is {t : Ty} {p pt : Pos} (hK : X.K = G.K) (hg : Gl X "isinstance") (hm : X.mg "isinstance" = none) (hT : PE X b (tC (.ty t.nm))) (ha : PE X a (tB G W H0 fa))
    (hs : starEach [a, b] X.env = (false, eval a X.env) :: starEach [b] X.env) (hs2 : starEach [b] X.env = [(false, eval b X.env)]) (hpl : (backTo pos (starEach [b] X.env)).any (·.1) = false) :
    PE X (.Call (.Name "isinstance" p) [a, b] [] pos) (tD G W H0 fun ρ => (fa ρ).bind fun x => okB (isiD x t)) :=
  (pe_callB (call_isiD hK t) hg hm boot_isinstance (pa_cons ha (pa_cons hT pa_nil hs2) hs) (by decide) (by decide) hs hpl).im fun σ H Q ⟨S, ρ, R, p⟩ => by
    refine ⟨S, ρ, R, mkB rdD p fun d p v H1 S1 e1 l1 => ?_⟩
    obtain ⟨k, e, q⟩ := (p.gr e1).okB fun _ => isiD_nox
    exact ⟨S1, v, d, k, rfl, l1, e, q⟩
end
end Hf

/-! Hf5: what is walked; comprehensions. -/
namespace Hf
open PySem PySem.Spec PyProof.Rows L2
set_option autoImplicit false

/-! ### slots stored, forgotten -/
section
variable {G : Gm} {H0 H : Hp} {S : Sy} {σ : L2.St} {ρ : En}
theorem get_set {α : Type} {l : List α} {i j : Nat} {x y : α} (h : (l.set i x)[j]? = some y) : (j = i ∧ y = x ∧ i < l.length) ∨ (j ≠ i ∧ l[j]? = some y) := by
  by_cases e : i = j
  · subst e
    by_cases hl : i < l.length
    · rw [List.getElem?_set_self hl] at h
      exact .inl ⟨rfl, (Option.some.inj h).symm, hl⟩
    · rw [List.getElem?_eq_none (by simpa using hl)] at h
      cases h
  · rw [List.getElem?_set_ne e] at h
    exact .inr ⟨fun z => e z.symm, h⟩
/-- a slot takes a value; o: what is said of it -/
theorem REnv.put (R : REnv G H0 H S σ ρ) (i : Nat) (v : V) (o : Option (Bool × D)) (h : ∀ b d, o = some (b, d) → RepO G H0 H S b d v)
    (ap : ∀ d, o = some (true, d) → ∀ j e a, j ≠ i → ρ[j]? = some (some (true, e)) → σ[j]? = some (some (.ref a)) → v ≠ .ref a) : REnv G H0 H S (σ.set i (some v)) (ρ.set i o) := by
  refine ⟨by rw [List.length_set, List.length_set]; exact R.len, R.dom, fun j b d q => ?_, fun j k d e a hjk q1 q2 z1 z2 => ?_⟩
  · rcases get_set q with ⟨rfl, e, hl⟩ | ⟨ne, q⟩
    · exact ⟨v, List.getElem?_set_self (by rw [← R.len]; exact hl), h b d e.symm⟩
    · obtain ⟨w, h1, h2⟩ := R.slot j b d q
      exact ⟨w, by rw [List.getElem?_set_ne (Ne.symm ne)]; exact h1, h2⟩
  · rcases get_set q1 with ⟨w1, e1, l1⟩ | ⟨n1, q1'⟩
    · rcases get_set q2 with ⟨w2, _, _⟩ | ⟨n2, q2'⟩
      · exact hjk (w1.trans w2.symm)
      · rw [w1, List.getElem?_set_self (by rw [← R.len]; exact l1)] at z1
        rw [List.getElem?_set_ne (Ne.symm n2)] at z2
        exact ap d e1.symm k e a n2 q2' z2 (Option.some.inj (Option.some.inj z1))
    · rcases get_set q2 with ⟨w2, e2, l2⟩ | ⟨n2, q2'⟩
      · rw [w2, List.getElem?_set_self (by rw [← R.len]; exact l2)] at z2
        rw [List.getElem?_set_ne (Ne.symm n1)] at z1
        exact ap e e2.symm j d a n1 q1' z1 (Option.some.inj (Option.some.inj z2))
      · rw [List.getElem?_set_ne (Ne.symm n1)] at z1
        rw [List.getElem?_set_ne (Ne.symm n2)] at z2
        exact R.apart j k d e a hjk q1' q2' z1 z2
theorem REnv.setF (R : REnv G H0 H S σ ρ) (i : Nat) {v : V} {d : D} (h : Rep G H S d v) : REnv G H0 H S (σ.set i (some v)) (setE ρ i d) :=
  R.put i v _ (fun b d' e => by cases e; exact h) (fun d' e => by cases e)
theorem REnv.drop1 (R : REnv G H0 H S σ ρ) (i : Nat) : REnv G H0 H S (σ.set i none) (ρ.set i none) := by
  refine ⟨by rw [List.length_set, List.length_set]; exact R.len, R.dom, fun j b d q => ?_, fun j k d e a hjk q1 q2 z1 z2 => ?_⟩
  · rcases get_set q with ⟨rfl, e, hl⟩ | ⟨ne, q⟩
    · cases e
    · obtain ⟨w, h1, h2⟩ := R.slot j b d q
      exact ⟨w, by rw [List.getElem?_set_ne (Ne.symm ne)]; exact h1, h2⟩
  · rcases get_set q1 with ⟨_, e, _⟩ | ⟨n1, q1⟩
    · cases e
    · rcases get_set q2 with ⟨_, e, _⟩ | ⟨n2, q2⟩
      · cases e
      · rw [List.getElem?_set_ne (Ne.symm n1)] at z1
        rw [List.getElem?_set_ne (Ne.symm n2)] at z2
        exact R.apart j k d e a hjk q1 q2 z1 z2
theorem REnv.wipe (R : REnv G H0 H S σ ρ) : ∀ vs : List Nat, REnv G H0 H S (wipe σ vs) (wipeE ρ vs)
  | [] => R
  | v :: vs => (REnv.wipe R vs).drop1 v
end
/-! ### targets -/
def gNs : List Nat → TGs
  | [] => gNil
  | i :: is => gCons (gName i) (gNs is)
def gOf (K : PySem.W.Frag) : Tg → TG
  | .one i => gName i
  | .tup is => gTup K is.length (gNs is)
def Tg.sl : Tg → List Nat
  | .one i => [i]
  | .tup is => is
theorem wipe_comm (σ : L2.St) (i : Nat) (x : Option V) : ∀ vs : List Nat, i ∉ vs → wipe (σ.set i x) vs = (wipe σ vs).set i x
  | [], _ => rfl
  | v :: vs, h => by
    have h1 : i ≠ v := fun e => h (by rw [e]; exact List.mem_cons_self)
    have h2 : i ∉ vs := fun e => h (List.mem_cons_of_mem _ e)
    show (wipe (σ.set i x) vs).set v none = ((wipe σ vs).set v none).set i x
    rw [wipe_comm σ i x vs h2, List.set_comm _ _ h1]
theorem wipe_same (σ : L2.St) (i : Nat) (x : Option V) : ∀ vs : List Nat, i ∈ vs → wipe (σ.set i x) vs = wipe σ vs
  | [], h => nomatch h
  | v :: vs, h => by
    show (wipe (σ.set i x) vs).set v none = (wipe σ vs).set v none
    by_cases hm : i ∈ vs
    · rw [wipe_same σ i x vs hm]
    · have e : i = v := by
        rcases List.mem_cons.mp h with e | e
        · exact e
        · exact absurd e hm
      subst e
      rw [wipe_comm σ i x vs hm, List.set_set]
theorem wipe_wipe (σ : L2.St) : ∀ (us vs : List Nat), (∀ i ∈ us, i ∈ vs) → wipe (wipe σ us) vs = wipe σ vs
  | [], _, _ => rfl
  | v :: us, vs, h => by
    show wipe ((wipe σ us).set v none) vs = wipe σ vs
    rw [wipe_same _ v none vs (h v List.mem_cons_self)]
    exact wipe_wipe σ us vs fun i hi => h i (List.mem_cons_of_mem _ hi)
section
variable {G : Gm} {H0 H : Hp} {S : Sy}
theorem gNs_of : ∀ (is : List Nat) (ds : List D) (xs : List V) (σ : L2.St) (ρ ρ' : En) (Q : L2.St → Hp → Prop), setEs is ds ρ = .ok ρ' → Paired (Rep G H S) ds xs → REnv G H0 H S σ ρ →
    (∀ σ', REnv G H0 H S σ' ρ' → (∀ vs, (∀ i ∈ is, i ∈ vs) → wipe σ' vs = wipe σ vs) → Q σ' H) → gNs is xs σ H Q
  | [], [], _, σ, ρ, ρ', Q, e, .nil, R, q => by cases e; exact ⟨rfl, q σ R fun _ _ => rfl⟩
  | i :: is, d :: ds, _, σ, ρ, ρ', Q, e, .cons r t, R, q => by
    refine ⟨_, _, rfl, gNs_of is ds _ (σ.set i (some _)) (setE ρ i d) ρ' Q e t (R.setF i r) fun σ' R' w => q σ' R' fun vs h => ?_⟩
    rw [w vs fun j hj => h j (List.mem_cons_of_mem _ hj), wipe_same σ i _ vs (h i List.mem_cons_self)]
  | [], _ :: _, _, _, _, _, _, e, _, _, _ => by cases e
  | _ :: _, [], _, _, _, _, _, e, _, _, _ => by cases e
theorem setEs_len : ∀ (is : List Nat) (ds : List D) (ρ ρ' : En), setEs is ds ρ = .ok ρ' → ds.length = is.length
  | [], [], _, _, _ => rfl
  | i :: is, d :: ds, ρ, ρ', e => by
    have := setEs_len is ds (setE ρ i d) ρ' e
    rw [List.length_cons, List.length_cons, this]
  | [], _ :: _, _, _, e => by cases e
  | _ :: _, [], _, _, e => by cases e
theorem gOf_of {t : Tg} {d : D} {x : V} {σ : L2.St} {ρ ρ' : En} {Q : L2.St → Hp → Prop} (e : bindT t d ρ = .ok ρ') (r : Rep G H S d x) (R : REnv G H0 H S σ ρ)
    (q : ∀ σ', REnv G H0 H S σ' ρ' → (∀ vs, (∀ i ∈ t.sl, i ∈ vs) → wipe σ' vs = wipe σ vs) → Q σ' H) : gOf G.K t x σ H Q := by
  cases t with
  | one i =>
    cases e
    exact q _ (R.setF i r) fun vs h => wipe_same σ i _ vs (h i List.mem_cons_self)
  | tup is =>
    cases d with
    | tup ds =>
      have e' : setEs is ds ρ = .ok ρ' := e
      cases r with
      | tup z p => exact ⟨_, _, rfl, z.sq, by rw [← Paired.length p]; exact setEs_len is ds ρ ρ' e', gNs_of is ds _ σ ρ ρ' Q e' p R q⟩
    | _ => cases e
end
/-! ### what is walked -/
section
variable {G : Gm} {H : Hp} {S : Sy}
theorem wlk_lst {K : PySem.W.Frag} {a : Addr} {xs : List V} {ds : List D} (hK : K = G.K) (h : FzL G.K H S a xs) (p : Paired (Rep G H S) ds xs) : Wlk G (Itl K a) ds H S where
  go := fun i H' S' k hi => by
    obtain ⟨v, h1, _⟩ := p.gt (List.getElem?_eq_getElem hi)
    exact ⟨xs, v, by rw [hK]; exact (k.fzl h).sq, h1⟩
  yld := fun i H' S' x H'' k y d hd => by
    obtain ⟨e, y⟩ := y
    obtain ⟨v, h1, h2⟩ := p.gt hd
    have h3 := y xs (by rw [hK]; exact (k.fzl h).sq)
    rw [h1] at h3
    cases h3
    exact ⟨e, h2.keep k⟩
  stop := fun H' S' k => ⟨xs, by rw [hK]; exact (k.fzl h).sq, by rw [Paired.length p]; exact Nat.le_refl _⟩
theorem wlk_tup {K : PySem.W.Frag} {a : Addr} {xs : List V} {ds : List D} (hK : K = G.K) (h : FzT G.K H S a xs) (p : Paired (Rep G H S) ds xs) : Wlk G (Itt K a) ds H S where
  go := fun i H' S' k hi => by
    obtain ⟨v, h1, _⟩ := p.gt (List.getElem?_eq_getElem hi)
    exact ⟨xs, v, by rw [hK]; exact (k.fzt h).sq, h1⟩
  yld := fun i H' S' x H'' k y d hd => by
    obtain ⟨e, y⟩ := y
    obtain ⟨v, h1, h2⟩ := p.gt hd
    have h3 := y xs (by rw [hK]; exact (k.fzt h).sq)
    rw [h1] at h3
    cases h3
    exact ⟨e, h2.keep k⟩
  stop := fun H' S' k => ⟨xs, by rw [hK]; exact (k.fzt h).sq, by rw [Paired.length p]; exact Nat.le_refl _⟩
theorem wlk_rng {lo : Int} {n : Nat} {ds : List D} (h : ds = (List.range n).map fun (k : Nat) => D.int (lo + (k : Int))) : Wlk G (Itr lo n) ds H S where
  go := fun i H' S' k hi => by
    rw [h, List.length_map, List.length_range] at hi
    exact hi
  yld := fun i H' S' x H'' k y d hd => by
    obtain ⟨e, y⟩ := y
    rw [h, List.getElem?_map] at hd
    cases z : (List.range n)[i]? with
    | none => rw [z] at hd; cases hd
    | some j =>
      rw [z] at hd
      obtain ⟨_, e3⟩ := List.getElem?_eq_some_iff.mp z
      rw [List.getElem_range] at e3
      subst e3
      cases hd
      rw [y]
      exact ⟨e, .int _⟩
  stop := fun H' S' k => by
    show n ≤ ds.length
    rw [h, List.length_map, List.length_range]
    exact Nat.le_refl _
end
section
variable {G : Gm} {W : WD} {H0 : Hp} {X : Cx} {e a b tg : Expr} {pos : Pos}
def iAny (K : PySem.W.Frag) (tl : TE) : TI := fun σ H R => tl σ H fun x H1 => ∃ a, x = .ref a ∧ ((∃ xs, SqL K H1 a xs) ∧ R (Itl K a) H1 ∨ (∃ xs, SqT K H1 a xs) ∧ R (Itt K a) H1)
theorem pi_any {tl : TE} (hl : PE X e tl) : PI X tg e (iAny X.K tl) := by
  refine ⟨fun pins s σ H R I h => ?_⟩
  refine thn (hl.run pins s σ H _ I h) fun v s1 ⟨x, H1, I1, r1, q1⟩ => ?_
  obtain ⟨a, rfl, ⟨⟨xs, hq⟩, q⟩ | ⟨⟨xs, hq⟩, q⟩⟩ := q1
  · cases r1
    obtain ⟨its, rv, p, hz⟩ := I1.list hq
    refine wpAny_pyIter_list p.isList ?_
    refine ⟨s1.heap.objs.size, [s1.heap.objs.size], _, _, H1, rfl, I1.kept (t' := s1.toks) fun b o e => Heap.get?_push_of_some _ e, turn_list a _, ⟨_, Heap.get?_push_size _ rfl, rfl, rfl⟩, fun b hb => ?_, q⟩
    have e : b = s1.heap.objs.size := by simpa using hb
    subst e
    exact I1.fpOk (Nat.le_refl _) (I1.hok.fresh (Nat.le_refl _))
  · cases r1
    obtain ⟨its, rv, p, hz⟩ := I1.tuple hq
    refine wpAny_pyIter_tuple (show s1.heap.IsTuple a its.toArray from p) ?_
    refine ⟨s1.heap.objs.size, [s1.heap.objs.size], _, _, H1, rfl, I1.kept (t' := s1.toks) fun b o e => Heap.get?_push_of_some _ e, turn_tuple a _, ⟨_, Heap.get?_push_size _ rfl, rfl, rfl⟩, fun b hb => ?_, q⟩
    have e : b = s1.heap.objs.size := by simpa using hb
    subst e
    exact I1.fpOk (Nat.le_refl _) (I1.hok.fresh (Nat.le_refl _))
theorem itemsD_nox {d : D} {c : Str} : itemsD d ≠ .exc c := fun e => by cases d <;> cases e
theorem pi_sq {f : En → Res (Bool × D)} (hK : X.K = G.K) (h : PE X e (tD G W H0 f)) : PI X tg e (tI G W H0 fun ρ => (sndR (f ρ)).bind itemsD) :=
  (pi_any (pe_F h)).im fun σ H Q ⟨S, ρ, R, p⟩ => by
    refine ⟨S, ρ, R, mkF rdI p fun d p v H1 S1 e1 r1 => ?_⟩
    cases d with
    | lst ds =>
      cases r1 with
      | lst z q => exact ⟨_, rfl, .inl ⟨⟨_, by rw [hK]; exact z.sq⟩, p _ H1 S1 e1 (wlk_lst hK z q)⟩⟩
    | tup ds =>
      cases r1 with
      | tup z q => exact ⟨_, rfl, .inr ⟨⟨_, by rw [hK]; exact z.sq⟩, p _ H1 S1 e1 (wlk_tup hK z q)⟩⟩
    | _ => exact False.elim p
theorem mkBI {W : Str → Hp → Prop} {H : Hp} {S : Sy} {β : Type} {Z : Res β → Prop} (rd : Rd1 W H S Z) {r : Res D} {k : Int → Res β} {Q : VK} (z : Z ((intR r).bind k)) (ok : ∀ i, Z (k i) → ∀ H' S', Gr H S H' S' → Q (.int i) H') : PostB G W H S r Q := by
  cases r with
  | ok d =>
    cases d with
    | int i => exact fun v H' S' e l => by cases l.int; exact ok i z H' S' e
    | _ => exact (rd.f z).elim
  | exc c => exact rd.x c z
  | fail => exact rd.f z
variable {fa fb : En → Res D} {p : Pos}
theorem rng_ite {W : Str → Hp → Prop} {H : Hp} {S : Sy} {i j : Int} {R : It → Hp → Prop} (p : PostI G W H S (rngD i j) R) : (-(2 ^ 62) ≤ i ∧ i < 2 ^ 62 ∧ -(2 ^ 62) ≤ j ∧ j < 2 ^ 62) ∧ PostI G W H S (.ok ((List.range (j - i).toNat).map fun (k : Nat) => D.int (i + (k : Int)))) R := by
  unfold rngD at p
  by_cases z : -(2 ^ 62) ≤ i ∧ i < 2 ^ 62 ∧ -(2 ^ 62) ≤ j ∧ j < 2 ^ 62
  · rw [if_pos z] at p; exact ⟨z, p⟩
  · rw [if_neg z] at p; exact p.elim
theorem pi_r1 (hg : Gl X "range") (hm : X.mg "range" = none) (ha : PE X a (tB G W H0 fa)) (hs : starEach [a] X.env = [(false, eval a X.env)]) : PI X tg (.Call (.Name "range" p) [a] [] pos) (tI G W H0 fun ρ => (intR (fa ρ)).bind fun j => rngD 0 j) :=
  (pi_range1 hg hm (pa_cons ha pa_nil hs) hs).im fun σ H Q ⟨S, ρ, R, p⟩ => by
    refine ⟨S, ρ, R, mkBI rdI p fun j p H1 S1 e1 => ?_⟩
    obtain ⟨⟨_, _, c3, c4⟩, p⟩ := rng_ite (p.gr e1)
    exact ⟨j, rfl, c3, c4, p _ H1 S1 (Gr.refl _ _) (wlk_rng (by rw [Int.sub_zero]))⟩
theorem pi_r2 (hg : Gl X "range") (hm : X.mg "range" = none) (ha : PE X a (tB G W H0 fa)) (hb : PE X b (tB G W H0 fb)) (hs : starEach [a, b] X.env = [(false, eval a X.env), (false, eval b X.env)]) (hs2 : starEach [b] X.env = [(false, eval b X.env)]) :
    PI X tg (.Call (.Name "range" p) [a, b] [] pos) (tI G W H0 fun ρ => (intR (fa ρ)).bind fun i => (intR (fb ρ)).bind fun j => rngD i j) :=
  (pi_range2 hg hm (pa_cons ha (pa_cons hb pa_nil hs2) (by rw [hs, hs2])) hs hs2).im fun σ H Q ⟨S, ρ, R, p⟩ => by
    refine ⟨S, ρ, R, mkBI rdI p fun i p H1 S1 e1 => ⟨S1, ρ, R.gr e1, mkBI rdI (p.gr e1) fun j p H2 S2 e2 => ?_⟩⟩
    obtain ⟨⟨c1, c2, c3, c4⟩, p⟩ := rng_ite (p.gr e2)
    exact ⟨i, j, rfl, ⟨c1, c2, c3, c4⟩, p _ H2 S2 (Gr.refl _ _) (wlk_rng rfl)⟩
end
/-! ### comprehensions -/
section
variable {G : Gm} {W : WD} {H0 : Hp} {X : Cx}
theorem Keep.updN {H : Hp} {S : Sy} {p : Addr} {o : HO} (h : ¬ S p) : Keep H S (upd H p o) S := fun b s => ⟨s, fun u e => by rw [upd_ne (show b ≠ p from fun z => h (by rw [← z]; exact s))]; exact e⟩
theorem pe_co {elt tg iter : Expr} {ifs : List Expr} {scope : Scope} {own : List (Str × Nat)} {pos : Pos} {t : Tg} {fi : En → Res (List D)} {fc : En → Res Bool} {fe : En → Res (Bool × D)} (hK : X.K = G.K) (hc : X.calm = true) (hN : X.N.Nodup)
    (hi : PI X tg iter (tI G W H0 fi)) (ok : BlkOk X.N X.env.scope scope own) (hsl : ∀ i ∈ t.sl, i ∈ own.map (·.2))
    (hg : ∀ (s : Shared) (H : Hp) (C : Addr) (cl : List (Str × Addr)) (fp : List Addr), PG (X.blk s H scope (compEnvC scope cl C X.env) fp) tg (gOf G.K t))
    (ht : ∀ (s : Shared) (H : Hp) (C : Addr) (cl : List (Str × Addr)) (fp : List Addr), PTs (X.blk s H scope (compEnvC scope cl C X.env) fp) ifs (tT G (fun _ _ _ => False) H0 fc))
    (he : ∀ (s : Shared) (H : Hp) (C : Addr) (cl : List (Str × Addr)) (fp : List Addr), PE (X.blk s H scope (compEnvC scope cl C X.env) fp) elt (tD G (fun _ _ _ => False) H0 fe)) :
    (∀ σ H Q, tD G W H0 (fun ρ => (fi ρ).bind fun ds => if ds.length ≤ sizeLine then (compL (fun d => noX ((bindT t d (wipeE ρ (own.map (·.2)))).bind fun ρ' => (fc ρ').bind fun k => if k = true then (fe ρ').bind fun y => .ok (some y.2) else .ok none)) ds).bind fun ys => .ok (true, .lst ys) else .fail) σ H Q →
      tLc (tI G W H0 fi) (gOf G.K t) (tT G (fun _ _ _ => False) H0 fc) (tD G (fun _ _ _ => False) H0 fe) (own.map (·.2)) σ H Q) := by
  intro σ H Q ⟨S, ρ, R, p⟩
  generalize hvs : own.map (·.2) = vs at *
  refine ⟨S, ρ, R, mkI rdD p fun ds p J H1 S1 e1 wk D0 hD => ?_⟩
  obtain ⟨hsz, p⟩ := Post.ite p
  generalize hf : (fun d => noX ((bindT t d (wipeE ρ vs)).bind fun ρ' => (fc ρ').bind fun k => if k = true then (fe ρ').bind fun y => Res.ok (some y.2) else .ok none)) = f at p
  have fd : ∀ d, f d = noX ((bindT t d (wipeE ρ vs)).bind fun ρ' => (fc ρ').bind fun k => if k = true then (fe ρ').bind fun y => Res.ok (some y.2) else .ok none) := fun d => by rw [← hf]
  have H0D : H D0 = none := e1.same.free hD
  -- what holds between two turns
  let J2 : Nat → Hp → Prop := fun i Hc => ∃ (Sc : Sy) (acc : List V) (ys : List D), Gr H1 S1 Hc Sc ∧ ¬ Sc D0 ∧ Hc D0 = some (.lst acc) ∧ acc.length ≤ i ∧ Paired (Rep G Hc Sc) ys acc ∧
    Post G (fun c => W c σ) H S ((compL f (ds.drop i)).bind fun r => .ok (true, .lst (ys ++ r))) Q
  refine ⟨fun i m Hc => m = ds.length - i ∧ i ≤ ds.length ∧ J2 i Hc, ⟨_, rfl, Nat.zero_le _, S1, [], [], Gr.laid hD, fun z => ?_, upd_same, Nat.le_refl _, .nil, ?_⟩, fun i m Hc => ?_⟩
  · obtain ⟨o, h⟩ := (R.gr e1).dom D0 z
    rw [hD] at h
    cases h
  · exact p
  · rintro ⟨rfl, hle, Sc, acc, ys, g, nS, hacc, hal, pr, p⟩
    have gg := e1.trans g
    by_cases hi : i < ds.length
    · have ed : ds.drop i = ds[i] :: ds.drop (i + 1) := List.drop_eq_getElem_cons hi
      have gt : ds[i]? = some ds[i] := List.getElem?_eq_getElem hi
      refine .inr ⟨wk.go i Hc Sc g.keep hi, fun Hc' => J2 (i + 1) Hc', fun Hc' hn => ⟨ds.length - (i + 1), by omega, rfl, hi, hn⟩, fun x Hx y => ?_⟩
      obtain ⟨rfl, rx⟩ := wk.yld i Hc Sc x Hx g.keep y _ gt
      rw [ed] at p
      generalize hd : ds[i] = d at *
      have p : Post G (fun c => W c σ) H S (((f d).bind fun o => (compL f (ds.drop (i + 1))).bind fun r => .ok (match o with | some y => y :: r | none => r)).bind fun r => .ok (true, .lst (ys ++ r))) Q := p
      rw [fd] at p
      cases zb : bindT t d (wipeE ρ vs) with
      | fail => rw [zb] at p; exact p.elim
      | exc c => rw [zb] at p; exact False.elim p
      | ok ρ' =>
        rw [zb] at p
        refine gOf_of zb rx ((R.gr gg).wipe vs) fun σ2 R2 hw => ⟨?_, Sc, ρ', R2, ?_⟩
        · rw [hw vs hsl]
          exact wipe_wipe σ vs vs fun _ h => h
        · cases zc : fc ρ' with
          | fail => rw [show ((Res.ok ρ').bind fun ρ' => (fc ρ').bind fun k => if k = true then (fe ρ').bind fun y => Res.ok (some y.2) else Res.ok none) = ((fc ρ').bind fun k => if k = true then (fe ρ').bind fun y => Res.ok (some y.2) else Res.ok none) from rfl, zc] at p; exact False.elim p
          | exc c => rw [show ((Res.ok ρ').bind fun ρ' => (fc ρ').bind fun k => if k = true then (fe ρ').bind fun y => Res.ok (some y.2) else Res.ok none) = ((fc ρ').bind fun k => if k = true then (fe ρ').bind fun y => Res.ok (some y.2) else Res.ok none) from rfl, zc] at p; exact False.elim p
          | ok k =>
            rw [show ((Res.ok ρ').bind fun ρ' => (fc ρ').bind fun k => if k = true then (fe ρ').bind fun y => Res.ok (some y.2) else Res.ok none) = ((fc ρ').bind fun k => if k = true then (fe ρ').bind fun y => Res.ok (some y.2) else Res.ok none) from rfl, zc] at p
            intro H3 S3 e3
            have nS3 : ¬ S3 D0 := fun z => (e3.new D0 z).elim nS fun q => by rw [hacc] at q; cases q.1
            cases k with
            | false =>
              refine ⟨S3, acc, ys, g.trans e3, nS3, e3.same _ _ hacc, by omega, e3.reps pr, ?_⟩
              cases zr : compL f (ds.drop (i + 1)) with
              | fail => rw [zr] at p; exact False.elim p
              | exc c => rw [zr] at p; exact p
              | ok r => rw [zr] at p; exact p
            | true =>
              refine ⟨S3, ρ', R2.gr e3, ?_⟩
              cases ze : fe ρ' with
              | fail => rw [show ((Res.ok true).bind fun k => if k = true then (fe ρ').bind fun y => Res.ok (some y.2) else Res.ok none) = ((fe ρ').bind fun y => Res.ok (some y.2)) from rfl, ze] at p; exact False.elim p
              | exc c => rw [show ((Res.ok true).bind fun k => if k = true then (fe ρ').bind fun y => Res.ok (some y.2) else Res.ok none) = ((fe ρ').bind fun y => Res.ok (some y.2)) from rfl, ze] at p; exact False.elim p
              | ok y =>
                rw [show ((Res.ok true).bind fun k => if k = true then (fe ρ').bind fun y => Res.ok (some y.2) else Res.ok none) = ((fe ρ').bind fun y => Res.ok (some y.2)) from rfl, ze] at p
                intro v H4 S4 e4 r4
                obtain ⟨S5, e5, k5, r5⟩ := r4.fz e4
                have e35 := e3.trans e5
                have hD4 : H4 D0 = some (.lst acc) := e35.same _ _ hacc
                have nS5 : ¬ S5 D0 := fun z => (e35.new D0 z).elim nS fun q => by rw [hacc] at q; cases q.1
                have kp : Keep H4 S5 (upd H4 D0 (.lst (acc ++ [v]))) S5 := Keep.updN nS5
                refine ⟨acc, hD4, by omega, S5, acc ++ [v], ys ++ [y.2], ⟨fun b o hb => ?_, (g.trans e35).sub, fun b hb => ?_⟩, nS5, upd_same, by rw [List.length_append, List.length_singleton]; omega, ?_, ?_⟩
                · have nb : b ≠ D0 := fun z => by rw [z, hD] at hb; cases hb
                  rw [upd_ne nb]
                  exact (g.trans e35).same _ _ hb
                · have nb : b ≠ D0 := fun z => nS5 (z ▸ hb)
                  rw [upd_ne nb]
                  exact (g.trans e35).new b hb
                · exact (Rep.keepL kp _ _ (e35.reps pr)).app (.cons (r5.keep kp) .nil)
                · have ea : ∀ r : List D, (ys ++ [y.2]) ++ r = ys ++ (y.2 :: r) := fun r => by rw [List.append_assoc]; rfl
                  cases zr : compL f (ds.drop (i + 1)) with
                  | fail => rw [zr] at p; exact False.elim p
                  | exc c => rw [zr] at p; exact p
                  | ok r =>
                    rw [zr] at p
                    show Post G (fun c => W c σ) H S (.ok (true, .lst ((ys ++ [y.2]) ++ r))) Q
                    rw [ea]
                    exact p
    · have e : i = ds.length := by omega
      subst e
      rw [List.drop_length] at p
      refine .inl ⟨wk.stop Hc Sc g.keep, ?_⟩
      have p : Post G (fun c => W c σ) H S (.ok (true, .lst (ys ++ []))) Q := p
      rw [List.append_nil] at p
      exact p _ Hc Sc gg ⟨D0, acc, ys, rfl, rfl, nS, H0D, hacc, pr⟩
end
end Hf

/-! Hf6: the text's expressions as the small language's; they give what it says. -/
namespace Hf
open PySem PySem.Spec PyProof.Rows L2
set_option autoImplicit false

/-- what the module offers beside its defs: constants, classes of errors -/
structure Mo where
  gl : Str → Option D
  gs : List Str
  es : List Str
  ki : Str → Str → Option Bool
  sub : Str → Str → Option Bool
  hs : List Str
structure Cc where
  N : List Str
  sc : Scope
  top : Bool
  fs : List (Str × Nat)
  mo : Mo
  /-- run where an exception is handled -/
  hot : Bool
def okNm (x : Str) : Bool := !(decide (x = ("__debug__" : Str)) || decide (x = ("__classdict__" : Str)) || decide (x = ("__name__" : Str)))
def idxN (N : List Str) (x : Str) : Option Nat := match N.findIdx? fun y => decide (y = x) with
  | some i => if N[i]? = some x then some i else none
  | none => none
theorem idxN_ok {N : List Str} {x : Str} {i : Nat} (h : idxN N x = some i) : N[i]? = some x := by
  unfold idxN at h
  split at h
  · split at h
    · cases h; assumption
    · cases h
  · cases h
/-- the kind of a name -/
def kindC (c : Cc) (x : Str) : Option NameKind := c.sc.names.lookup x
def slotOf (c : Cc) (x : Str) : Option Nat := match okNm x with
  | true => (match kindC c x with
    | some .local => idxN c.N x
    | some .cell => idxN c.N x
    | some .free => idxN c.N x
    | _ => none)
  | false => none
def isGl (c : Cc) (x : Str) : Bool := okNm x && decide (kindC c x = some .globalImplicit)
/-- a slot that may be stored -/
def stOf (c : Cc) (x : Str) : Option Nat := match kindC c x with
  | some .local => idxN c.N x
  | some .cell => (match c.top with
    | true => idxN c.N x
    | false => none)
  | _ => none
def biOf (x : Str) : Option Bi :=
  if x = ("len" : Str) then some .len else if x = ("tuple" : Str) then some .tuple else if x = ("list" : Str) then some .list else if x = ("sum" : Str) then some .sum
  else if x = ("abs" : Str) then some .abs else if x = ("int" : Str) then some .int else none
def tyOf (x : Str) : Option Ty :=
  if x = ("int" : Str) then some .int else if x = ("bool" : Str) then some .bool else if x = ("str" : Str) then some .str else if x = ("tuple" : Str) then some .tuple
  else if x = ("list" : Str) then some .list else none
def bnames : List Str := ["len", "tuple", "list", "sum", "abs", "int", "bool", "str", "isinstance", "range"]
def isStar : Expr → Bool
  | .Starred _ _ => true
  | _ => false
def cEs (f : Expr → Option Ex) : List Expr → Option Exs
  | [] => some .nil
  | e :: es => match isStar e, f e, cEs f es with
    | false, some p, some ps => some (.cons p ps)
    | _, _, _ => none
/-- names of classes -/
def cCls (c : Cc) : List Expr → Option (List Str)
  | [] => some []
  | .Name y _ :: r => (match isGl c y, cCls c r with
    | true, some zs => some (y :: zs)
    | _, _ => none)
  | _ => none
def cKeys : List (Option Expr) → Option (List Str)
  | [] => some []
  | some (.Constant (.str z) _ _) :: r => (cKeys r).map (z :: ·)
  | _ => none
/-- .. with starred ones -/
def cEsT (f : Expr → Option Ex) : List Expr → Option Exs
  | [] => some .nil
  | .Starred a _ :: es => (match f a, cEsT f es with
    | some p, some ps => some (.star p ps)
    | _, _ => none)
  | e :: es => match isStar e, f e, cEsT f es with
    | false, some p, some ps => some (.cons p ps)
    | _, _, _ => none
def cBo (and : Bool) (f : Expr → Option Ex) : List Expr → Option Ex
  | [] => none
  | [e] => f e
  | e :: es => match f e, cBo and f es with
    | some p, some q => some (if and = true then .and p q else .or p q)
    | _, _ => none
def cBoT (and : Bool) (f : Expr → Option Te) : List Expr → Option Te
  | [] => none
  | [e] => f e
  | e :: es => match f e, cBoT and f es with
    | some p, some q => some (if and = true then .and p q else .or p q)
    | _, _ => none
def cNames (c : Cc) : List Expr → Option (List Nat)
  | [] => some []
  | .Name x _ :: es => match stOf c x, cNames c es with
    | some i, some is => some (i :: is)
    | _, _ => none
  | _ => none
def cTg (c : Cc) : Expr → Option Tg
  | .Name x _ => (stOf c x).map .one
  | .Tuple es _ _ => (match c.hot with
    | false => (cNames c es).map .tup
    | true => none)
  | _ => none
def isSlice : Expr → Bool
  | .Slice .. => true
  | _ => false
def isSet : Expr → Bool
  | .Set .. => true
  | _ => false
/-- no special arm of a test -/
def plainT : Expr → Bool
  | .BoolOp .. => false
  | .UnaryOp .Not _ _ => false
  | .IfExp .. => false
  | .Compare .. => false
  | .Set .. => false
  | _ => true
def ownOf (N : List Str) (scope : Scope) : List (Str × Nat) := scope.names.filterMap fun y => match y.2 with
  | .local => if y.1 = (".0" : Str) then none else (idxN N y.1).map fun i => (y.1, i)
  | .cell => if y.1 = (".0" : Str) then none else (idxN N y.1).map fun i => (y.1, i)
  | _ => none
def cMp (b : Expr) : Bool := !isSet b
mutual
def cE : Nat → Cc → Expr → Option Ex
  | 0, _, _ => none
  | n + 1, c, e => match e with
    | .Constant (.int i) _ _ => some (.lit (.int i))
    | .Constant (.bool b) _ _ => some (.lit (.bl b))
    | .Constant (.str x) _ _ => some (.lit (.str x))
    | .Constant .none _ _ => some (.lit .non)
    | .Name x _ => (match slotOf c x with
      | some i => some (.var i)
      | none => if isGl c x = true ∧ x ∈ c.mo.gs then some (.gl x) else none)
    | .BinOp a o b _ => (match cE n c a, cE n c b with
      | some p, some q => some (.bin o p q)
      | _, _ => none)
    | .UnaryOp .USub a _ => (cE n c a).map .neg
    | .UnaryOp .Not a _ => (cE n c a).map .not
    | .Compare a [o] [b] _ => (match cMp b, cE n c a, cE n c b with
      | true, some p, some q => some (.cmp o p q)
      | _, _, _ => none)
    | .Compare a [o, o'] [b, d] _ => (match cMp b, cMp d, cE n c a, cE n c b, cE n c d with
      | true, true, some p, some q, some r => some (.chn o o' p q r)
      | _, _, _, _, _ => none)
    | .BoolOp .And (e1 :: e2 :: es) _ => cBo true (cE n c) (e1 :: e2 :: es)
    | .BoolOp .Or (e1 :: e2 :: es) _ => cBo false (cE n c) (e1 :: e2 :: es)
    | .IfExp t a b _ => (match cT n c t, cE n c a, cE n c b with
      | some u, some p, some q => some (.ite u p q)
      | _, _, _ => none)
    | .Tuple es _ _ => (cEsT (cE n c) es).map .tup
    | .List es _ => (cEsT (cE n c) es).map .lst
    | .Subscript a (.Slice lo hi none _) _ => (match cE n c a, (match lo with | none => some Exo.none | some l => (cE n c l).map Exo.some), (match hi with | none => some Exo.none | some h => (cE n c h).map Exo.some) with
      | some p, some l, some h => some (.slc p l h)
      | _, _, _ => none)
    | .Subscript a i _ => (match isSlice i, cE n c a, cE n c i with
      | false, some p, some q => some (.idx p q)
      | _, _, _ => none)
    | .Call (.Name f _) es [] _ => (match isGl c f with
      | false => (match es with
        | [.Starred a _] => (match c.hot, slotOf c f, cE n c a with
          | false, some i, some p => some (.star i p)
          | _, _, _ => none)
        | _ => none)
      | true => (match c.fs.lookup f with
        | some k => if es.length = k ∧ c.hot = false then (cEs (cE n c) es).map (.call f) else none
        | none => if f = ("isinstance" : Str) then (match es with
            | [a, .Name y _] => (match isGl c y && isStar a == false, cE n c a, tyOf y with
              | true, some p, some t => some (.isi p t)
              | true, some (.var i), none => some (.isx i [y] false)
              | _, _, _ => none)
            | [a, .Tuple ys _ _] => (match isStar a, cE n c a, cCls c ys with
              | false, some (.var i), some zs => if zs.length ≤ 15 then some (.isx i zs true) else none
              | _, _, _ => none)
            | _ => none)
          else (match biOf f, es with
            | some b, [a] => (match isStar a || (c.hot && decide (b = .sum)), cE n c a with
              | false, some p => some (.bi b p)
              | _, _ => none)
            | _, _ => none)))
    | .Dict keys values _ => (match cKeys keys, cEs (cE n c) values with
      | some zs, some ps => if zs.length = values.length ∧ zs ≠ [] ∧ zs.length ≤ 15 ∧ zs.Nodup then some (.dict zs ps) else none
      | _, _ => none)
    | .ListComp elt [⟨tg, iter, ifs, 0⟩] scope _ =>
      let own := ownOf c.N scope
      let c' : Cc := { c with sc := relS scope c.sc, top := false }
      (match blkC c.N c.sc scope own && !c.hot, cTg c' tg, cI n c iter, (match ifs with | [] => some Tes.nil | [t] => (cT n c' t).map Tes.one | _ => none), cE n c' elt with
      | true, some t, some it, some k, some p => if t.sl.all (fun i => decide (i ∈ own.map (·.2))) = true then some (.comp t (own.map (·.2)) it k p) else none
      | _, _, _, _, _ => none)
    | _ => none
def cT : Nat → Cc → Expr → Option Te
  | 0, _, _ => none
  | n + 1, c, e => match e with
    | .BoolOp .And es _ => cBoT true (cT n c) es
    | .BoolOp .Or es _ => cBoT false (cT n c) es
    | .UnaryOp .Not a _ => (cT n c a).map .not
    | .Compare a [o] [b] pos => (match cMp b, cE n c a, cE n c b with
      | true, some p, some q => some (.val (.cmp o p q))
      | _, _, _ => none)
    | .Compare a [o, o'] [b, d] _ => (match cMp b, cMp d, cE n c a, cE n c b, cE n c d with
      | true, true, some p, some q, some r => some (.val (.chn o o' p q r))
      | _, _, _, _, _ => none)
    | e => (match plainT e with
      | true => (cE n c e).map .val
      | false => none)
def cI : Nat → Cc → Expr → Option Is
  | 0, _, _ => none
  | n + 1, c, e => match e with
    | .Call (.Name f p) es [] pos => (match isGl c f && decide (f = ("range" : Str)) && (c.fs.lookup f).isNone with
      | true => (match es with
        | [a] => (match isStar a, cE n c a with
          | false, some p => some (.rng1 p)
          | _, _ => none)
        | [a, b] => (match isStar a, isStar b, cE n c a, cE n c b with
          | false, false, some p, some q => some (.rng2 p q)
          | _, _, _, _ => none)
        | _ => none)
      | false => (cE n c (.Call (.Name f p) es [] pos)).map .seq)
    | e => (match isSet e with
      | false => (cE n c e).map .seq
      | true => none)
end

/-- a def of the text keeps what r says, up to n calls deep -/
def FnD (P : Program) (w : World) (G : Gm) (base : Heap) (n : Nat) (f : Str) (k : Nat) (r : List D → Res (Bool × D)) : Prop :=
  ∃ fa fd ps, ps.length = k ∧ G.mg f = some (.ref fa) ∧ FnOk P w G.K G.mg base (L2.CX P w) n fa fd ps (spD G k r) ∧ PySem.W.keepIn G.K (.ref fa) = true ∧ Binds G.K fd ps []
def veB : List Value := [.type "ValueError", .type "Exception", .type "BaseException", .type "object"]
/-- a class of errors of the text's own, over ValueError, without an __init__ -/
structure ExcK (K : PySem.W.Frag) (C : Addr) : Prop where
  ex : PySem.W.excIn K C veB "ValueError.__new__" = true
  kp : PySem.W.keepIn K (.ref C) = true
  sb : PySem.W.subIn K (.ref C) (.type "BaseException") = some true
  ty : PySem.W.typeIn K (.ref C) = some (.type "type")
/-- the name y stands for the class u -/
def NamV (G : Gm) (y : Str) (v : V) (u : Value) : Prop := ClsV v u ∧ ((∃ D, G.mg y = some (.ref D) ∧ v = .ref D) ∨ (G.mg y = none ∧ bootBuiltins y = some u))
structure MoOk (w : World) (G : Gm) (mo : Mo) : Prop where
  gls : ∀ x ∈ mo.gs, ∀ d, mo.gl x = some d → ∃ u v, G.mg x = some u ∧ RelV v u ∧ ∀ H S, Rep G H S d v
  free : ∀ x ∈ bnames, G.mg x = none
  exs : ∀ x ∈ mo.es, ∃ C, G.mg x = some (.ref C) ∧ ExcK G.K C ∧ ExcC G.K C
  kis : ∀ c y b, mo.ki c y = some b → ∃ v u, NamV G y v u ∧ ∀ C, G.mg c = some (.ref C) → PySem.W.kitOne G.K (.ref C) u = some b
  sbs : ∀ c y b, mo.sub c y = some b → ∃ C D, G.mg c = some (.ref C) ∧ G.mg y = some (.ref D) ∧ PySem.W.exmOne G.K (.ref C) (.ref D) = some b
/-- .. by positional values, its last parameter perhaps the rest of them -/
def spV (G : Gm) (k : Nat) (va : Bool) (r : List D → Res (Bool × D)) : Sp := fun vs H Q E => arOk (some (k, va)) vs.length = true ∧ ∃ S ds, Dm H S ∧ Paired (Rep G H S) ds vs ∧ Post G (fun c H' => ∀ a, G.mg c = some (.ref a) → E (.ref a) none H') H S (r ds) Q
def FnV (P : Program) (w : World) (G : Gm) (base : Heap) (n : Nat) (f : Str) (k : Nat) (va : Bool) (r : List D → Res (Bool × D)) : Prop :=
  ∃ fa, G.mg f = some (.ref fa) ∧ FnR P w G.K G.mg base (L2.CX P w) n fa (spV G k va r) ∧ PySem.W.keepIn G.K (.ref fa) = true
structure Sta (P : Program) (w : World) (G : Gm) (base : Heap) (T : Tb) (n : Nat) (c : Cc) (W : WD) (X : Cx) : Prop where
  eP : X.prog = P
  ew : X.w = w
  K : X.K = G.K
  mg : X.mg = G.mg
  gw : G.w = w
  eb : X.base = base
  N : X.N = c.N
  sc : X.env.scope = c.sc
  nd : X.N.Nodup
  calm : c.hot = false → X.calm = true
  fn : c.top = true → ∀ x, X.fn x = true
  room : c.hot = false → Room n X.A
  un : X.A.units + 150 < cLine
  tk : Takes X (wOf G W)
  fns : ∀ f k, c.fs.lookup f = some k → FnD P w G base n f k (T.fn f)
  fnv : ∀ f k va, T.ar f = some (k, va) → FnV P w G base n f k va (T.fn f)
  hx0 : c.hot = false → G.hx = none
  hxs : ∀ a c, G.hx = some (a, c) → ∃ oe C, (a, oe) ∈ X.pn ∧ G.mg c = some (.ref C) ∧ ExcC G.K C ∧ Zc (.ref C) none oe ∧ ∃ vs, oe.data = .fields vs
  tgl : T.gl = c.mo.gl
  tki : T.ki = c.mo.ki
  tsb : T.sub = c.mo.sub
  mo : MoOk w G c.mo
section
variable {P : Program} {w : World} {G : Gm} {base : Heap} {T : Tb} {n : Nat} {c : Cc} {W : WD} {X : Cx}
theorem Sta.kis (s : Sta P w G base T n c W X) : ∀ k y b, T.ki k y = some b → ∃ v u, NamV G y v u ∧ ∀ C, G.mg k = some (.ref C) → PySem.W.kitOne G.K (.ref C) u = some b := fun k y b h => s.mo.kis k y b (by rw [← s.tki]; exact h)
theorem Sta.wG (s : Sta P w G base T n c W X) : X.w = G.w := s.ew.trans s.gw.symm
theorem Sta.units (s : Sta P w G base T n c W X) : X.A.units + 150 < cLine := s.un
theorem Sta.blk (s : Sta P w G base T n c W X) (hh : c.hot = false) (sh : Shared) (H : Hp) (scope : Scope) (cl : List (Str × Addr)) (C : Addr) (fp : List Addr) :
    Sta P w G base T n { c with sc := relS scope c.sc, top := false } (fun _ _ _ => False) (X.blk sh H scope (compEnvC scope cl C X.env) fp) where
  eP := s.eP
  ew := s.ew
  K := s.K
  mg := s.mg
  gw := s.gw
  eb := s.eb
  N := s.N
  sc := by
    show relabel scope X.env = relS scope c.sc
    rw [← s.sc] <;> rfl
  nd := s.nd
  calm := s.calm
  fn := fun h => by cases h
  room := s.room
  un := s.un
  tk := takes0.imp fun c d σ H ⟨_, _, _, _, _, h⟩ => h
  fns := s.fns
  fnv := s.fnv
  hx0 := s.hx0
  hxs := fun a c h => by rw [s.hx0 hh] at h; cases h
  tgl := s.tgl
  tki := s.tki
  tsb := s.tsb
  mo := s.mo
theorem okNm_ok {x : Str} (h : okNm x = true) : (x == ("__debug__" : Str)) = false ∧ (x == ("__classdict__" : Str)) = false ∧ x ≠ "__name__" := by
  unfold okNm at h
  rw [Bool.not_eq_true', Bool.or_eq_false_iff, Bool.or_eq_false_iff] at h
  exact ⟨beq_eq_false_iff_ne.mpr (of_decide_eq_false h.1.1), beq_eq_false_iff_ne.mpr (of_decide_eq_false h.1.2), of_decide_eq_false h.2⟩
theorem Sta.var (s : Sta P w G base T n c W X) {x : Str} {i : Nat} {pos : Pos} (h : slotOf c x = some i) : PE X (.Name x pos) (tVar i) := by
  unfold slotOf at h
  cases ok : okNm x with
  | false => rw [ok] at h; cases h
  | true =>
    rw [ok] at h
    obtain ⟨d1, d2, _⟩ := okNm_ok ok
    have kk : ∀ k, kindC c x = some k → X.env.scope.names.lookup x = some k := fun k q => by rw [s.sc]; exact q
    have go : ∀ (q : idxN c.N x = some i), X.N[i]? = some x := fun q => by rw [s.N]; exact idxN_ok q
    cases kd : kindC c x with
    | none => rw [kd] at h; cases h
    | some k =>
      rw [kd] at h
      cases k with
      | «local» => exact pe_var (go h) (.inl (kk _ kd)) d1 d2
      | cell => exact pe_var (go h) (.inr (.inl (kk _ kd))) d1 d2
      | free => exact pe_var (go h) (.inr (.inr (kk _ kd))) d1 d2
      | globalExplicit => cases h
      | globalImplicit => cases h
theorem Sta.gl (s : Sta P w G base T n c W X) {x : Str} (h : isGl c x = true) : Gl X x ∧ (x == ("__debug__" : Str)) = false ∧ x ≠ "__name__" := by
  unfold isGl at h
  rw [Bool.and_eq_true] at h
  obtain ⟨d1, _, d3⟩ := okNm_ok h.1
  refine ⟨?_, d1, d3⟩
  show X.env.scope.names.lookup x = some .globalImplicit
  rw [s.sc]
  exact of_decide_eq_true h.2
theorem Sta.no (s : Sta P w G base T n c W X) {x : Str} (h : x ∈ bnames) : X.mg x = none := by rw [s.mg]; exact s.mo.free x h
theorem star_of {e : Expr} (h : isStar e = false) (es : List Expr) (env : Env) : starEach (e :: es) env = (false, eval e env) :: starEach es env := by
  cases e <;> first | rfl | cases h
theorem Sta.nm (s : Sta P w G base T n c W X) {x : Str} {i : Nat} {pos : Pos} (h : stOf c x = some i) : PG X (.Name x pos) (gName i) := by
  unfold stOf at h
  have kk : ∀ k, kindC c x = some k → X.env.scope.names.lookup x = some k := fun k q => by rw [s.sc]; exact q
  have go : ∀ (q : idxN c.N x = some i), X.N[i]? = some x := fun q => by rw [s.N]; exact idxN_ok q
  cases kd : kindC c x with
  | none => rw [kd] at h; cases h
  | some k =>
    rw [kd] at h
    cases k with
    | «local» => exact pg_name s.nd (go h) (.inl (kk _ kd)) (.inr (kk _ kd))
    | cell =>
      cases ht : c.top with
      | true =>
        rw [ht] at h
        exact pg_name s.nd (go h) (.inr (kk _ kd)) (.inl (s.fn ht x))
      | false => rw [ht] at h; cases h
    | free => cases h
    | globalExplicit => cases h
    | globalImplicit => cases h
theorem Sta.nms (s : Sta P w G base T n c W X) : ∀ (es : List Expr) (is : List Nat), cNames c es = some is → PGs X es (gNs is)
  | [], is, h => by cases h; exact pgs_nil
  | .Name x p :: es, is, h => by
    have h' : (match stOf c x, cNames c es with | some i, some is => some (i :: is) | _, _ => none) = some is := h
    cases q1 : stOf c x with
    | none => rw [q1] at h'; cases h'
    | some i =>
      cases q2 : cNames c es with
      | none => rw [q1, q2] at h'; cases h'
      | some js =>
        rw [q1, q2] at h'
        cases h'
        exact pgs_cons (s.nm q1) (Sta.nms s es js q2) rfl
theorem cNames_len : ∀ (es : List Expr) (is : List Nat), cNames c es = some is → ∀ env : Env, (assignEach es env).length = is.length ∧ (assignEach es env).findIdx? (·.1) = none
  | [], is, h, env => by cases h; exact ⟨rfl, rfl⟩
  | .Name x p :: es, is, h, env => by
    have h' : (match stOf c x, cNames c es with | some i, some is => some (i :: is) | _, _ => none) = some is := h
    cases q1 : stOf c x with
    | none => rw [q1] at h'; cases h'
    | some i =>
      cases q2 : cNames c es with
      | none => rw [q1, q2] at h'; cases h'
      | some js =>
        rw [q1, q2] at h'
        cases h'
        obtain ⟨h1, h2⟩ := cNames_len es js q2 env
        have e : assignEach (.Name x p :: es) env = (false, assign (.Name x p) env) :: assignEach es env := rfl
        rw [e]
        refine ⟨by rw [List.length_cons, List.length_cons, h1], ?_⟩
        rw [List.findIdx?_cons]
        simp only [Bool.false_eq_true, if_false, h2, Option.map_none]
theorem Sta.tg (s : Sta P w G base T n c W X) {e : Expr} {t : Tg} (h : cTg c e = some t) : PG X e (gOf G.K t) := by
  cases e with
  | Name x pos =>
    have h' : (stOf c x).map Tg.one = some t := h
    cases q : stOf c x with
    | none => rw [q] at h'; cases h'
    | some i => rw [q] at h'; cases h'; exact s.nm q
  | Tuple es k pos =>
    have h' : (match c.hot with | false => (cNames c es).map Tg.tup | true => none) = some t := h
    cases hh : c.hot with
    | true => rw [hh] at h'; cases h'
    | false =>
    rw [hh] at h'
    cases q : cNames c es with
    | none => rw [q] at h'; cases h'
    | some is =>
      rw [q] at h'
      cases h'
      obtain ⟨h1, h2⟩ := cNames_len es is q X.env
      have := pg_tup (pos := pos) (k := k) (s.calm hh) (Sta.nms s es is q) h1 h2
      rw [s.K] at this
      exact this
  | _ => cases h
end
end Hf

/-! Hf7: the text's expressions give what the small language says. -/
namespace Hf
open PySem PySem.Spec PyProof.Rows L2
set_option autoImplicit false
section
variable (P : Program) (w : World) (G : Gm) (base : Heap) (T : Tb) (m : Nat) (H0 : Hp)
def OkE (n : Nat) : Prop := ∀ (c : Cc) (e : Expr) (p : Ex), cE n c e = some p → ∀ (W : WD) (X : Cx), Sta P w G base T m c W X → PE X e (tD G W H0 (ev T p)) ∧ PE X e (tB G W H0 fun ρ => bor p ρ (ev T p ρ))
def OkT (n : Nat) : Prop := ∀ (c : Cc) (e : Expr) (p : Te), cT n c e = some p → ∀ (W : WD) (X : Cx), Sta P w G base T m c W X → PT X e (tT G W H0 (evT T p))
def OkI (n : Nat) : Prop := ∀ (c : Cc) (e : Expr) (p : Is), cI n c e = some p → ∀ (W : WD) (X : Cx) (tg : Expr), Sta P w G base T m c W X → PI X tg e (tI G W H0 (evi T p))
end
section
variable {P : Program} {w : World} {G : Gm} {base : Heap} {T : Tb} {m : Nat} {H0 : Hp}
theorem both {p : Ex} {W : WD} {X : Cx} {e : Expr} (hp : ∀ i, p ≠ .var i) (h : PE X e (tD G W H0 (ev T p))) : PE X e (tD G W H0 (ev T p)) ∧ PE X e (tB G W H0 fun ρ => bor p ρ (ev T p ρ)) := by
  refine ⟨h, ?_⟩
  have e1 : ∀ ρ, bor p ρ (ev T p ρ) = sndR (ev T p ρ) := fun ρ => by
    cases p with
    | var i => exact absurd rfl (hp i)
    | _ => rfl
  have := pe_B h
  simpa only [e1] using this
theorem cEs_ok {n : Nat} (ih : OkE P w G base T m H0 n) {c : Cc} {W : WD} {X : Cx} (s : Sta P w G base T m c W X) : ∀ (es : List Expr) (ps : Exs), cEs (cE n c) es = some ps →
    PA X es (tL G W H0 (evs T ps)) ∧ (∀ env : Env, ∀ pos : Pos, (backTo pos (starEach es env)).any (·.1) = false) ∧ ∀ e r, es = e :: r → ∀ env, starEach (e :: r) env = (false, eval e env) :: starEach r env
  | [], ps, h => by
    cases h
    exact ⟨pa_ni, fun _ _ => rfl, fun _ _ e => nomatch e⟩
  | e :: es, ps, h => by
    have h' : (match isStar e, cE n c e, cEs (cE n c) es with | false, some p, some ps => some (Exs.cons p ps) | _, _, _ => none) = some ps := h
    cases q1 : isStar e with
    | true => rw [q1] at h'; cases h'
    | false =>
      cases q2 : cE n c e with
      | none => rw [q1, q2] at h'; cases h'
      | some p =>
        cases q3 : cEs (cE n c) es with
        | none => rw [q1, q2, q3] at h'; cases h'
        | some r =>
          rw [q1, q2, q3] at h'
          cases h'
          obtain ⟨i1, i2, _⟩ := cEs_ok ih s es r q3
          refine ⟨pa_co (ih c e p q2 W X s).1 i1 (star_of q1 es X.env), fun env pos => ?_, fun e' r' he env => ?_⟩
          · rw [star_of q1 es env]
            show ((false, _) :: backTo pos (starEach es env)).any (·.1) = false
            rw [List.any_cons, i2 env pos] <;> rfl
          · cases he
            exact star_of q1 es env
theorem cEsT_ok {n : Nat} (ih : OkE P w G base T m H0 n) {c : Cc} {W : WD} {X : Cx} (s : Sta P w G base T m c W X) : ∀ (es : List Expr) (ps : Exs), cEsT (cE n c) es = some ps → PA X es (tL G W H0 (evs T ps))
  | [], ps, h => by
    cases h
    exact pa_ni
  | e :: es, ps, h => by
    cases q1 : isStar e with
    | true =>
      cases e with
      | Starred a sp =>
        have h' : (match cE n c a, cEsT (cE n c) es with | some p, some ps => some (Exs.star p ps) | _, _ => none) = some ps := h
        cases q2 : cE n c a with
        | none => rw [q2] at h'; cases h'
        | some p =>
          cases q3 : cEsT (cE n c) es with
          | none => rw [q2, q3] at h'; cases h'
          | some r =>
            rw [q2, q3] at h'
            cases h'
            exact pa_st s.K (ih c a p q2 W X s).2 (cEsT_ok ih s es r q3)
      | _ => cases q1
    | false =>
      have h' : (match isStar e, cE n c e, cEsT (cE n c) es with | false, some p, some ps => some (Exs.cons p ps) | _, _, _ => none) = some ps := by
        cases e <;> first | exact h | cases q1
      cases q2 : cE n c e with
      | none => rw [q1, q2] at h'; cases h'
      | some p =>
        cases q3 : cEsT (cE n c) es with
        | none => rw [q1, q2, q3] at h'; cases h'
        | some r =>
          rw [q1, q2, q3] at h'
          cases h'
          exact pa_co (ih c e p q2 W X s).1 (cEsT_ok ih s es r q3) (star_of q1 es X.env)
theorem cKeys_ok : ∀ (keys : List (Option Expr)) (zs : List Str), cKeys keys = some zs → keys.length = zs.length ∧ keys.all (·.isSome) = true
  | [], zs, h => by cases h; exact ⟨rfl, rfl⟩
  | none :: r, zs, h => by cases h
  | some e :: r, zs, h => by
    unfold cKeys at h
    split at h
    · rename_i q; cases q
    · rename_i z _ _ r' q
      cases q
      obtain ⟨zs', q, rfl⟩ := Option.map_eq_some_iff.mp h
      obtain ⟨h1, h2⟩ := cKeys_ok r zs' q
      exact ⟨by rw [List.length_cons, List.length_cons, h1], by rw [List.all_cons, h2]; rfl⟩
    · cases h
theorem pps_ok {n : Nat} (ih : OkE P w G base T m H0 n) {c : Cc} {W : WD} {X : Cx} (s : Sta P w G base T m c W X) {pos : Pos} : ∀ (keys : List (Option Expr)) (zs : List Str) (es : List Expr) (ps : Exs), cKeys keys = some zs → cEs (cE n c) es = some ps → zs.length = es.length →
    ∃ trs, PPs X pos keys es trs ∧ ∀ σ H (Q : List (V × V) → Hp → Prop) S ρ, REnv G H0 H S σ ρ → PostL G (fun c => W c σ) H S (evs T ps ρ) (fun vs H' => Q ((zs.zip vs).map fun p => (V.str p.1, p.2)) H') → tPairs trs σ H Q
  | [], zs, es, ps, h1, h2, h3 => by
    cases h1
    cases es with
    | cons _ _ => cases h3
    | nil =>
      cases h2
      exact ⟨[], pps_nil, fun σ H Q S ρ R p => p [] H S (Gr.refl _ _) .nil⟩
  | none :: _, zs, es, ps, h1, _, _ => by cases h1
  | some e :: keys, zs, es, ps, h1, h2, h3 => by
    unfold cKeys at h1
    split at h1
    · rename_i q; cases q
    · rename_i z _ _ r' q
      cases q
      obtain ⟨zs', q, rfl⟩ := Option.map_eq_some_iff.mp h1
      cases es with
      | nil => cases h3
      | cons e es =>
        have h' : (match isStar e, cE n c e, cEs (cE n c) es with | false, some p, some ps => some (Exs.cons p ps) | _, _, _ => none) = some ps := h2
        cases q1 : isStar e with
        | true => rw [q1] at h'; cases h'
        | false =>
          cases q2 : cE n c e with
          | none => rw [q1, q2] at h'; cases h'
          | some p =>
            cases q3 : cEs (cE n c) es with
            | none => rw [q1, q2, q3] at h'; cases h'
            | some r =>
              rw [q1, q2, q3] at h'
              cases h'
              obtain ⟨trs, i1, i2⟩ := pps_ok ih s keys zs' es r q q3 (by simpa using h3)
              refine ⟨_, pps_cons pe_str (ih c e p q2 W X s).1 i1, fun σ H Q S ρ R z => ?_⟩
              show tD G W H0 (ev T p) σ H _
              refine ⟨S, ρ, R, mkD rdL z fun bo d z v H1 S1 e1 r1 => ?_⟩
              obtain ⟨S2, e2, k2, r2⟩ := r1.fz e1
              exact i2 σ H1 _ S2 ρ (R.gr e2) (mkL rdL (z.gr e2) fun ds z vs H3 S3 e3 r3 => z (v :: vs) H3 S3 e3 (.cons (e3.rep r2) r3))
    · cases h1
theorem mergeK_new : ∀ (more kvs : List (Key × V)), (∀ p ∈ more, valV kvs p.1 = none) → (more.map (·.1)).Nodup → mergeK kvs more = kvs ++ more
  | [], kvs, _, _ => (List.append_nil _).symm
  | p :: r, kvs, h, hn => by
    rw [List.map_cons, List.nodup_cons] at hn
    have e : putK kvs p.1 p.2 = kvs ++ [p] := putK_new p.2 (h p List.mem_cons_self)
    show mergeK (putK kvs p.1 p.2) r = kvs ++ p :: r
    rw [e, mergeK_new r (kvs ++ [p]) (fun q hq => ?_) hn.2, List.append_assoc]
    · rfl
    · have h1 := h q (List.mem_cons_of_mem _ hq)
      have h2 : ¬ p.1 = q.1 := fun z => hn.1 (z ▸ List.mem_map_of_mem hq)
      unfold valV at h1 ⊢
      rw [List.find?_append]
      cases z : kvs.find? (fun kv => decide (kv.1 = q.1)) with
      | none => simp [List.find?_cons, h2]
      | some y => rw [z] at h1; cases h1
theorem kvD_keys : ∀ (vs : List V) (zs : List Str) (k : Str), (Sum.inr k : Key) ∈ (kvD zs vs).map (·.1) → k ∈ zs
  | [], [], _, h => by cases h
  | [], _ :: _, _, h => by cases h
  | _ :: _, [], _, h => by cases h
  | v :: vs, z :: zs, k, h => by
    have h' : (Sum.inr k : Key) ∈ Sum.inr z :: (kvD zs vs).map (·.1) := h
    rcases List.mem_cons.mp h' with e | h'
    · exact List.mem_cons.mpr (.inl (Sum.inr.inj e))
    · exact List.mem_cons_of_mem _ (kvD_keys vs zs k h')
theorem kvD_nodup : ∀ (vs : List V) (zs : List Str), zs.Nodup → ((kvD zs vs).map (·.1)).Nodup
  | [], [], _ => List.nodup_nil
  | [], _ :: _, _ => List.nodup_nil
  | _ :: _, [], _ => List.nodup_nil
  | v :: vs, z :: zs, h => by
    rw [List.nodup_cons] at h
    show (Sum.inr z :: (kvD zs vs).map (·.1)).Nodup
    exact List.nodup_cons.mpr ⟨fun q => h.1 (kvD_keys vs zs z q), kvD_nodup vs zs h.2⟩
theorem dict_ok {n : Nat} (ih : OkE P w G base T m H0 n) {c : Cc} {W : WD} {X : Cx} (s : Sta P w G base T m c W X) {pos : Pos} {keys : List (Option Expr)} {zs : List Str} {es : List Expr} {ps : Exs} (h1 : cKeys keys = some zs) (h2 : cEs (cE n c) es = some ps) (h3 : zs.length = es.length) (h4 : zs ≠ []) (h5 : zs.length ≤ 15) (h6 : zs.Nodup)
    (hlen : ∀ ρ ds, evs T ps ρ = .ok ds → ds.length = es.length) : PE X (.Dict keys es pos) (tD G W H0 (ev T (.dict zs ps))) := by
  obtain ⟨trs, i1, i2⟩ := pps_ok ih s (pos := pos) keys zs es ps h1 h2 h3
  obtain ⟨k1, k2⟩ := cKeys_ok keys zs h1
  refine (pe_disp i1 k2 (k1.trans h3) (fun z => h4 (by rw [z] at k1; exact List.length_eq_zero_iff.mp k1.symm)) (by omega)).im fun σ H Q ⟨S, ρ, R, z⟩ p hp => ?_
  have z : Post G (fun c => W c σ) H S ((evs T ps ρ).bind fun xs => okF (.dct zs xs)) Q := z
  have g0 : Gr H S (upd H p (.dK [])) S := Gr.laid hp
  have np : ¬ S p := R.dom.no hp
  refine i2 σ _ _ S ρ (R.gr g0) ?_
  cases e : evs T ps ρ with
  | fail => rw [e] at z; exact z.elim
  | exc c => rw [e] at z; exact fun H' S' g => z H' S' (g0.trans g)
  | ok ds =>
    rw [e] at z
    intro vs H2 S2 g r
    have hl : ds.length = zs.length := (hlen ρ ds e).trans h3.symm
    have hl2 := Paired.length r
    have ep : H2 p = some (.dK []) := g.same p _ upd_same
    have np2 : ¬ S2 p := fun q => by
      rcases g.new p q with q | ⟨q, _⟩
      · exact np q
      · rw [upd_same] at q; cases q
    have nd : ((kvD zs vs).map (·.1)).Nodup := kvD_nodup vs zs h6
    have em : mergeK [] (kvD zs vs) = kvD zs vs := mergeK_new _ _ (fun _ _ => rfl) nd
    refine ⟨ep, kvD zs vs, ?_, ?_, ?_⟩
    · unfold kvD
      rw [List.map_map]
      rfl
    · unfold kvD
      rw [List.length_map, List.length_zip]
      omega
    · rw [em]
      have k : Keep H2 S2 (upd H2 p (.dK (kvD zs vs))) (fun b => S2 b ∨ b = p) := fun b sb => ⟨.inl sb, fun o q => by rw [upd_ne (show b ≠ p from fun z => np2 (by rw [← z]; exact sb))]; exact q⟩
      have gg : Gr H S (upd H2 p (.dK (kvD zs vs))) (fun b => S2 b ∨ b = p) := by
        refine ⟨fun b o q => ?_, fun b sb => .inl (g.sub b sb), fun b q => ?_⟩
        · have nb : b ≠ p := ne_of_none q hp
          rw [upd_ne nb]
          exact g.same b o (by rw [upd_ne nb]; exact q)
        · rcases q with q | rfl
          · have nb : b ≠ p := fun z => np2 (by rw [← z]; exact q)
            rcases g.new b q with q | ⟨q1, o, q2⟩
            · exact .inl q
            · rw [upd_ne nb] at q1
              exact .inr ⟨q1, o, by rw [upd_ne nb]; exact q2⟩
          · exact .inr ⟨hp, _, upd_same⟩
      exact z _ _ _ gg (.dct (.inl ⟨.inr rfl, .inl upd_same⟩) (Rep.keepL k _ _ r))
theorem cBo_ok {n : Nat} (ih : OkE P w G base T m H0 n) {c : Cc} {W : WD} {X : Cx} (s : Sta P w G base T m c W X) {pos : Pos} (and : Bool) : ∀ (es : List Expr) (p : Ex), cBo and (cE n c) es = some p →
    PE X (.BoolOp (if and = true then .And else .Or) es pos) (tD G W H0 (ev T p)) ∧ (∀ i, p = .var i → es.length = 1)
  | [], p, h => by cases h
  | [e], p, h => ⟨pe_one (ih c e p h W X s).1, fun _ _ => rfl⟩
  | e :: e' :: es, p, h => by
    have h' : (match cE n c e, cBo and (cE n c) (e' :: es) with | some p, some q => some (if and = true then Ex.and p q else .or p q) | _, _ => none) = some p := h
    cases q2 : cE n c e with
    | none => rw [q2] at h'; cases h'
    | some a =>
      cases q3 : cBo and (cE n c) (e' :: es) with
      | none => rw [q2, q3] at h'; cases h'
      | some b =>
        rw [q2, q3] at h'
        cases h'
        obtain ⟨i1, _⟩ := cBo_ok ih s and (e' :: es) b q3 (pos := pos)
        cases and with
        | true => exact ⟨pe_an s.K (ih c e a q2 W X s).1 i1, fun _ z => by cases z⟩
        | false => exact ⟨pe_o s.K (ih c e a q2 W X s).1 i1, fun _ z => by cases z⟩
theorem cBoT_ok {n : Nat} (ih : OkT P w G base T m H0 n) {c : Cc} {W : WD} {X : Cx} (s : Sta P w G base T m c W X) {pos : Pos} (and : Bool) : ∀ (es : List Expr) (p : Te), cBoT and (cT n c) es = some p →
    PW X (.BoolOp (if and = true then .And else .Or) es pos) (tT G W H0 (evT T p))
  | [], p, h => by cases h
  | [e], p, h => by
    cases and with
    | true => exact pw_and1 (ih c e p h W X s)
    | false => exact pw_or1 (ih c e p h W X s)
  | e :: e' :: es, p, h => by
    have h' : (match cT n c e, cBoT and (cT n c) (e' :: es) with | some p, some q => some (if and = true then Te.and p q else .or p q) | _, _ => none) = some p := h
    cases q2 : cT n c e with
    | none => rw [q2] at h'; cases h'
    | some a =>
      cases q3 : cBoT and (cT n c) (e' :: es) with
      | none => rw [q2, q3] at h'; cases h'
      | some b =>
        rw [q2, q3] at h'
        cases h'
        have i1 := cBoT_ok ih s and (e' :: es) b q3 (pos := pos)
        cases and with
        | true => exact pw_an (ih c e a q2 W X s) i1
        | false => exact pw_o (ih c e a q2 W X s) i1
theorem mark_of (o : CmpOp) {b : Expr} (h : cMp b = true) : behindInMarks o b = false := by cases b <;> first | rfl | cases h
theorem marks_of (o o' : CmpOp) {d : Expr} (b : Expr) (h : cMp d = true) : lastMarks [o, o'] [b, d] = false := by
  show lastMarks [o'] [d] = false
  exact mark_of o' h
theorem bi_boot {x : Str} {f : Bi} (h : biOf x = some f) : bootBuiltins x = some f.fv ∧ x ∈ bnames ∧ x ≠ "__name__" := by
  unfold biOf at h
  split at h
  · cases h; rename_i e; subst e; exact ⟨by decide +kernel, by decide +kernel, by decide +kernel⟩
  · split at h
    · cases h; rename_i e; subst e; exact ⟨by decide +kernel, by decide +kernel, by decide +kernel⟩
    · split at h
      · cases h; rename_i e; subst e; exact ⟨by decide +kernel, by decide +kernel, by decide +kernel⟩
      · split at h
        · cases h; rename_i e; subst e; exact ⟨by decide +kernel, by decide +kernel, by decide +kernel⟩
        · split at h
          · cases h; rename_i e; subst e; exact ⟨by decide +kernel, by decide +kernel, by decide +kernel⟩
          · split at h
            · cases h; rename_i e; subst e; exact ⟨by decide +kernel, by decide +kernel, by decide +kernel⟩
            · cases h
theorem ty_boot {x : Str} {t : Ty} (h : tyOf x = some t) : bootBuiltins x = some (.type t.nm) ∧ x ∈ bnames ∧ x ≠ "__name__" := by
  unfold tyOf at h
  split at h
  · cases h; rename_i e; subst e; exact ⟨by decide +kernel, by decide +kernel, by decide +kernel⟩
  · split at h
    · cases h; rename_i e; subst e; exact ⟨by decide +kernel, by decide +kernel, by decide +kernel⟩
    · split at h
      · cases h; rename_i e; subst e; exact ⟨by decide +kernel, by decide +kernel, by decide +kernel⟩
      · split at h
        · cases h; rename_i e; subst e; exact ⟨by decide +kernel, by decide +kernel, by decide +kernel⟩
        · split at h
          · cases h; rename_i e; subst e; exact ⟨by decide +kernel, by decide +kernel, by decide +kernel⟩
          · cases h
theorem plain_is {e : Expr} (h : plainT e = true) (env : Env) : ∀ whole, isTrue e env whole = (do let v ← whole; standAt e.pos; holding [v] (truthy v)) := by
  intro whole
  cases e with
  | UnaryOp op a pos => cases op <;> first | rfl | cases h
  | _ => first | rfl | cases h
theorem plainIx_of {i : Expr} (h : isSlice i = false) : PlainIx i := by
  intro o v
  cases i with
  | Slice _ _ _ _ => cases h
  | _ => rfl
theorem sw_no {iter : Expr} (h : isSet iter = false) (env : Env) (x : Value) : foldedSetIterable iter env x = pure x := by
  cases iter with
  | Set _ _ _ => cases h
  | _ => rfl
end
end Hf

/-! Hf8: the induction over the text's expressions. -/
namespace Hf
open PySem PySem.Spec PyProof.Rows L2
set_option autoImplicit false
section
variable {P : Program} {w : World} {G : Gm} {base : Heap} {T : Tb} {m : Nat} {H0 : Hp}
theorem evs_len {n : Nat} {c : Cc} : ∀ es ps, cEs (cE n c) es = some ps → ∀ ρ ds, evs T ps ρ = .ok ds → ds.length = es.length := by
  intro es
  induction es with
  | nil => intro ps h ρ ds e; cases h; cases e; rfl
  | cons a r ihr =>
    intro ps h ρ ds e
    have h' : (match isStar a, cE n c a, cEs (cE n c) r with | false, some p, some ps => some (Exs.cons p ps) | _, _, _ => none) = some ps := h
    cases q1 : isStar a with
    | true => rw [q1] at h'; cases h'
    | false =>
      cases q2 : cE n c a with
      | none => rw [q1, q2] at h'; cases h'
      | some p =>
        cases q3 : cEs (cE n c) r with
        | none => rw [q1, q2, q3] at h'; cases h'
        | some rr =>
          rw [q1, q2, q3] at h'
          cases h'
          have e' : ((ev T p ρ).bind fun x => (evs T rr ρ).bind fun xs => Res.ok (x.2 :: xs)) = .ok ds := e
          cases z1 : ev T p ρ with
          | fail => rw [z1] at e'; cases e'
          | exc _ => rw [z1] at e'; cases e'
          | ok x =>
            cases z2 : evs T rr ρ with
            | fail => rw [z1, z2] at e'; cases e'
            | exc _ => rw [z1, z2] at e'; cases e'
            | ok xs =>
              rw [z1, z2] at e'
              cases e'
              rw [List.length_cons, List.length_cons, ihr rr q3 ρ xs z2]
theorem call_ok {n : Nat} (ih : OkE P w G base T m H0 n) {c : Cc} {W : WD} {X : Cx} (s : Sta P w G base T m c W X) {f : Str} {k : Nat} {es : List Expr} {ps : Exs} {q pos : Pos} (hg : isGl c f = true) (hf : c.fs.lookup f = some k) (hl : es.length = k) (hh : c.hot = false) (h : cEs (cE n c) es = some ps) :
    PE X (.Call (.Name f q) es [] pos) (tD G W H0 (ev T (.call f ps))) := by
  obtain ⟨fa, fd, nm, hk, hm, F, kp, hb⟩ := s.fns f k hf
  obtain ⟨g1, g2, _⟩ := s.gl hg
  obtain ⟨i1, i2, i3⟩ := cEs_ok ih s es ps h
  have F' : FnOk X.prog X.w X.K X.mg X.base (L2.CX X.prog X.w) m fa fd nm (spD G k (T.fn f)) := by rw [s.eP, s.ew, s.K, s.mg, s.eb]; exact F
  have hm' : X.mg f = some (.ref fa) := by rw [s.mg]; exact hm
  have kp' : PySem.W.keepIn X.K (.ref fa) = true := by rw [s.K]; exact kp
  have hb' : Binds X.K fd nm [] := by rw [s.K]; exact hb
  have len : ∀ es ps, cEs (cE n c) es = some ps → ∀ ρ ds, evs T ps ρ = .ok ds → ds.length = es.length := evs_len
  have fin : ∀ σ H Q, tD G W H0 (ev T (.call f ps)) σ H Q → tCallS (spD G k (T.fn f)) (WE (wOf G W)) (tL G W H0 (evs T ps)) σ H Q := by
    intro σ H Q ⟨S, ρ, R, p⟩
    have p : Post G (fun c => W c σ) H S ((evs T ps ρ).bind (T.fn f)) Q := p
    cases z : evs T ps ρ with
    | fail => rw [z] at p; exact p.elim
    | exc c => exact ⟨S, ρ, R, by rw [z] at p ⊢; exact p⟩
    | ok ds =>
      refine ⟨S, ρ, R, ?_⟩
      rw [z] at p ⊢
      intro vs H1 S1 e1 r1
      refine ⟨?_, S1, ds, (R.gr e1).dom, r1, (Post.gr e1 (show Post G _ H S (T.fn f ds) Q from p)).weak fun c H' w a ha => ⟨c, a, rfl, ha, rfl, w⟩⟩
      rw [← Paired.length r1, len es ps h ρ ds z, hl]
  cases es with
  | nil =>
    cases h
    exact (pe_callS0 F' (s.room hh) g1 hm' kp' hb' (fun σ => passAt s.tk σ) g2).im fun σ H Q q => by
      obtain ⟨S, ρ, R, p⟩ := fin σ H Q q
      exact p [] H S (Gr.refl _ _) .nil
  | cons a r => exact (pe_callS F' (s.room hh) g1 hm' kp' hb' (fun σ => passAt s.tk σ) i1 g2 (i3 a r rfl X.env) (by have := i2 X.env pos; rw [i3 a r rfl X.env] at this; exact (by simpa [backTo, List.any_cons] using this))).im fin
theorem bi_ok {n : Nat} (ih : OkE P w G base T m H0 n) {c : Cc} {W : WD} {X : Cx} (s : Sta P w G base T m c W X) {f : Str} {b : Bi} {a : Expr} {p : Ex} {q pos : Pos} (hg : isGl c f = true) (hf : biOf f = some b) (hs : isStar a = false) (hcs : b = .sum → X.calm = true) (h : cE n c a = some p) :
    PE X (.Call (.Name f q) [a] [] pos) (tD G W H0 (ev T (.bi b p))) := by
  obtain ⟨b1, b2, b3⟩ := bi_boot hf
  obtain ⟨g1, g2, _⟩ := s.gl hg
  exact pe_b1 s.K hcs g1 (s.no b2) b1 b3 g2 (ih c a p h W X s).2 (star_of hs [] X.env)
theorem is_ok {n : Nat} (ih : OkE P w G base T m H0 n) {c : Cc} {W : WD} {X : Cx} (s : Sta P w G base T m c W X) {y : Str} {t : Ty} {a : Expr} {p : Ex} {q py pos : Pos} (hg : isGl c "isinstance" = true) (hy : isGl c y = true) (ht : tyOf y = some t) (hs : isStar a = false) (h : cE n c a = some p) :
    PE X (.Call (.Name "isinstance" q) [a, .Name y py] [] pos) (tD G W H0 (ev T (.isi p t))) := by
  obtain ⟨b1, b2, b3⟩ := ty_boot ht
  obtain ⟨g1, g2, _⟩ := s.gl hg
  obtain ⟨y1, y2, _⟩ := s.gl hy
  exact pe_is (pt := pos) s.K g1 (s.no (by decide +kernel)) (pe_bltn y1 (s.no b2) b1 rfl b3 y2) (ih c a p h W X s).2 (star_of hs _ X.env) rfl rfl
/-- isinstance of the error that is handled -/
theorem call_isx {X : Cx} : CallR X (.builtin "isinstance") (fun xs H Q => ∃ (a D : Addr) (oe : Obj) (c : V) (cv : Value) (b : Bool), xs = [.ref a, c] ∧ (a, oe) ∈ X.pn ∧ ExcC X.K D ∧ Zc (.ref D) none oe ∧ (∃ vs, oe.data = .fields vs) ∧
    ((ClsV c cv ∧ PySem.W.kitOne X.K (.ref D) cv = some b) ∨ ∃ tp cs us, c = .ref tp ∧ H tp = some (.tup cs) ∧ Paired ClsV cs us ∧ PySem.W.kitAny X.K (.ref D) us = some b) ∧ Q (.bl b) H) := by
  intro pins s σ H xs us Q I r h
  obtain ⟨a, D, oe, c, cv, b, rfl, hm, C, hz, ⟨vs, hv⟩, hc, q⟩ := h
  obtain ⟨u1, u2, rfl, r1, r2⟩ := vals2 r
  cases (show u1 = Value.ref a from r1)
  obtain ⟨hget, _⟩ := I.pin (a, oe) (List.mem_append.mpr (.inl hm))
  have J : PySem.W.InstAt s.heap a oe D none := by
    obtain ⟨oc, od, oda, osl⟩ := oe
    obtain ⟨z1, z2⟩ := hz
    dsimp only at z1 z2 hv
    subst z1 z2 hv
    exact ⟨hget, rfl, rfl, trivial⟩
  have Z := PySem.W.handS_kitx_exc (x := a) (ox := oe) C.hg C.hk C.hs C.hd C.ha C.hn C.ht C.hm
  rcases hc with ⟨k, e⟩ | ⟨tp, cs, ws, rfl, hT, k, e⟩
  · have e2 := k.eq r2
    subst e2
    exact PySem.W.kia_one Z I.kIn J e (fun z => nomatch z) fun tk => ⟨.bl b, H, I.tok tk, rfl, q⟩
  · cases (show u2 = Value.ref tp from r2)
    obtain ⟨_, its, rv, o, h1, h2, n, h3⟩ := (show ObjOk X.prog X.w H s.heap tp (.tup cs) from I.hok tp _ hT)
    have e3 := ClsV.all k rv
    subst e3
    obtain ⟨oc, od, dt, sl⟩ := o
    simp only at h2 h3
    subst h2 h3
    exact PySem.W.kia_tup Z I.kIn J h1 e (fun z => nomatch z) fun tk => ⟨.bl b, H, I.tok tk, rfl, q⟩
theorem nam_pe {c : Cc} {W : WD} {X : Cx} (s : Sta P w G base T m c W X) {y : Str} {pos : Pos} {v : V} {u : Value} (hg : isGl c y = true) (h : NamV G y v u) : PE X (.Name y pos) (tC v) := by
  obtain ⟨g1, g2, g3⟩ := s.gl hg
  obtain ⟨k, h | ⟨h1, h2⟩⟩ := h
  · obtain ⟨D, h1, rfl⟩ := h
    exact pe_glob g1 (by rw [s.mg]; exact h1) rfl g2
  · refine pe_bltn g1 (by rw [s.mg]; exact h1) h2 ?_ g3 g2
    cases k <;> rfl
theorem kiAny_cons {c y : Str} {r : List Str} {b : Bool} (h : kiAny T c (y :: r) = some b) : ∃ b1 b2, T.ki c y = some b1 ∧ kiAny T c r = some b2 ∧ b = (b1 || b2) := by
  have h' : (match T.ki c y, kiAny T c r with | some b, some b' => some (b || b') | _, _ => none) = some b := h
  cases e1 : T.ki c y with
  | none => rw [e1] at h'; cases h'
  | some b1 =>
    cases e2 : kiAny T c r with
    | none => rw [e1, e2] at h'; cases h'
    | some b2 => rw [e1, e2] at h'; cases h'; exact ⟨b1, b2, rfl, rfl, rfl⟩
theorem kit_any {K : PySem.W.Frag} {t u : Value} {us : List Value} {b1 b2 : Bool} (h : PySem.W.kitOne K t u = some b1) (hr : PySem.W.kitAny K t us = some b2) : PySem.W.kitAny K t (u :: us) = some (b1 || b2) := by
  refine kitAny_cons h (fun e => ?_) fun e => ?_
  · subst e; exact hr
  · subst e; rfl
/-- the names of a tuple of classes -/
theorem clss_ok {c : Cc} {W : WD} {X : Cx} (s : Sta P w G base T m c W X) : ∀ (ys : List Expr) (zs : List Str), cCls c ys = some zs → ∀ k b, kiAny T k zs = some b →
    ∃ vs us, vs.length = zs.length ∧ PA X ys (fun _ H Q => Q vs H) ∧ Paired ClsV vs us ∧ ∀ C, G.mg k = some (.ref C) → PySem.W.kitAny G.K (.ref C) us = some b
  | [], zs, h, k, b, hb => by
    cases h
    cases hb
    exact ⟨[], [], rfl, pa_nil, .nil, fun _ _ => rfl⟩
  | e :: r, zs, h, k, b, hb => by
    unfold cCls at h
    split at h
    · rename_i q; cases q
    · rename_i y p r' q
      cases q
      split at h
      · rename_i zs' q1 q2
        cases h
        obtain ⟨b1, b2, e1, e2, rfl⟩ := kiAny_cons hb
        obtain ⟨vs, us, i0, i1, i2, i3⟩ := clss_ok s r zs' q2 k b2 e2
        obtain ⟨v, u, n1, n2⟩ := s.kis k y b1 e1
        exact ⟨v :: vs, u :: us, by rw [List.length_cons, List.length_cons, i0], pa_cons (nam_pe s q1 n1) i1 rfl, .cons n1.1 i2, fun C hC => kit_any (n2 C hC) (i3 C hC)⟩
      · cases h
    · cases h
theorem isx_ok {n : Nat} (ih : OkE P w G base T m H0 n) {c : Cc} {W : WD} {X : Cx} (s : Sta P w G base T m c W X) {i : Nat} {a b : Expr} {zs : List Str} {tp : Bool} {q pos : Pos} (hg : isGl c "isinstance" = true) (hs : isStar a = false) (hs2 : isStar b = false) (h : cE n c a = some (.var i))
    (hb : ∀ k r, kiAny T k zs = some r → ∃ tb : TE, PE X b tb ∧ ∀ C σ H (Q : VK), G.mg k = some (.ref C) → (∀ v H1, (H1 = H ∨ ∃ p o, H p = none ∧ H1 = upd H p o) → ((∃ cv, ClsV v cv ∧ PySem.W.kitOne G.K (.ref C) cv = some r) ∨ ∃ tp cs us, v = .ref tp ∧ H1 tp = some (.tup cs) ∧ Paired ClsV cs us ∧ PySem.W.kitAny G.K (.ref C) us = some r) → Q v H1) → tb σ H Q) :
    PE X (.Call (.Name "isinstance" q) [a, b] [] pos) (tD G W H0 (ev T (.isx i zs tp))) := by
  obtain ⟨g1, _, _⟩ := s.gl hg
  have ha := (ih c a _ h W X s).1
  refine ⟨fun pins t σ H Q I ⟨S, ρ, R, z⟩ => ?_⟩
  have z : Post G (fun c => W c σ) H S ((getF ρ i).bind fun x => okB (isxD T x.2 zs)) Q := z
  cases e : getF ρ i with
  | fail => rw [e] at z; exact z.elim
  | exc c => unfold getF at e; split at e <;> cases e
  | ok x =>
    rw [e] at z
    have z : Post G (fun c => W c σ) H S (okB (isxD T x.2 zs)) Q := z
    obtain ⟨b0, d⟩ := x
    cases d with
    | exc k =>
      have z : Post G (fun c => W c σ) H S (okB (match kiAny T k zs with | some b => .ok b | none => .fail)) Q := z
      cases e2 : kiAny T k zs with
      | none => rw [e2] at z; exact z.elim
      | some r =>
        rw [e2] at z
        have zz : ∀ v H' S', Gr H S H' S' → RepO G H H' S' false (.bl r) v → Q v H' := z
        obtain ⟨tb, hbp, hbt⟩ := hb k r e2
        refine (pe_callB (t := tCons (tD G W H0 (ev T (.var i))) (tCons tb tNil)) call_isx g1 (s.no (by decide +kernel)) boot_isinstance (pa_cons ha (pa_cons hbp pa_nil (star_of hs2 [] X.env)) (star_of hs _ X.env)) (by decide) (by decide) (star_of hs _ X.env) (by rw [star_of hs2 [] X.env]; rfl)).run pins t σ H Q I ?_
        refine ⟨S, ρ, R, ?_⟩
        show Post G (fun c => W c σ) H S (getF ρ i) _
        rw [e]
        have b0f : b0 = false := by
          unfold getF at e
          split at e
          · cases e; rfl
          · cases e
        subst b0f
        intro v H1 S1 e1 r1
        have r1 : Rep G H1 S1 (.exc k) v := r1
        cases r1 with
        | exc hx =>
          rename_i a0
          obtain ⟨oe, C, m1, m2, m3, m4, m5⟩ := s.hxs a0 k hx
          have m3' : ExcC X.K C := by rw [s.K]; exact m3
          refine hbt C σ H1 _ m2 fun v2 H2 hh hq => ?_
          have q : Q (.bl r) H2 := by
            rcases hh with rfl | ⟨p, o, hp, rfl⟩
            · exact zz (.bl r) _ S1 e1 (.bl r)
            · exact zz (.bl r) _ S1 (e1.trans (Gr.laid hp)) (.bl r)
          rcases hq with ⟨cv, c1, c2⟩ | ⟨tp, cs, us, c0, c1, c2, c3⟩
          · exact ⟨a0, C, oe, v2, cv, r, rfl, m1, m3', m4, m5, .inl ⟨c1, by rw [s.K]; exact c2⟩, q⟩
          · exact ⟨a0, C, oe, v2, .none, r, rfl, m1, m3', m4, m5, .inr ⟨tp, cs, us, c0, c1, c2, by rw [s.K]; exact c3⟩, q⟩
    | _ => exact z.elim
theorem gl_ok {c : Cc} {W : WD} {X : Cx} (s : Sta P w G base T m c W X) {x : Str} {pos : Pos} (hg : isGl c x = true) (hx : x ∈ c.mo.gs) : PE X (.Name x pos) (tD G W H0 (ev T (.gl x))) := by
  obtain ⟨g1, g2, _⟩ := s.gl hg
  cases z : T.gl x with
  | none =>
    refine ⟨fun pins sh σ H Q I ⟨S, ρ, R, p⟩ => ?_⟩
    have p : Post G (fun c => W c σ) H S (match T.gl x with | some d => okF d | none => .fail) Q := p
    rw [z] at p
    exact p.elim
  | some d =>
    obtain ⟨u, v, h1, h2, h3⟩ := s.mo.gls x hx d (by rw [← s.tgl]; exact z)
    have e : (ev T (.gl x)) = fun ρ => okF d := by
      funext ρ
      show (match T.gl x with | some d => okF d | none => .fail) = okF d
      rw [z]
    rw [e]
    exact pe_lit (pe_glob g1 (by rw [s.mg]; exact h1) h2 g2) h3
theorem co_ok {n : Nat} (ihE : OkE P w G base T m H0 n) (ihT : OkT P w G base T m H0 n) (ihI : OkI P w G base T m H0 n) {c : Cc} {W : WD} {X : Cx} (s : Sta P w G base T m c W X) {elt tg iter : Expr} {ifs : List Expr} {scope : Scope} {pos : Pos} {t : Tg} {it : Is} {k : Tes} {p : Ex}
    (hb2 : (blkC c.N c.sc scope (ownOf c.N scope) && !c.hot) = true) (ht : cTg { c with sc := relS scope c.sc, top := false } tg = some t) (hi : cI n c iter = some it)
    (hk : (match ifs with | [] => some Tes.nil | [t] => (cT n { c with sc := relS scope c.sc, top := false } t).map Tes.one | _ => none) = some k) (hp : cE n { c with sc := relS scope c.sc, top := false } elt = some p)
    (hsl : t.sl.all (fun i => decide (i ∈ (ownOf c.N scope).map (·.2))) = true) (hset : isSet iter = false) :
    (∀ σ H Q, tD G W H0 (ev T (.comp t ((ownOf c.N scope).map (·.2)) it k p)) σ H Q → tLc (tI G W H0 (evi T it)) (gOf G.K t) (tT G (fun _ _ _ => False) H0 (evc T k)) (tD G (fun _ _ _ => False) H0 (ev T p)) ((ownOf c.N scope).map (·.2)) σ H Q) ∧
    PI X tg iter (tI G W H0 (evi T it)) ∧ BlkOk X.N X.env.scope scope (ownOf c.N scope) ∧
    (∀ (sh : Shared) (H : Hp) (C : Addr) (cl : List (Str × Addr)) (fp : List Addr), PG (X.blk sh H scope (compEnvC scope cl C X.env) fp) tg (gOf G.K t)) ∧
    (∀ (sh : Shared) (H : Hp) (C : Addr) (cl : List (Str × Addr)) (fp : List Addr), PTs (X.blk sh H scope (compEnvC scope cl C X.env) fp) ifs (tT G (fun _ _ _ => False) H0 (evc T k))) ∧
    (∀ (sh : Shared) (H : Hp) (C : Addr) (cl : List (Str × Addr)) (fp : List Addr), PE (X.blk sh H scope (compEnvC scope cl C X.env) fp) elt (tD G (fun _ _ _ => False) H0 (ev T p))) := by
  have h1 : PI X tg iter (tI G W H0 (evi T it)) := ihI c iter it hi W X tg s
  have hb := (Bool.and_eq_true_iff.mp hb2).1
  have hh : c.hot = false := by have := (Bool.and_eq_true_iff.mp hb2).2; simpa using this
  have h2 : BlkOk X.N X.env.scope scope (ownOf c.N scope) := by rw [s.N, s.sc]; exact blkOk_by hb
  have h3 : ∀ (sh : Shared) (H : Hp) (C : Addr) (cl : List (Str × Addr)) (fp : List Addr), PG (X.blk sh H scope (compEnvC scope cl C X.env) fp) tg (gOf G.K t) := fun sh H C cl fp => (s.blk hh sh H scope cl C fp).tg ht
  have h5 : ∀ (sh : Shared) (H : Hp) (C : Addr) (cl : List (Str × Addr)) (fp : List Addr), PE (X.blk sh H scope (compEnvC scope cl C X.env) fp) elt (tD G (fun _ _ _ => False) H0 (ev T p)) := fun sh H C cl fp => (ihE _ _ _ hp _ _ (s.blk hh sh H scope cl C fp)).1
  have h4 : ∀ (sh : Shared) (H : Hp) (C : Addr) (cl : List (Str × Addr)) (fp : List Addr), PTs (X.blk sh H scope (compEnvC scope cl C X.env) fp) ifs (tT G (fun _ _ _ => False) H0 (evc T k)) := fun sh H C cl fp => by
    match ifs, hk with
    | [], hk =>
      cases hk
      exact ⟨fun pins s σ H Q I ⟨S, ρ, R, p⟩ => pts_nil.run pins s σ H Q I (p H S (Gr.refl _ _))⟩
    | [u], hk =>
      have hk' : (cT n { c with sc := relS scope c.sc, top := false } u).map Tes.one = some k := hk
      cases q : cT n { c with sc := relS scope c.sc, top := false } u with
      | none => rw [q] at hk'; cases hk'
      | some v =>
        rw [q] at hk'
        cases hk'
        exact pts_one (ihT _ _ _ q _ _ (s.blk hh sh H scope cl C fp))
  refine ⟨?_, h1, h2, h3, h4, h5⟩
  exact pe_co (pos := pos) s.K (s.calm hh) s.nd h1 h2 (fun i hi => of_decide_eq_true (List.all_eq_true.mp hsl i hi)) h3 h4 h5
theorem cI_set {n : Nat} {c : Cc} {e : Expr} {p : Is} (h : cI n c e = some p) : isSet e = false := by
  cases n with
  | zero => cases h
  | succ n =>
    cases e with
    | Set a b d =>
      have h' : (match isSet (.Set a b d) with | false => (cE n c (.Set a b d)).map Is.seq | true => none) = some p := h
      cases h'
    | _ => rfl
theorem tru_b {W : Str → Hp → Prop} {H : Hp} {S : Sy} {r : Res Bool} {Q : Bool → Hp → Prop} (p : PostV W H S ((sndR (okB r)).bind D.tru) Q) : PostV W H S r Q := by
  cases r with
  | ok b => exact p
  | exc c => exact p
  | fail => exact p
theorem tst_ok {W : Str → Hp → Prop} {H : Hp} {S : Sy} {ra rb : Res D} {o : CmpOp} {Q : Bool → Hp → Prop} (p : PostV W H S ((sndR (ra.bind fun x => rb.bind fun y => okB (cmpD o x y))).bind D.tru) Q) : PostV W H S (ra.bind fun x => rb.bind fun y => cmpD o x y) Q := by
  cases ra with
  | fail => exact p
  | exc c => exact p
  | ok x =>
    cases rb with
    | fail => exact p
    | exc c => exact p
    | ok y => exact tru_b (r := cmpD o x y) p
theorem tst_ok2 {W : Str → Hp → Prop} {H : Hp} {S : Sy} {ra rb rc : Res D} {o o' : CmpOp} {Q : Bool → Hp → Prop} (p : PostV W H S ((sndR (ra.bind fun x => rb.bind fun y => (cmpD o x y).bind fun k => if k = true then rc.bind fun z => okB (cmpD o' y z) else okF (.bl false))).bind D.tru) Q) :
    PostV W H S (ra.bind fun x => rb.bind fun y => (cmpD o x y).bind fun k => if k = true then rc.bind fun z => cmpD o' y z else .ok false) Q := by
  cases ra with
  | fail => exact p
  | exc c => exact p
  | ok x =>
    cases rb with
    | fail => exact p
    | exc c => exact p
    | ok y =>
      have p : PostV W H S ((sndR ((cmpD o x y).bind fun k => if k = true then rc.bind fun z => okB (cmpD o' y z) else okF (.bl false))).bind D.tru) Q := p
      show PostV W H S ((cmpD o x y).bind fun k => if k = true then rc.bind fun z => cmpD o' y z else .ok false) Q
      cases z : cmpD o x y with
      | fail => rw [z] at p; exact p
      | exc c => rw [z] at p; exact p
      | ok k =>
        rw [z] at p
        cases k with
        | false => exact p
        | true =>
          cases rc with
          | fail => exact p
          | exc c => exact p
          | ok z => exact tru_b (r := cmpD o' y z) p
theorem run_RA {X : Cx} {pins : List (Addr × Obj)} {σ : L2.St} {H : Hp} {s : Shared} {CX : CXT} {k : Nat} {f : Addr} {sp : Sp} {E : XK} {Q : VK} {us : List Value} {vs : List V} (F : FnR X.prog X.w X.K X.mg X.base CX k f sp) (hr : Room k X.A) (hx : PassesAt CX X σ E) (I : Inv X pins σ H s) (r : Vals vs us)
    (h : sp vs H Q E) : codeAny (model X.prog X.w) X.A (.call (.ref f) ⟨us, []⟩) (fun r s' => match r with | .ok (.ret v) => EP X pins σ Q v s' | .ok _ => False | .error e => X.xe e s') s :=
  codeAny_mono (F X.A X.stack s H us vs Q E hr I.env0 r h) fun
    | .error e, s', hq => hx pins H s e s' I hq
    | .ok (.ret u), s', hq => I.after hq
    | .ok .next, _, hq => hq.elim
    | .ok .brk, _, hq => hq.elim
    | .ok .cont, _, hq => hq.elim
theorem star_ok {n : Nat} (ih : OkE P w G base T m H0 n) {c : Cc} {W : WD} {X : Cx} (s : Sta P w G base T m c W X) {f : Str} {i : Nat} {a : Expr} {p : Ex} {q sq pos : Pos} (hh : c.hot = false) (hf : slotOf c f = some i) (h : cE n c a = some p) :
    PE X (.Call (.Name f q) [.Starred a sq] [] pos) (tD G W H0 (ev T (.star i p))) := by
  refine ⟨fun pins t σ H Q I ⟨S, ρ, R, z⟩ => ?_⟩
  have z : Post G (fun c => W c σ) H S ((getF ρ i).bind fun f => starD T f.2 (bor p ρ (ev T p ρ))) Q := z
  cases e : getF ρ i with
  | fail => rw [e] at z; exact z.elim
  | exc c => unfold getF at e; split at e <;> cases e
  | ok x =>
    rw [e] at z
    have e2 : ∃ d, ρ[i]? = some (some (false, d)) ∧ x = (false, d) := by
      unfold getF at e
      split at e
      · cases e; exact ⟨_, by assumption, rfl⟩
      · cases e
    obtain ⟨d, e3, rfl⟩ := e2
    obtain ⟨v, hv, hr⟩ := R.slot i false d e3
    have z : Post G (fun c => W c σ) H S (starD T d (bor p ρ (ev T p ρ))) Q := z
    cases d with
    | fn g =>
      obtain ⟨c1, z⟩ := Post.ite z
      obtain ⟨⟨k, va⟩, hk⟩ := Option.isSome_iff_exists.mp c1
      obtain ⟨fa, m1, F, kp⟩ := s.fnv g k va hk
      have hr : Rep G H S (.fn g) v := hr
      cases hr with
      | fn m2 =>
        rw [m1] at m2
        cases m2
        refine wpAny_Call_Name_kw (thn ((s.var (pos := q) hf).run pins t σ H (fun v H1 => v = .ref fa ∧ H1 = H) I ⟨.ref fa, hv, rfl, rfl⟩) fun u s1 ⟨v, H1, I1, r1, q1⟩ => ?_)
        obtain ⟨e5, e6⟩ := q1
        subst e5
        rw [e6] at I1
        cases r1
        have rd : tB G W H0 (fun ρ => bor p ρ (ev T p ρ)) σ H (fun y H1 => ∃ b xs, y = V.ref b ∧ (SqT X.K H1 b xs ∨ SqL X.K H1 b xs) ∧ spV G k va (T.fn g) xs H1 Q (WE (wOf G W) σ)) := by
          refine ⟨S, ρ, R, mkB rdD z fun d z v H1 S1 e1 l1 => ?_⟩
          have fin : ∀ ds xs b, v = V.ref b → (SqT X.K H1 b xs ∨ SqL X.K H1 b xs) → Paired (Rep G H1 S1) ds xs → Post G (fun c => W c σ) H S (if arOk (T.ar g) ds.length = true then T.fn g ds else .fail) Q →
              ∃ b xs, v = V.ref b ∧ (SqT X.K H1 b xs ∨ SqL X.K H1 b xs) ∧ spV G k va (T.fn g) xs H1 Q (WE (wOf G W) σ) := fun ds xs b ev hs hp z => by
            obtain ⟨c2, z⟩ := Post.ite z
            rw [hk, Paired.length hp] at c2
            exact ⟨b, xs, ev, hs, c2, S1, ds, (R.gr e1).dom, hp, (Post.gr e1 z).weak fun c H' w a ha => ⟨c, a, rfl, ha, rfl, w⟩⟩
          cases d with
          | lst ds =>
            obtain ⟨b, xs, ev, hs, hp⟩ := l1.lst s.K
            exact fin ds xs b ev (.inr hs) hp z
          | tup ds =>
            obtain ⟨b, xs, ev, hs, hp⟩ := l1.tup
            exact fin ds xs b ev (.inl (by rw [s.K]; exact hs.sq)) hp z
          | _ => exact z.elim
        refine PySem.W.callWith_S (h₀ := X.base) I.ok.mod.kin (by rw [s.K]; exact kp) (thn (((ih c a p h W X s).2).run pins s1 σ _ _ I1 rd) fun v s2 ⟨y, H1, I2, ry, b, xs, ey, hs, q2⟩ => ?_) rfl
        subst ey
        obtain rfl : v = Value.ref b := ry
        refine StX.star_any I2 hs fun us s3 I3 rv => ⟨I3.kIn, wpAny_call (run_RA ?_ (s.room hh) (passAt s.tk σ) I3 rv q2)⟩
        rw [s.eP, s.ew, s.K, s.mg, s.eb]
        exact F
    | _ => exact z.elim
theorem ok_all : ∀ n, OkE P w G base T m H0 n ∧ OkT P w G base T m H0 n ∧ OkI P w G base T m H0 n
  | 0 => ⟨fun _ _ _ h => (nomatch h), fun _ _ _ h => (nomatch h), fun _ _ _ h => (nomatch h)⟩
  | n + 1 => by
    obtain ⟨ihE, ihT, ihI⟩ := ok_all n
    refine ⟨fun c e p h W X s => ?_, fun c e p h W X s => ?_, fun c e p h W X tg s => ?_⟩
    · unfold cE at h
      split at h
      · cases h; exact both (fun _ z => by cases z) (pe_lit pe_int fun _ _ => .int _)
      · cases h; exact both (fun _ z => by cases z) (pe_lit pe_bl fun _ _ => .bl _)
      · cases h; exact both (fun _ z => by cases z) (pe_lit pe_str fun _ _ => .str _)
      · cases h; exact both (fun _ z => by cases z) (pe_lit pe_non fun _ _ => .non)
      · split at h
        · rename_i i q
          cases h
          exact ⟨pe_getF (s.var q), pe_getO (s.var q)⟩
        · split at h
          · rename_i q
            cases h
            exact both (fun _ z => by cases z) (gl_ok s q.1 q.2)
          · cases h
      · split at h
        · rename_i q1 q2
          cases h
          exact both (fun _ z => by cases z) (pe_bin s.K (ihE _ _ _ q1 W X s).2 (ihE _ _ _ q2 W X s).2)
        · cases h
      · rename_i a _
        cases q : cE n c a with
        | none => rw [q] at h; cases h
        | some a' =>
          rw [q] at h
          cases h
          exact both (fun _ z => by cases z) (pe_ng (ihE _ _ _ q W X s).2)
      · rename_i a _
        cases q : cE n c a with
        | none => rw [q] at h; cases h
        | some a' =>
          rw [q] at h
          cases h
          exact both (fun _ z => by cases z) (pe_no s.K (ihE _ _ _ q W X s).2)
      · split at h
        · rename_i q0 q1 q2
          cases h
          exact both (fun _ z => by cases z) (pe_cm s.K s.wG s.units (mark_of _ q0) (ihE _ _ _ q1 W X s).2 (ihE _ _ _ q2 W X s).2)
        · cases h
      · split at h
        · rename_i q0 q00 q1 q2 q3
          cases h
          exact both (fun _ z => by cases z) (pe_ch s.K s.wG s.units (marks_of _ _ _ q00) (ihE _ _ _ q1 W X s).2 (ihE _ _ _ q2 W X s).2 (ihE _ _ _ q3 W X s).2)
        · cases h
      · obtain ⟨h1, h2⟩ := cBo_ok ihE s true _ p h
        exact both (fun i z => by have := h2 i z; simp at this) h1
      · obtain ⟨h1, h2⟩ := cBo_ok ihE s false _ p h
        exact both (fun i z => by have := h2 i z; simp at this) h1
      · split at h
        · rename_i q1 q2 q3
          cases h
          exact both (fun _ z => by cases z) (pe_if (ihT _ _ _ q1 W X s) (ihE _ _ _ q2 W X s).1 (ihE _ _ _ q3 W X s).1)
        · cases h
      · rename_i es _ _
        cases q : cEsT (cE n c) es with
        | none => rw [q] at h; cases h
        | some a' =>
          rw [q] at h
          cases h
          exact both (fun _ z => by cases z) (pe_tu (cEsT_ok ihE s _ _ q))
      · rename_i es _
        cases q : cEsT (cE n c) es with
        | none => rw [q] at h; cases h
        | some a' =>
          rw [q] at h
          cases h
          exact both (fun _ z => by cases z) (pe_li (cEsT_ok ihE s _ _ q))
      · rename_i a lo hi _ _
        have pp : ∀ (o : Option Expr) (l : Exo), (match o with | none => some Exo.none | some l => (cE n c l).map Exo.some) = some l → PO X o (tO G W H0 (evo T l)) := fun o l q => by
          cases o with
          | none => cases q; exact po_no
          | some e =>
            have q' : (cE n c e).map Exo.some = some l := q
            cases z : cE n c e with
            | none => rw [z] at q'; cases q'
            | some e' => rw [z] at q'; cases q'; exact po_so (ihE _ _ _ z W X s).2
        split at h
        · rename_i q1 q2 q3
          cases h
          exact both (fun _ z => by cases z) (pe_sl s.K (ihE _ _ _ q1 W X s).2 (pp _ _ q2) (pp _ _ q3))
        · cases h
      · split at h
        · rename_i q0 q1 q2
          cases h
          exact both (fun _ z => by cases z) (pe_id s.K s.wG s.units (plainIx_of q0) (ihE _ _ _ q1 W X s).2 (ihE _ _ _ q2 W X s).2)
        · cases h
      · split at h
        · split at h
          · split at h
            · rename_i q0 q1 q2
              cases h
              exact both (fun _ z => by cases z) (star_ok ihE s q0 q1 q2)
            · cases h
          · cases h
        · rename_i hg
          split at h
          · rename_i k hf
            split at h
            · rename_i hl
              rename_i es _ _ _
              cases q : cEs (cE n c) es with
              | none => rw [q] at h; cases h
              | some ps => rw [q] at h; cases h; exact both (fun _ z => by cases z) (call_ok ihE s hg hf hl.1 hl.2 q)
            · cases h
          · split at h
            · rename_i hn
              subst hn
              split at h
              · split at h
                · rename_i q0 q1 q2
                  cases h
                  rw [Bool.and_eq_true] at q0
                  exact both (fun _ z => by cases z) (is_ok ihE s hg q0.1 q2 (eq_of_beq q0.2) q1)
                · rename_i i q0 q1 q2
                  cases h
                  rw [Bool.and_eq_true] at q0
                  refine both (fun _ z => by cases z) (isx_ok ihE s hg (eq_of_beq q0.2) rfl q1 fun k r hr => ?_)
                  obtain ⟨b1, b2, e1, e2, rfl⟩ := kiAny_cons hr
                  cases e2
                  obtain ⟨v, u, n1, n2⟩ := s.kis k _ b1 e1
                  exact ⟨_, nam_pe s q0.1 n1, fun C σ H Q hC hq => hq v H (.inl rfl) (.inl ⟨u, n1.1, by rw [Bool.or_false]; exact n2 C hC⟩)⟩
                · cases h
              · split at h
                · rename_i i zs q0 q1 q2
                  split at h
                  rotate_left
                  · cases h
                  rename_i q3
                  cases h
                  refine both (fun _ z => by cases z) (isx_ok ihE s hg q0 rfl q1 fun k r hr => ?_)
                  obtain ⟨vs, us, i0, i1, i2, i3⟩ := clss_ok s _ zs q2 k r hr
                  exact ⟨_, pe_tup i1, fun C σ H Q hC hq => ⟨by rw [i0, sizeLine_eq]; omega, fun p hp => hq _ _ (.inr ⟨p, _, hp, rfl⟩) (.inr ⟨p, vs, us, rfl, upd_same, i2, i3 C hC⟩)⟩⟩
                · cases h
              · cases h
            · split at h
              · rename_i b a qb
                split at h
                · rename_i q0 q1
                  cases h
                  exact both (fun _ z => by cases z) (bi_ok ihE s hg qb (Bool.or_eq_false_iff.mp q0).1 (fun e => s.calm (by have := (Bool.or_eq_false_iff.mp q0).2; rw [e] at this; simpa using this)) q1)
                · cases h
              · cases h
      · split at h
        · rename_i q1 q2
          split at h
          · rename_i q3
            cases h
            exact both (fun _ z => by cases z) (dict_ok ihE s q1 q2 q3.1 q3.2.1 q3.2.2.1 q3.2.2.2 fun ρ ds => evs_len _ _ q2 ρ ds)
          · cases h
        · cases h
      · dsimp only at h
        split at h
        · rename_i q1 q2 q3 q4 q5
          split at h
          · rename_i q6
            cases h
            obtain ⟨k1, k2, k3, k4, k5, k6⟩ := co_ok ihE ihT ihI s (pos := ⟨0, 0, 0, 0⟩) q1 q2 q3 q4 q5 q6 (cI_set q3)
            exact both (fun _ z => by cases z) ((pe_lc (s.calm (by have := (Bool.and_eq_true_iff.mp q1).2; simpa using this)) s.nd k2 k3 k4 k5 k6 (sw_no (cI_set q3) X.env)).im k1)
          · cases h
        · cases h
      · cases h
    · unfold cT at h
      split at h
      · exact (cBoT_ok ihT s true _ p h).pt
      · exact (cBoT_ok ihT s false _ p h).pt
      · rename_i a _
        cases q : cT n c a with
        | none => rw [q] at h; cases h
        | some a' => rw [q] at h; cases h; exact pt_no (ihT _ _ _ q W X s)
      · split at h
        · rename_i q0 q1 q2
          cases h
          exact (pt_cm s.K s.wG s.units (mark_of _ q0) (ihE _ _ _ q1 W X s).2 (ihE _ _ _ q2 W X s).2).im fun σ H Q ⟨S, ρ, R, p⟩ => ⟨S, ρ, R, tst_ok p⟩
        · cases h
      · split at h
        · rename_i q0 q00 q1 q2 q3
          cases h
          exact (pt_ch s.K s.wG s.units (marks_of _ _ _ q00) (ihE _ _ _ q1 W X s).2 (ihE _ _ _ q2 W X s).2 (ihE _ _ _ q3 W X s).2).im fun σ H Q ⟨S, ρ, R, p⟩ => ⟨S, ρ, R, tst_ok2 p⟩
        · cases h
      · split at h
        · rename_i q0
          cases q : cE n c e with
          | none => rw [q] at h; cases h
          | some a' => rw [q] at h; cases h; exact pt_tr s.K (ihE _ _ _ q W X s).2 (plain_is q0 X.env)
        · cases h
    · unfold cI at h
      split at h
      · split at h
        · rename_i q0
          rw [Bool.and_eq_true, Bool.and_eq_true] at q0
          obtain ⟨⟨qg, qn⟩, _⟩ := q0
          have qn := of_decide_eq_true qn
          subst qn
          obtain ⟨g1, _, _⟩ := s.gl qg
          have gm := s.no (x := "range") (by decide +kernel)
          split at h
          · split at h
            · rename_i q1 q2
              cases h
              exact pi_r1 g1 gm (ihE _ _ _ q2 W X s).2 (star_of q1 [] X.env)
            · cases h
          · split at h
            · rename_i q1 q2 q3 q4
              cases h
              exact pi_r2 g1 gm (ihE _ _ _ q3 W X s).2 (ihE _ _ _ q4 W X s).2 (by rw [star_of q1, star_of q2]; rfl) (star_of q2 [] X.env)
            · cases h
          · cases h
        · obtain ⟨a', q, e'⟩ := Option.map_eq_some_iff.mp h
          subst e'
          exact pi_sq s.K (ihE _ _ _ q W X s).1
      · split at h
        · rename_i q0
          cases q : cE n c e with
          | none => rw [q] at h; cases h
          | some a' => rw [q] at h; cases h; exact pi_sq s.K (ihE _ _ _ q W X s).1
        · cases h
end
end Hf

/-! Hf9: statements of the small language, what they do. -/
namespace Hf
open PySem PySem.Spec PyProof.Rows L2
set_option autoImplicit false

/-! ### the slots that a term hands on as values -/
def ub (a : Ex) (l : List Nat) : List Nat := match a with
  | .var _ => []
  | _ => l
mutual
def us : Ex → List Nat
  | .lit _ => []
  | .var i => [i]
  | .gl _ => []
  | .bin _ a b => ub a (us a) ++ ub b (us b)
  | .neg a => ub a (us a)
  | .cmp _ a b => ub a (us a) ++ ub b (us b)
  | .chn _ _ a b c => ub a (us a) ++ ub b (us b) ++ ub c (us c)
  | .and a b => us a ++ us b
  | .or a b => us a ++ us b
  | .not a => ub a (us a)
  | .ite c a b => usT c ++ us a ++ us b
  | .tup es => uss es
  | .lst es => uss es
  | .idx a i => ub a (us a) ++ ub i (us i)
  | .slc a lo hi => ub a (us a) ++ uso lo ++ uso hi
  | .call _ es => uss es
  | .bi _ a => ub a (us a)
  | .isi a _ => ub a (us a)
  | .star i a => i :: ub a (us a)
  | .dict _ es => uss es
  | .isx i _ _ => [i]
  | .comp _ _ it c e => usi it ++ usc c ++ us e
def uss : Exs → List Nat
  | .nil => []
  | .cons e es => us e ++ uss es
  | .star e es => ub e (us e) ++ uss es
def uso : Exo → List Nat
  | .none => []
  | .some e => ub e (us e)
def usT : Te → List Nat
  | .val e => ub e (us e)
  | .and a b => usT a ++ usT b
  | .or a b => usT a ++ usT b
  | .not a => usT a
def usc : Tes → List Nat
  | .nil => []
  | .one c => usT c
def usi : Is → List Nat
  | .seq e => us e
  | .rng1 hi => ub hi (us hi)
  | .rng2 lo hi => ub lo (us lo) ++ ub hi (us hi)
end
/-- own lists become frozen ones -/
def fz : List Nat → En → En
  | [], ρ => ρ
  | i :: is, ρ => match (fz is ρ)[i]? with
    | some (some (true, d)) => (fz is ρ).set i (some (false, d))
    | _ => fz is ρ

mutual
inductive St where
  | pass | brk | cnt
  | expr (e : Ex)
  | set (i : Nat) (e : Ex)
  | sets (t : Tg) (e : Ex)
  | aug (i : Nat) (o : Operator) (e : Ex)
  | app (i : Nat) (e : Ex)
  | ext (i : Nat) (e : Ex)
  | pop (t : Tg) (i : Nat)
  | put (i : Nat) (k e : Ex)
  | ret (e : Ex) | retN
  | ifs (c : Te) (a b : Sts)
  | whl (c : Te) (b : Sts)
  | for_ (t : Tg) (it : Is) (b : Sts)
  | raise (x : Str)
  /-- try: b; except cl as i: return (False, f(i)) -/
  | tryW (b : Sts) (cl : Str) (i : Nat) (f : Str)
inductive Sts where
  | nil | cons (s : St) (ss : Sts)
end
/-- where a statement ends -/
inductive Fl where
  | nx (ρ : En) | rt (own : Bool) (d : D) | bk (ρ : En) | ct (ρ : En) | ex (c : Str) (ρ : En) | fail
def Fl.seq (r : Fl) (f : En → Fl) : Fl := match r with
  | .nx ρ => f ρ
  | r => r
/-- a result, in the environment in which it was reckoned -/
def onR {α : Type} (r : Res α) (ρ : En) (f : α → Fl) : Fl := match r with
  | .ok a => f a
  | .exc c => .ex c ρ
  | .fail => .fail
def iopD (o : Operator) (a b : D) : Res (Bool × D) := match o, a, b with
  | .Add, .int i, .int j => okF (.int (i + j))
  | .Sub, .int i, .int j => okF (.int (i - j))
  | .Mult, .int i, .int j => if MulOk i j then okF (.int (i * j)) else .fail
  | .FloorDiv, .int i, .int j => if 0 < j ∧ j < 1073741824 then okF (.int (i / j)) else .fail
  | .Add, .str x, .str y => if x.length + y.length ≤ sizeLine then okF (.str (x ++ y)) else .fail
  | _, _, _ => .fail
def forN (t : Tg) (b : En → Fl) : List D → En → Fl
  | [], ρ => .nx ρ
  | d :: ds, ρ => match bindT t d ρ with
    | .ok ρ1 => (match b ρ1 with
      | .nx ρ2 => forN t b ds ρ2
      | .ct ρ2 => forN t b ds ρ2
      | .bk ρ2 => .nx ρ2
      | r => r)
    | _ => .fail
def whN (c : En → Res Bool) (z : En → En) (b : En → Fl) : Nat → En → Fl
  | 0, _ => .fail
  | n + 1, ρ => onR (c (z ρ)) (z ρ) fun k => if k = true then (match b (z ρ) with
    | .nx ρ2 => whN c z b n ρ2
    | .ct ρ2 => whN c z b n ρ2
    | .bk ρ2 => .nx ρ2
    | r => r) else .nx (z ρ)
mutual
/-- wf: the most turns of a while -/
def ex (T : Tb) (wf : Nat) : St → En → Fl
  | .pass, ρ => .nx ρ
  | .brk, ρ => .bk ρ
  | .cnt, ρ => .ct ρ
  | .expr e, ρ => onR (ev T e (fz (us e) ρ)) (fz (us e) ρ) fun _ => .nx (fz (us e) ρ)
  | .set i e, ρ => onR (ev T e (fz (us e) ρ)) (fz (us e) ρ) fun x => .nx ((fz (us e) ρ).set i (some x))
  | .sets t e, ρ => onR (ev T e (fz (us e) ρ)) (fz (us e) ρ) fun x => (match bindT t x.2 (fz (us e) ρ) with
    | .ok ρ' => .nx ρ'
    | _ => .fail)
  | .aug i o e, ρ => onR (getO ρ i) ρ fun a => onR (ev T e (fz (us e) ρ)) (fz (us e) ρ) fun b => onR (iopD o a.2 b.2) ρ fun x => .nx ((fz (us e) ρ).set i (some x))
  | .app i e, ρ => onR (getO (fz (us e) ρ) i) ρ fun a => (match a with
    | (true, .lst ds) => onR (ev T e (fz (us e) ρ)) (fz (us e) ρ) fun b => if ds.length < sizeLine then .nx ((fz (us e) ρ).set i (some (true, .lst (ds ++ [b.2])))) else .fail
    | _ => .fail)
  | .ext i e, ρ => onR (getO (fz (us e) ρ) i) ρ fun a => (match a with
    | (true, .lst ds) => onR (ev T e (fz (us e) ρ)) (fz (us e) ρ) fun b => (match b.2 with
      | .tup es => if ds.length + es.length ≤ sizeLine then .nx ((fz (us e) ρ).set i (some (true, .lst (ds ++ es)))) else .fail
      | .lst es => if ds.length + es.length ≤ sizeLine then .nx ((fz (us e) ρ).set i (some (true, .lst (ds ++ es)))) else .fail
      | _ => .fail)
    | _ => .fail)
  | .pop t i, ρ => onR (getO ρ i) ρ fun a => (match a with
    | (true, .lst ds) => (match ds[ds.length - 1]? with
      | some d => (match bindT t d (ρ.set i (some (true, .lst ds.dropLast))) with
        | .ok ρ' => .nx ρ'
        | _ => .fail)
      | none => .fail)
    | _ => .fail)
  | .put i k e, ρ => onR (getO (fz (us e ++ us k) ρ) i) ρ fun a => (match a with
    | (true, .lst ds) => onR (ev T e (fz (us e ++ us k) ρ)) (fz (us e ++ us k) ρ) fun b => onR (ev T k (fz (us e ++ us k) ρ)) (fz (us e ++ us k) ρ) fun j => (match j.2 with
      | .int j => (match ixN ds.length j with
        | some n => .nx ((fz (us e ++ us k) ρ).set i (some (true, .lst (ds.set n b.2))))
        | none => .fail)
      | _ => .fail)
    | _ => .fail)
  | .ret e, ρ => (match e with
    | .var i => onR (getO ρ i) ρ fun x => .rt x.1 x.2
    | e => onR (ev T e (fz (us e) ρ)) (fz (us e) ρ) fun x => .rt x.1 x.2)
  | .retN, _ => .rt false .non
  | .ifs c a b, ρ => onR (evT T c (fz (usT c) ρ)) (fz (usT c) ρ) fun k => if k = true then exs T wf a (fz (usT c) ρ) else exs T wf b (fz (usT c) ρ)
  | .whl c b, ρ => whN (evT T c) (fz (usT c)) (exs T wf b) wf ρ
  | .for_ t it b, ρ => onR (evi T it (fz (usi it) ρ)) (fz (usi it) ρ) fun ds => forN t (exs T wf b) ds (fz (usi it) ρ)
  | .raise x, ρ => .ex x ρ
  | .tryW b cl i f, ρ => (match exs T wf b ρ with
    | .ex c ρ' => (match T.sub c cl with
      | some true => if i < ρ'.length then (match T.hot f c with
        | some d => .rt false (.tup [.bl false, d])
        | none => .fail) else .fail
      | some false => .ex c ρ'
      | none => .fail)
    | r => r)
def exs (T : Tb) (wf : Nat) : Sts → En → Fl
  | .nil, ρ => .nx ρ
  | .cons s ss, ρ => (ex T wf s ρ).seq (exs T wf ss)
end

/-! ### values: op=, extend by a tuple -/
section
variable {X : Cx} {G : Gm}
theorem iop_mulW : OpR X (inplaceOp .Mult) (rI MulOk fun i j => .int (i * j)) := opI fun _ _ _ _ _ _ _ hc q => imul_int q hc.ok
theorem op_iD (o : Operator) : OpR X (inplaceOp o) (rD G (iopD o)) := by
  refine op_pick fun pins s σ H W S x y v u Q dx dy I rx ry dm lx ly p => ?_
  cases dx with
  | int i =>
    cases dy with
    | int j =>
      have ex := lx.int
      have ey := ly.int
      subst ex ey
      cases o with
      | Add => exact iop_add pins s σ H _ _ v u Q I rx ry ⟨i, j, rfl, rfl, p.f (.int _)⟩
      | Sub => exact iop_sub pins s σ H _ _ v u Q I rx ry ⟨i, j, rfl, rfl, p.f (.int _)⟩
      | Mult =>
        obtain ⟨c, p⟩ := Post.ite p
        exact iop_mulW pins s σ H _ _ v u Q I rx ry ⟨i, j, rfl, rfl, c, p.f (.int _)⟩
      | FloorDiv =>
        obtain ⟨c, p⟩ := Post.ite p
        exact iop_fdiv pins s σ H _ _ v u Q I rx ry ⟨i, j, rfl, rfl, c, p.f (.int _)⟩
      | _ => exact False.elim p
    | _ => cases o <;> exact False.elim p
  | str a =>
    cases dy with
    | str b =>
      have ex := lx.str
      have ey := ly.str
      subst ex ey
      cases o with
      | Add =>
        obtain ⟨c, p⟩ := Post.ite p
        exact iop_add_str pins s σ H _ _ v u Q I rx ry ⟨a, b, rfl, rfl, c, p.f (.str _)⟩
      | _ => exact False.elim p
    | _ => cases o <;> exact False.elim p
  | _ => cases o <;> cases dy <;> exact False.elim p
open PySem.AutoSeq1 (wpAny_loadPart') in
theorem list_extend_tupW (l : Addr) (items : Array Value) (n : Nat) (b : Addr) (items2 : Array Value) (n2 : Nat) (dd : Option Addr) (sl : Array (Option Value)) (hs0 : ¬(!items.isEmpty && Builtin.List.listTooLong (items.size + items2.size)) = true) (hs1 : items.size ≤ sizeLine) (hs2 : items.size + items2.size ≤ sizeLine + 1) :
    Meets (Builtin.«list.extend» ⟨[.ref l, .ref b], []⟩) (fun _ R s => s.heap.get? l = some { cls := .type "list", dict := none, data := .seq items n, slots := #[] } ∧ s.heap.get? b = some { cls := .type "tuple", dict := dd, data := .seq items2 n2, slots := sl } ∧ R (.ok (.ret Value.none)) { s with heap := s.heap.update l (Obj.mapSeq fun x => x ++ items2), toks := s.toks }) :=
  .of_wp fun prog w A R s h => by
    obtain ⟨hp, g, d, tk, os⟩ := s; obtain ⟨hl, hb, h⟩ := h; have f1 := AutoSeq1.idx_int; have f2 := AutoSeq1.sub_tuple_tuple; have f3 := AutoSeq1.sub_list_list; have f4 := AutoSeq1.sub_tuple_list; have f5 := AutoSeq1.sub_list_tuple;
    have hz' : (items ++ items2).size ≤ sizeLine + 1 := by rw [Array.size_append]; exact hs2
    wp_walk using (wpAny_updateSeq hl rfl (hz := hs1) (_hz' := hz')), wpAny_loadPart' hl, wpAny_loadPart' hb; exact ⟨_, rfl, h⟩
def rExtT (K : PySem.W.Frag) : V → List V → Hp → VK → Prop := fun x vs H Q => ∃ l b xs zs, x = .ref l ∧ vs = [.ref b] ∧ H l = some (.lst xs) ∧ SqT K H b zs ∧ xs.length + zs.length ≤ sizeLine ∧ Q .non (upd H l (.lst (xs ++ zs)))
theorem mt_extT : MtM X "list.extend" (rExtT X.K) := by
  intro pins s σ H x xs v us Q I rx rv h
  obtain ⟨l, b, xs, zs, rfl, rfl, hH, hB, hz, q⟩ := h
  cases rx
  obtain ⟨u, rfl, ru⟩ := rv.one
  cases ru
  obtain ⟨z, its, n, r, hl, e⟩ := I.lstM hH
  obtain ⟨its2, r2, ⟨⟨cls, dd, data, sl⟩, ho, hc, n2, hd⟩, _⟩ := I.tuple hB
  simp only at hc hd
  subst hc hd
  have hl2 := r2.length
  have hsz : its.toArray.size + its2.toArray.size ≤ sizeLine := by rw [List.size_toArray, List.size_toArray]; omega
  have hlong : ¬ (!its.toArray.isEmpty && Builtin.List.listTooLong (its.toArray.size + its2.toArray.size)) = true := by
    rw [notLongL hsz, Bool.and_false]
    exact Bool.false_ne_true
  refine call_meets F.slot_list_extend ⟨_, e, rfl⟩ F.entry_list_extend (F.args_list_extend_2 _ _)
    (list_extend_tupW l its.toArray n b its2.toArray n2 dd sl hlong (by rw [List.size_toArray]; omega) (by omega)) ⟨e, ho, ?_⟩
  refine ⟨.non, _, I.lset (its' := its ++ its2) hH e (by simp) (r.append r2) ?_, rfl, q⟩
  rw [List.length_append]
  omega
open PySem.AutoSeq1 (wpAny_loadPart') in
theorem list_extend_listW (l : Addr) (items : Array Value) (n : Nat) (b : Addr) (items2 : Array Value) (n2 : Nat) (sl : Array (Option Value)) (hs0 : ¬(!items.isEmpty && Builtin.List.listTooLong (items.size + items2.size)) = true) (hs1 : items.size ≤ sizeLine) (hs2 : items.size + items2.size ≤ sizeLine + 1) :
    Meets (Builtin.«list.extend» ⟨[.ref l, .ref b], []⟩) (fun _ R s => s.heap.get? l = some { cls := .type "list", dict := none, data := .seq items n, slots := #[] } ∧ s.heap.get? b = some { cls := .type "list", dict := none, data := .seq items2 n2, slots := sl } ∧ R (.ok (.ret Value.none)) { s with heap := s.heap.update l (Obj.mapSeq fun x => x ++ items2), toks := s.toks }) :=
  .of_wp fun prog w A R s h => by
    obtain ⟨hp, g, d, tk, os⟩ := s; obtain ⟨hl, hb, h⟩ := h; have f1 := AutoSeq1.idx_int; have f2 := AutoSeq1.sub_tuple_tuple; have f3 := AutoSeq1.sub_list_list; have f4 := AutoSeq1.sub_tuple_list; have f5 := AutoSeq1.sub_list_tuple;
    have hz' : (items ++ items2).size ≤ sizeLine + 1 := by rw [Array.size_append]; exact hs2
    wp_walk using (wpAny_updateSeq hl rfl (hz := hs1) (_hz' := hz')), wpAny_loadPart' hl, wpAny_loadPart' hb; exact ⟨_, rfl, h⟩
/-- extend by any list that may be read -/
theorem mt_extL : MtM X "list.extend" (fun x vs H Q => ∃ l b xs zs, x = .ref l ∧ vs = [.ref b] ∧ H l = some (.lst xs) ∧ SqL X.K H b zs ∧ xs.length + zs.length ≤ sizeLine ∧ Q .non (upd H l (.lst (xs ++ zs)))) := by
  intro pins s σ H x xs v us Q I rx rv h
  obtain ⟨l, b, xs, zs, rfl, rfl, hH, hB, hz, q⟩ := h
  cases rx
  obtain ⟨u, rfl, ru⟩ := rv.one
  cases ru
  obtain ⟨z, its, n, r, hl, e⟩ := I.lstM hH
  obtain ⟨its2, r2, ⟨⟨cls, dd, data, sl⟩, n2, ho, hc, hn, hd⟩, _⟩ := I.list hB
  simp only at hc hd hn
  subst hc hd hn
  have hl2 := r2.length
  have hsz : its.toArray.size + its2.toArray.size ≤ sizeLine := by rw [List.size_toArray, List.size_toArray]; omega
  have hlong : ¬ (!its.toArray.isEmpty && Builtin.List.listTooLong (its.toArray.size + its2.toArray.size)) = true := by
    rw [notLongL hsz, Bool.and_false]
    exact Bool.false_ne_true
  refine call_meets F.slot_list_extend ⟨_, e, rfl⟩ F.entry_list_extend (F.args_list_extend_2 _ _)
    (list_extend_listW l its.toArray n b its2.toArray n2 sl hlong (by rw [List.size_toArray]; omega) (by omega)) ⟨e, ho, ?_⟩
  refine ⟨.non, _, I.lset (its' := its ++ its2) hH e (by simp) (r.append r2) ?_, rfl, q⟩
  rw [List.length_append]
  omega
end
end Hf

/-! Hf10: statements' rules. -/
namespace Hf
open PySem PySem.Spec PyProof.Rows L2
set_option autoImplicit false

/-- since the entry (H0, S0); what is frozen since (HB, SB) has stayed -/
structure Bs (H0 : Hp) (S0 : Sy) (HB : Hp) (SB : Sy) (H : Hp) (S : Sy) : Prop where
  g : Gr H0 S0 H S
  k : Keep HB SB H S
theorem Keep.trans {H H1 H2 : Hp} {S S1 S2 : Sy} (a : Keep H S H1 S1) (b : Keep H1 S1 H2 S2) : Keep H S H2 S2 := fun x s => ⟨(b x (a x s).1).1, fun o h => (b x (a x s).1).2 o ((a x s).2 o h)⟩
theorem Bs.trans {H0 HB H H' : Hp} {S0 SB S S' : Sy} (b : Bs H0 S0 HB SB H S) (e : Gr H S H' S') : Bs H0 S0 HB SB H' S' := ⟨b.g.trans e, b.k.trans e.keep⟩
theorem Bs.same {H0 HB H : Hp} {S0 SB S : Sy} (b : Bs H0 S0 HB SB H S) : Same H0 H := b.g.same
def PostS (G : Gm) (W : WD) (H0 : Hp) (S0 : Sy) (HB : Hp) (SB : Sy) (r : Fl) (D : Ends) : Prop := match r with
  | .nx ρ => ∀ σ H S, REnv G H0 H S σ ρ → Bs H0 S0 HB SB H S → D.nx σ H
  | .bk ρ => ∀ σ H S, REnv G H0 H S σ ρ → Bs H0 S0 HB SB H S → D.bk σ H
  | .ct ρ => ∀ σ H S, REnv G H0 H S σ ρ → Bs H0 S0 HB SB H S → D.ct σ H
  | .rt b d => ∀ v H S, Bs H0 S0 HB SB H S → RepO G H0 H S b d v → D.rt v H
  | .ex c ρ => ∀ σ H S, REnv G H0 H S σ ρ → Bs H0 S0 HB SB H S → W c σ H
  | .fail => False
def tS (G : Gm) (W : WD) (H0 : Hp) (S0 : Sy) (HB : Hp) (SB : Sy) (f : En → Fl) : TS := fun D σ H => ∃ S ρ, REnv G H0 H S σ ρ ∧ Bs H0 S0 HB SB H S ∧ PostS G W H0 S0 HB SB (f ρ) D
section
variable {X : Cx}
theorem _root_.L2.PS.im {st : Stmt} {t t' : TS} (h : PS X st t) (i : ∀ D σ H, t' D σ H → t D σ H) : PS X st t' := ⟨fun pins s σ H D I q => h.run pins s σ H D I (i D σ H q)⟩
theorem _root_.L2.PSs.im {st : List Stmt} {t t' : TS} (h : PSs X st t) (i : ∀ D σ H, t' D σ H → t D σ H) : PSs X st t' := ⟨fun pins s σ H D I q => h.run pins s σ H D I (i D σ H q)⟩
end
/-! ### freezing -/
section
variable {G : Gm} {H0 H HB : Hp} {S0 S SB : Sy} {σ : L2.St} {ρ : En}
theorem REnv.fz1 (R : REnv G H0 H S σ ρ) (g : Bs H0 S0 HB SB H S) {i : Nat} {d : D} (hi : ρ[i]? = some (some (true, d))) : ∃ S', Keep H S H S' ∧ Bs H0 S0 HB SB H S' ∧ REnv G H0 H S' σ (ρ.set i (some (false, d))) := by
  obtain ⟨v, hv, a, xs, ds, rfl, rfl, ns, h0, ha, hp⟩ := R.slot i true d hi
  have k : Keep H S H (fun b => S b ∨ b = a) := fun b s => ⟨.inl s, fun _ h => h⟩
  have hl : i < ρ.length := (List.getElem?_eq_some_iff.mp hi).1
  refine ⟨fun b => S b ∨ b = a, k, ⟨⟨g.same, fun b s => .inl (g.g.sub b s), fun b z => z.elim (g.g.new b) fun q => .inr (by subst q; exact ⟨h0, _, ha⟩)⟩, g.k.trans k⟩, ?_⟩
  refine ⟨by rw [List.length_set]; exact R.len, fun b z => z.elim (R.dom b) fun q => by subst q; exact ⟨_, ha⟩, fun j b e q => ?_, fun j j' d e c hjj q1 q2 z1 z2 => ?_⟩
  · rcases get_set q with ⟨rfl, e1, _⟩ | ⟨ne, q⟩
    · cases e1
      exact ⟨_, hv, .lst (.inl ⟨.inr rfl, .inl ha⟩) (Rep.keepL k _ _ hp)⟩
    · obtain ⟨w, h1, h2⟩ := R.slot j b e q
      refine ⟨w, h1, ?_⟩
      cases b with
      | false => exact h2.keep k
      | true =>
        obtain ⟨c, ys, es, rfl, rfl, m1, m2, m3, m4⟩ := h2
        refine ⟨c, ys, es, rfl, rfl, fun z => z.elim m1 fun e => ?_, m2, m3, Rep.keepL k _ _ m4⟩
        subst e
        exact R.apart j i _ _ c ne q hi h1 hv
  · rcases get_set q1 with ⟨_, e1, _⟩ | ⟨n1, q1'⟩
    · cases e1
    · rcases get_set q2 with ⟨_, e2, _⟩ | ⟨n2, q2'⟩
      · cases e2
      · exact R.apart j j' d e c hjj q1' q2' z1 z2
theorem REnv.frz (R : REnv G H0 H S σ ρ) (g : Bs H0 S0 HB SB H S) : ∀ us : List Nat, ∃ S', Keep H S H S' ∧ Bs H0 S0 HB SB H S' ∧ REnv G H0 H S' σ (fz us ρ)
  | [] => ⟨S, fun _ s => ⟨s, fun _ h => h⟩, g, R⟩
  | i :: is => by
    obtain ⟨S1, k1, g1, R1⟩ := REnv.frz R g is
    show ∃ S', Keep H S H S' ∧ Bs H0 S0 HB SB H S' ∧ REnv G H0 H S' σ (match (fz is ρ)[i]? with | some (some (true, d)) => (fz is ρ).set i (some (false, d)) | _ => fz is ρ)
    split
    · rename_i d q
      obtain ⟨S2, k2, g2, R2⟩ := R1.fz1 g1 q
      exact ⟨S2, fun b s => ⟨(k2 b (k1 b s).1).1, fun _ h => h⟩, g2, R2⟩
    · exact ⟨S1, k1, g1, R1⟩
/-- one's own list is changed -/
theorem REnv.mut (R : REnv G H0 H S σ ρ) (g : Bs H0 S0 HB SB H S) {i : Nat} {d : D} {a : Addr} {xs ys : List V} {es : List D} (hi : ρ[i]? = some (some (true, d))) (hv : σ[i]? = some (some (.ref a))) (ha : H a = some (.lst xs)) (ns : ¬ S a) (h0 : H0 a = none) (hp : Paired (Rep G H S) es ys) :
    Bs H0 S0 HB SB (upd H a (.lst ys)) S ∧ REnv G H0 (upd H a (.lst ys)) S σ (ρ.set i (some (true, .lst es))) := by
  have k : Keep H S (upd H a (.lst ys)) S := Keep.updN ns
  have hl : i < ρ.length := (List.getElem?_eq_some_iff.mp hi).1
  have nb : ∀ b, S b → b ≠ a := fun b s z => ns (z ▸ s)
  refine ⟨⟨⟨fun b o hb => ?_, g.g.sub, fun b hb => ?_⟩, g.k.trans k⟩, by rw [List.length_set]; exact R.len, fun b hb => ?_, fun j b e q => ?_, fun j j' d' e c hjj q1 q2 z1 z2 => ?_⟩
  · rw [upd_ne (ne_of_none hb h0)]; exact g.same _ _ hb
  · rw [upd_ne (nb b hb)]; exact g.g.new b hb
  · rw [upd_ne (nb b hb)]; exact R.dom b hb
  · rcases get_set q with ⟨rfl, e1, _⟩ | ⟨ne, q⟩
    · cases e1
      exact ⟨_, hv, a, ys, es, rfl, rfl, ns, h0, upd_same, Rep.keepL k _ _ hp⟩
    · obtain ⟨w, h1, h2⟩ := R.slot j b e q
      refine ⟨w, h1, ?_⟩
      cases b with
      | false => exact h2.keep k
      | true =>
        obtain ⟨c, zs, fs, rfl, rfl, m1, m2, m3, m4⟩ := h2
        have nc : c ≠ a := fun z => by
          subst z
          exact R.apart j i _ _ c ne q hi h1 hv
        exact ⟨c, zs, fs, rfl, rfl, m1, m2, by rw [upd_ne nc]; exact m3, Rep.keepL k _ _ m4⟩
  · have own : ∀ j d', (ρ.set i (some (true, D.lst es)))[j]? = some (some (true, d')) → ∃ d'', ρ[j]? = some (some (true, d'')) := fun j d' q => by
      rcases get_set q with ⟨rfl, _, _⟩ | ⟨_, q⟩
      · exact ⟨_, hi⟩
      · exact ⟨_, q⟩
    obtain ⟨d1, o1⟩ := own j _ q1
    obtain ⟨d2, o2⟩ := own j' _ q2
    exact R.apart j j' d1 d2 c hjj o1 o2 z1 z2
/-- a result goes into a slot -/
theorem REnv.setO {H' : Hp} {S' : Sy} (R : REnv G H0 H S σ ρ) (e : Gr H S H' S') (h0 : Same H0 H) (i : Nat) {b : Bool} {d : D} {v : V} (h : RepO G H H' S' b d v) : REnv G H0 H' S' (σ.set i (some v)) (ρ.set i (some (b, d))) := by
  refine (R.gr e).put i v _ (fun b' d' q => ?_) (fun d' q j e' a ne q1 q2 z => ?_)
  · cases q
    cases b with
    | false => exact h
    | true =>
      obtain ⟨a, xs, ds, e1, e2, e3, hn, r⟩ := h
      exact ⟨a, xs, ds, e1, e2, e3, h0.free hn, r⟩
  · cases q
    obtain ⟨a1, xs, ds, e1, e2, e3, hn, r⟩ := h
    rw [e1] at z
    cases z
    obtain ⟨w, h1, a2, ys, es, rfl, _, _, _, h2, _⟩ := R.slot j true e' q1
    rw [h1] at q2
    cases q2
    rw [hn] at h2
    cases h2
end
theorem iopD_sp {o : Operator} {a b : D} {w : Bool × D} (h : iopD o a b = .ok w) : w.1 = false ∧ ((∃ k, a = .int k) ∨ ∃ z, a = .str z) := by
  unfold iopD at h
  split at h
  · cases h; exact ⟨rfl, .inl ⟨_, rfl⟩⟩
  · cases h; exact ⟨rfl, .inl ⟨_, rfl⟩⟩
  · split at h
    · cases h; exact ⟨rfl, .inl ⟨_, rfl⟩⟩
    · cases h
  · split at h
    · cases h; exact ⟨rfl, .inl ⟨_, rfl⟩⟩
    · cases h
  · split at h
    · cases h; exact ⟨rfl, .inr ⟨_, rfl⟩⟩
    · cases h
  · cases h
theorem iopD_nox {o : Operator} {a b : D} {c : Str} : iopD o a b ≠ .exc c := fun h => by
  unfold iopD at h
  split at h
  · cases h
  · cases h
  · split at h <;> cases h
  · split at h <;> cases h
  · split at h <;> cases h
  · cases h
/-! ### rules -/
section
variable {G : Gm} {W : WD} {H0 HB : Hp} {S0 SB : Sy} {X : Cx} {st : Stmt} {rest : List Stmt} {e : Expr} {pos : Pos}
theorem onD {H : Hp} {S : Sy} {σ : L2.St} {ρ : En} {r : Res (Bool × D)} {f : Bool × D → Fl} {D : Ends} {Q : VK} (R : REnv G H0 H S σ ρ) (g : Bs H0 S0 HB SB H S) (p : PostS G W H0 S0 HB SB (onR r ρ f) D)
    (ok : ∀ b d, PostS G W H0 S0 HB SB (f (b, d)) D → ∀ v H' S', Gr H S H' S' → RepO G H H' S' b d v → Q v H') : Post G (fun c => W c σ) H S r Q := by
  cases r with
  | ok x => exact ok x.1 x.2 p
  | exc c => exact fun H' S' e => p σ H' S' (R.gr e) (g.trans e)
  | fail => exact p
theorem onV {α : Type} {H : Hp} {S : Sy} {σ : L2.St} {ρ : En} {r : Res α} {f : α → Fl} {D : Ends} {Q : α → Hp → Prop} (R : REnv G H0 H S σ ρ) (g : Bs H0 S0 HB SB H S) (p : PostS G W H0 S0 HB SB (onR r ρ f) D)
    (ok : ∀ a, PostS G W H0 S0 HB SB (f a) D → ∀ H' S', Gr H S H' S' → Q a H') : PostV (fun c => W c σ) H S r Q := by
  cases r with
  | ok x => exact ok x p
  | exc c => exact fun H' S' e => p σ H' S' (R.gr e) (g.trans e)
  | fail => exact p
theorem onI {H : Hp} {S : Sy} {σ : L2.St} {ρ : En} {r : Res (List Hf.D)} {f : List Hf.D → Fl} {D : Ends} {Q : It → Hp → Prop} (R : REnv G H0 H S σ ρ) (g : Bs H0 S0 HB SB H S) (p : PostS G W H0 S0 HB SB (onR r ρ f) D)
    (ok : ∀ ds, PostS G W H0 S0 HB SB (f ds) D → ∀ J H' S', Gr H S H' S' → Wlk G J ds H' S' → Q J H') : PostI G (fun c => W c σ) H S r Q := by
  cases r with
  | ok x => exact ok x p
  | exc c => exact fun H' S' e => p σ H' S' (R.gr e) (g.trans e)
  | fail => exact p
theorem pss_ni : PSs X [] (tS G W H0 S0 HB SB .nx) := pss_nil.im fun D σ H ⟨S, ρ, R, g, p⟩ => p σ H S R g
theorem pss_co {f h : En → Fl} (h1 : PS X st (tS G W H0 S0 HB SB f)) (h2 : PSs X rest (tS G W H0 S0 HB SB h)) : PSs X (st :: rest) (tS G W H0 S0 HB SB fun ρ => (f ρ).seq h) := (pss_cons h1 h2).im fun D σ H ⟨S, ρ, R, g, p⟩ => by
  refine ⟨S, ρ, R, g, ?_⟩
  dsimp only at p
  cases z : f ρ with
  | nx ρ' => rw [z] at p; exact fun σ' H' S' R' g' => ⟨S', ρ', R', g', p⟩
  | rt b d => rw [z] at p; exact p
  | bk ρ' => rw [z] at p; exact p
  | ct ρ' => rw [z] at p; exact p
  | ex c ρ' => rw [z] at p; exact p
  | fail => rw [z] at p; exact p
theorem ps_pa : PS X (.Pass pos) (tS G W H0 S0 HB SB .nx) := ps_pass.im fun D σ H ⟨S, ρ, R, g, p⟩ => p σ H S R g
theorem ps_br : PS X (.Break pos) (tS G W H0 S0 HB SB .bk) := ps_break.im fun D σ H ⟨S, ρ, R, g, p⟩ => p σ H S R g
theorem ps_cn : PS X (.Continue pos) (tS G W H0 S0 HB SB .ct) := ps_continue.im fun D σ H ⟨S, ρ, R, g, p⟩ => p σ H S R g
theorem ps_dc {x j pos'} : PS X (.Expr (.Constant (.str x) j pos') pos) (tS G W H0 S0 HB SB .nx) := ps_doc.im fun D σ H ⟨S, ρ, R, g, p⟩ => p σ H S R g
theorem ps_rn : PS X (.Return none pos) (tS G W H0 S0 HB SB fun _ => .rt false .non) := ps_retN.im fun D σ H ⟨S, ρ, R, g, p⟩ => p .non H S g .non
variable {fe : En → Res (Bool × D)} {us : List Nat}
theorem ps_ex (he : PE X e (tD G W H0 fe)) (hs : swapsWith e none pos.line X.env = pure false) : PS X (.Expr e pos) (tS G W H0 S0 HB SB fun ρ => onR (fe (fz us ρ)) (fz us ρ) fun _ => .nx (fz us ρ)) := (ps_expr he hs).im fun D σ H ⟨S, ρ, R, g, p⟩ => by
  obtain ⟨S1, k1, g1, R1⟩ := R.frz g us
  exact ⟨S1, _, R1, onD R1 g1 p fun b d p v H' S' e r => p σ H' S' (R1.gr e) (g1.trans e)⟩
theorem ps_se {i : Nat} {x : Str} {pos' : Pos} (hg : PG X (.Name x pos') (gName i)) (he : PE X e (tD G W H0 fe)) (h : PS X st (tAsg (tD G W H0 fe) (gName i))) : PS X st (tS G W H0 S0 HB SB fun ρ => onR (fe (fz us ρ)) (fz us ρ) fun x => .nx ((fz us ρ).set i (some x))) := h.im fun D σ H ⟨S, ρ, R, g, p⟩ => by
  obtain ⟨S1, k1, g1, R1⟩ := R.frz g us
  exact ⟨S1, _, R1, onD R1 g1 p fun b d p v H' S' e r => p _ H' S' (R1.setO e g1.same i r) (g1.trans e)⟩
theorem ps_st {t : Tg} (h : PS X st (tAsg (tD G W H0 fe) (gOf G.K t))) : PS X st (tS G W H0 S0 HB SB fun ρ => onR (fe (fz us ρ)) (fz us ρ) fun x => (match bindT t x.2 (fz us ρ) with
    | .ok ρ' => .nx ρ'
    | _ => .fail)) := h.im fun D σ H ⟨S, ρ, R, g, p⟩ => by
  obtain ⟨S1, k1, g1, R1⟩ := R.frz g us
  refine ⟨S1, _, R1, onD R1 g1 p fun b d p v H' S' e r => ?_⟩
  obtain ⟨S2, e2, k2, r2⟩ := r.fz e
  dsimp only at p
  cases z : bindT t d (fz us ρ) with
  | ok ρ' =>
    rw [z] at p
    exact gOf_of z r2 (R1.gr e2) fun σ' R' _ => p σ' H' S2 R' (g1.trans e2)
  | exc c => rw [z] at p; exact p.elim
  | fail => rw [z] at p; exact p.elim
theorem ps_re (he : PE X e (tD G W H0 fe)) : PS X (.Return (some e) pos) (tS G W H0 S0 HB SB fun ρ => onR (fe (fz us ρ)) (fz us ρ) fun x => .rt x.1 x.2) := (ps_ret he).im fun D σ H ⟨S, ρ, R, g, p⟩ => by
  obtain ⟨S1, k1, g1, R1⟩ := R.frz g us
  refine ⟨S1, _, R1, onD R1 g1 p fun b d p v H' S' e r => p v H' S' (g1.trans e) ?_⟩
  cases b with
  | false => exact r
  | true =>
    obtain ⟨a, xs, ds, e1, e2, e3, hn, r⟩ := r
    exact ⟨a, xs, ds, e1, e2, e3, g1.same.free hn, r⟩
theorem ps_rv {i : Nat} (he : PE X e (tVar i)) : PS X (.Return (some e) pos) (tS G W H0 S0 HB SB fun ρ => onR (getO ρ i) ρ fun x => .rt x.1 x.2) := (ps_ret he).im fun D σ H ⟨S, ρ, R, g, p⟩ => by
  unfold getO at p
  dsimp only at p
  split at p
  · rename_i x q
    obtain ⟨v, h1, h2⟩ := R.slot i x.1 x.2 q
    exact ⟨v, h1, p v H S g h2⟩
  · exact p.elim
theorem ps_ag {i : Nat} {x : Str} {o : Operator} {pos' : Pos} (he : PE X e (tD G W H0 fe)) (h : PS X (.AugAssign (.Name x pos') o e pos) (tAug i (tD G W H0 fe) (rD G (iopD o)))) :
    PS X (.AugAssign (.Name x pos') o e pos) (tS G W H0 S0 HB SB fun ρ => onR (getO ρ i) ρ fun a => onR (fe (fz us ρ)) (fz us ρ) fun b => onR (iopD o a.2 b.2) ρ fun x => .nx ((fz us ρ).set i (some x))) := h.im fun D σ H ⟨S, ρ, R, g, p⟩ => by
  unfold getO at p
  dsimp only at p
  split at p
  · rename_i y q
    obtain ⟨v, h1, h2⟩ := R.slot i y.1 y.2 q
    obtain ⟨S1, k1, g1, R1⟩ := R.frz g us
    refine ⟨v, h1, S1, _, R1, onD R1 g1 p fun b d p u H' S' e r => ?_⟩
    have pl : ∃ z, iopD o y.2 d = okF z ∧ (∀ S, Loo G H' S y.2 v) := by
      have p' : PostS G W H0 S0 HB SB (onR (iopD o y.2 d) ρ fun x => Fl.nx ((fz us ρ).set i (some x))) D := p
      cases z : iopD o y.2 d with
      | fail => rw [z] at p'; exact p'.elim
      | exc c => exact absurd z iopD_nox
      | ok w =>
        obtain ⟨w1, w2⟩ := iopD_sp z
        have l := h2.loo
        refine ⟨w.2, by obtain ⟨w1', w2'⟩ := w; cases w1; rfl, fun S => ?_⟩
        rcases w2 with ⟨k, e2⟩ | ⟨k, e2⟩
        · rw [e2] at l ⊢
          rw [l.int]
          exact .inl (.int k)
        · rw [e2] at l ⊢
          rw [l.str]
          exact .inl (.str k)
    obtain ⟨z, hz, hl⟩ := pl
    have hp : PostS G W H0 S0 HB SB (.nx ((fz us ρ).set i (some (false, z)))) D := by
      have p' : PostS G W H0 S0 HB SB (onR (iopD o y.2 d) ρ fun x => Fl.nx ((fz us ρ).set i (some x))) D := p
      rw [hz] at p'
      exact p'
    obtain ⟨S2, e2, k2, r2⟩ := r.fz e
    refine ⟨fun _ _ => False, S2, y.2, d, (R1.gr e2).dom, hl S2, .inl r2, ?_⟩
    rw [hz]
    intro u' H3 S3 e3 r3
    exact hp _ H3 S3 (((R1.gr e2).gr e3).setF i r3) ((g1.trans e2).trans e3)
  · exact p.elim
end
end Hf

/-! Hf11: statements' rules, further: lists changed, ifs, loops. -/
namespace Hf
open PySem PySem.Spec PyProof.Rows L2
set_option autoImplicit false
section
variable {G : Gm} {W : WD} {H0 HB : Hp} {S0 SB : Sy} {X : Cx} {st : Stmt} {rest : List Stmt} {e : Expr} {pos : Pos}
variable {fe : En → Res (Bool × D)} {us : List Nat}
theorem getO_some {ρ : En} {i : Nat} {f : Bool × D → Fl} {D : Ends} {ρ' : En} (p : PostS G W H0 S0 HB SB (onR (getO ρ i) ρ' f) D) : ∃ x, ρ[i]? = some (some x) ∧ PostS G W H0 S0 HB SB (f x) D := by
  unfold getO at p
  split at p
  · exact ⟨_, by assumption, p⟩
  · exact p.elim
/-- the list in a slot, changed behind a value -/
theorem ps_ap {i : Nat} (h : PS X st (tDrop (tBM X.K "list" rAppend (tVar i) (tCons (tD G W H0 fe) tNil)))) : PS X st (tS G W H0 S0 HB SB fun ρ => onR (getO (fz us ρ) i) ρ fun a => (match a with
    | (true, .lst ds) => onR (fe (fz us ρ)) (fz us ρ) fun b => if ds.length < sizeLine then .nx ((fz us ρ).set i (some (true, .lst (ds ++ [b.2])))) else .fail
    | _ => .fail)) := h.im fun D σ H ⟨S, ρ, R, g, p⟩ => by
  obtain ⟨S1, k1, g1, R1⟩ := R.frz g us
  obtain ⟨x, hx, p⟩ := getO_some p
  obtain ⟨b, d⟩ := x
  cases b with
  | false => exact p.elim
  | true =>
    cases d with
    | lst ds =>
      have p : PostS G W H0 S0 HB SB (onR (fe (fz us ρ)) (fz us ρ) fun b => if ds.length < sizeLine then .nx ((fz us ρ).set i (some (true, .lst (ds ++ [b.2])))) else .fail) D := p
      obtain ⟨v, hv, a, xs, ds', rfl, ed, ns, h0, ha, hp⟩ := R1.slot i true _ hx
      cases ed
      refine ⟨.ref a, hv, .inl ⟨rfl, _, .inl (.inl ha)⟩, S1, _, R1, onD R1 g1 p fun b d p v H' S' e r => ?_⟩
      obtain ⟨S2, e2, k2, r2⟩ := r.fz e
      have R2 := R1.gr e2
      have g2 := g1.trans e2
      obtain ⟨v', hv', a', xs', ds', ev, ed, ns', h0', ha', hp'⟩ := R2.slot i true _ hx
      rw [hv] at hv'
      cases hv'
      cases ev
      cases ed
      have p : PostS G W H0 S0 HB SB (if ds.length < sizeLine then .nx ((fz us ρ).set i (some (true, .lst (ds ++ [d])))) else .fail) D := p
      by_cases hz : ds.length < sizeLine
      · rw [if_pos hz] at p
        refine ⟨a, xs', v, rfl, rfl, ha', by rw [← Paired.length hp']; exact hz, ?_⟩
        obtain ⟨g3, R3⟩ := R2.mut g2 (es := ds ++ [d]) (ys := xs' ++ [v]) hx hv ha' ns' h0' (hp'.app (.cons r2 .nil))
        exact p σ _ S2 R3 g3
      · rw [if_neg hz] at p; exact p.elim
    | _ => exact p.elim
def rExtD (K : PySem.W.Frag) : V → List V → Hp → VK → Prop := fun x vs H Q => ∃ l b xs zs, x = .ref l ∧ vs = [.ref b] ∧ H l = some (.lst xs) ∧ (SqT K H b zs ∨ SqL K H b zs) ∧ xs.length + zs.length ≤ sizeLine ∧ Q .non (upd H l (.lst (xs ++ zs)))
theorem mt_extD : MtM X "list.extend" (rExtD X.K) := by
  intro pins s σ H x xs v us Q I rx rv h
  obtain ⟨l, b, xs, zs, rfl, rfl, hH, hB | hB, hz, q⟩ := h
  · exact mt_extT pins s σ H _ _ v us Q I rx rv ⟨l, b, xs, zs, rfl, rfl, hH, hB, hz, q⟩
  · exact mt_extL pins s σ H _ _ v us Q I rx rv ⟨l, b, xs, zs, rfl, rfl, hH, hB, hz, q⟩
theorem ps_et {i : Nat} (hK : X.K = G.K) (h : PS X st (tDrop (tBM X.K "list" (rExtD X.K) (tVar i) (tCons (tD G W H0 fe) tNil)))) : PS X st (tS G W H0 S0 HB SB fun ρ => onR (getO (fz us ρ) i) ρ fun a => (match a with
    | (true, .lst ds) => onR (fe (fz us ρ)) (fz us ρ) fun b => (match b.2 with
      | .tup es => if ds.length + es.length ≤ sizeLine then .nx ((fz us ρ).set i (some (true, .lst (ds ++ es)))) else .fail
      | .lst es => if ds.length + es.length ≤ sizeLine then .nx ((fz us ρ).set i (some (true, .lst (ds ++ es)))) else .fail
      | _ => .fail)
    | _ => .fail)) := h.im fun D σ H ⟨S, ρ, R, g, p⟩ => by
  obtain ⟨S1, k1, g1, R1⟩ := R.frz g us
  obtain ⟨x, hx, p⟩ := getO_some p
  obtain ⟨b, d⟩ := x
  cases b with
  | false => exact p.elim
  | true =>
    cases d with
    | lst ds =>
      have p : PostS G W H0 S0 HB SB (onR (fe (fz us ρ)) (fz us ρ) fun b => (match b.2 with
        | .tup es => if ds.length + es.length ≤ sizeLine then .nx ((fz us ρ).set i (some (true, .lst (ds ++ es)))) else .fail
        | .lst es => if ds.length + es.length ≤ sizeLine then .nx ((fz us ρ).set i (some (true, .lst (ds ++ es)))) else .fail
        | _ => .fail)) D := p
      obtain ⟨v, hv, a, xs, ds', rfl, ed, ns, h0, ha, hp⟩ := R1.slot i true _ hx
      cases ed
      refine ⟨.ref a, hv, .inl ⟨rfl, _, .inl (.inl ha)⟩, S1, _, R1, onD R1 g1 p fun b d p v H' S' e r => ?_⟩
      obtain ⟨S2, e2, k2, r2⟩ := r.fz e
      have R2 := R1.gr e2
      have g2 := g1.trans e2
      obtain ⟨v', hv', a', xs', ds', ev, ed, ns', h0', ha', hp'⟩ := R2.slot i true _ hx
      rw [hv] at hv'
      cases hv'
      cases ev
      cases ed
      cases d with
      | tup es =>
        have p : PostS G W H0 S0 HB SB (if ds.length + es.length ≤ sizeLine then .nx ((fz us ρ).set i (some (true, .lst (ds ++ es)))) else .fail) D := p
        by_cases hz : ds.length + es.length ≤ sizeLine
        · rw [if_pos hz] at p
          cases r2 with
          | tup z q =>
            refine ⟨a, _, xs', _, rfl, rfl, ha', .inl (by rw [hK]; exact z.sq), by rw [← Paired.length hp', ← Paired.length q]; exact hz, ?_⟩
            obtain ⟨g3, R3⟩ := R2.mut g2 hx hv ha' ns' h0' (hp'.app q)
            exact p σ _ S2 R3 g3
        · rw [if_neg hz] at p; exact p.elim
      | lst es =>
        have p : PostS G W H0 S0 HB SB (if ds.length + es.length ≤ sizeLine then .nx ((fz us ρ).set i (some (true, .lst (ds ++ es)))) else .fail) D := p
        by_cases hz : ds.length + es.length ≤ sizeLine
        · rw [if_pos hz] at p
          cases r2 with
          | lst z q =>
            refine ⟨a, _, xs', _, rfl, rfl, ha', .inr (by rw [hK]; exact z.sq), by rw [← Paired.length hp', ← Paired.length q]; exact hz, ?_⟩
            obtain ⟨g3, R3⟩ := R2.mut g2 hx hv ha' ns' h0' (hp'.app q)
            exact p σ _ S2 R3 g3
        · rw [if_neg hz] at p; exact p.elim
      | _ => exact p.elim
    | _ => exact p.elim
theorem dropLast_pair {G : Gm} {H : Hp} {S : Sy} {ds : List D} {xs : List V} (h : Paired (Rep G H S) ds xs) : Paired (Rep G H S) ds.dropLast xs.dropLast := h.dl
theorem ps_po {t : Tg} {i : Nat} (h : PS X st (tAsg (tBM0 X.K "list" rPop (tVar i)) (gOf G.K t))) : PS X st (tS G W H0 S0 HB SB fun ρ => onR (getO ρ i) ρ fun a => (match a with
    | (true, .lst ds) => (match ds[ds.length - 1]? with
      | some d => (match bindT t d (ρ.set i (some (true, .lst ds.dropLast))) with
        | .ok ρ' => .nx ρ'
        | _ => .fail)
      | none => .fail)
    | _ => .fail)) := h.im fun D σ H ⟨S, ρ, R, g, p⟩ => by
  obtain ⟨x, hx, p⟩ := getO_some p
  obtain ⟨b, d⟩ := x
  cases b with
  | false => exact p.elim
  | true =>
    cases d with
    | lst ds =>
      have p : PostS G W H0 S0 HB SB (match ds[ds.length - 1]? with
        | some d => (match bindT t d (ρ.set i (some (true, .lst ds.dropLast))) with
          | .ok ρ' => .nx ρ'
          | _ => .fail)
        | none => .fail) D := p
      obtain ⟨v, hv, a, xs, ds', rfl, ed, ns, h0, ha, hp⟩ := R.slot i true _ hx
      cases ed
      cases z : ds[ds.length - 1]? with
      | none => rw [z] at p; exact p.elim
      | some d =>
        rw [z] at p
        obtain ⟨y, hy, ry⟩ := hp.gt z
        refine ⟨.ref a, hv, .inl ⟨rfl, _, .inl (.inl ha)⟩, a, xs, y, rfl, rfl, ha, by rw [← Paired.length hp]; exact hy, ?_⟩
        obtain ⟨g3, R3⟩ := R.mut g hx hv ha ns h0 hp.dl
        have p : PostS G W H0 S0 HB SB (match bindT t d (ρ.set i (some (true, .lst ds.dropLast))) with
          | .ok ρ' => .nx ρ'
          | _ => .fail) D := p
        cases zb : bindT t d (ρ.set i (some (true, .lst ds.dropLast))) with
        | ok ρ' =>
          rw [zb] at p
          exact gOf_of zb (ry.keep (Keep.updN ns)) R3 fun σ' R' _ => p σ' _ S R' g3
        | exc c => rw [zb] at p; exact p.elim
        | fail => rw [zb] at p; exact p.elim
    | _ => exact p.elim
variable {fk : En → Res (Bool × D)}
theorem ps_pu {i : Nat} (h : PS X st (tAsg (tD G W H0 fe) (gSub (tVar i) (tD G W H0 fk) rSetL))) : PS X st (tS G W H0 S0 HB SB fun ρ => onR (getO (fz us ρ) i) ρ fun a => (match a with
    | (true, .lst ds) => onR (fe (fz us ρ)) (fz us ρ) fun b => onR (fk (fz us ρ)) (fz us ρ) fun j => (match j.2 with
      | .int j => (match ixN ds.length j with
        | some n => .nx ((fz us ρ).set i (some (true, .lst (ds.set n b.2))))
        | none => .fail)
      | _ => .fail)
    | _ => .fail)) := h.im fun D σ H ⟨S, ρ, R, g, p⟩ => by
  obtain ⟨S1, k1, g1, R1⟩ := R.frz g us
  obtain ⟨x, hx, p⟩ := getO_some p
  obtain ⟨b, d⟩ := x
  cases b with
  | false => exact p.elim
  | true =>
    cases d with
    | lst ds =>
      have p : PostS G W H0 S0 HB SB (onR (fe (fz us ρ)) (fz us ρ) fun b => onR (fk (fz us ρ)) (fz us ρ) fun j => (match j.2 with
        | .int j => (match ixN ds.length j with
          | some n => .nx ((fz us ρ).set i (some (true, .lst (ds.set n b.2))))
          | none => .fail)
        | _ => .fail)) D := p
      obtain ⟨v, hv, _⟩ := R1.slot i true _ hx
      refine ⟨S1, _, R1, onD R1 g1 p fun b d p u H2 S2 e r => ?_⟩
      obtain ⟨S3, e3, k3, r3⟩ := r.fz e
      have R3 := R1.gr e3
      have g3 := g1.trans e3
      refine ⟨v, hv, S3, _, R3, onD R3 g3 p fun b' d' p w H4 S4 e4 r4 => ?_⟩
      have R4 := R3.gr e4
      have g4 := g3.trans e4
      obtain ⟨v', hv', a, xs, ds', rfl, ed, ns, h0, ha, hp⟩ := R4.slot i true _ hx
      rw [hv] at hv'
      cases hv'
      cases ed
      cases d' with
      | int j =>
        have p : PostS G W H0 S0 HB SB (match ixN ds.length j with
          | some n => .nx ((fz us ρ).set i (some (true, .lst (ds.set n d))))
          | none => .fail) D := p
        have ew := r4.loo.int
        subst ew
        cases z : ixN ds.length j with
        | none => rw [z] at p; exact p.elim
        | some n =>
          rw [z] at p
          refine ⟨a, xs, j, n, rfl, rfl, ha, by rw [← Paired.length hp]; exact z, ?_⟩
          obtain ⟨g5, R5⟩ := R4.mut g4 hx hv ha ns h0 (PySem.Paired.st (e4.rep r3) n hp)
          exact p σ _ S4 R5 g5
      | _ => exact p.elim
    | _ => exact p.elim
/-! ### ifs and loops -/
variable {c : Expr} {a b : List Stmt} {tc : En → Res Bool} {fa fb : En → Fl}
theorem ps_i (hc : PT X c (tT G W H0 tc)) (ha : PSs X a (tS G W H0 S0 HB SB fa)) (hb : PSs X b (tS G W H0 S0 HB SB fb)) : PS X (.If c a b pos) (tS G W H0 S0 HB SB fun ρ => onR (tc (fz us ρ)) (fz us ρ) fun k => if k = true then fa (fz us ρ) else fb (fz us ρ)) := (ps_if hc ha hb).im fun D σ H ⟨S, ρ, R, g, p⟩ => by
  obtain ⟨S1, k1, g1, R1⟩ := R.frz g us
  refine ⟨S1, _, R1, onV R1 g1 p fun k p H' S' e => ?_⟩
  cases k with
  | true => exact ⟨S', _, R1.gr e, g1.trans e, p⟩
  | false => exact ⟨S', _, R1.gr e, g1.trans e, p⟩
theorem ps_w (hp : PassesOwn (model X.prog X.w) X.A X.env X.xe) (hc : PT X c (tT G W H0 tc)) (hb : PSs X b (tS G W H0 S0 HB SB fb)) (n : Nat) : PS X (.While c b [] pos) (tS G W H0 S0 HB SB fun ρ => whN tc (fz us) fb n ρ) := (ps_while hp hc hb).im fun D σ H ⟨S, ρ, R, g, p⟩ => by
  refine ⟨fun m σ H => ∃ S ρ, REnv G H0 H S σ ρ ∧ Bs H0 S0 HB SB H S ∧ PostS G W H0 S0 HB SB (whN tc (fz us) fb m ρ) D, ⟨n, S, ρ, R, g, p⟩, fun m σ H ⟨S, ρ, R, g, p⟩ => ?_⟩
  cases m with
  | zero => exact p.elim
  | succ m =>
    obtain ⟨S1, k1, g1, R1⟩ := R.frz g us
    have p : PostS G W H0 S0 HB SB (onR (tc (fz us ρ)) (fz us ρ) fun k => if k = true then (match fb (fz us ρ) with
      | .nx ρ2 => whN tc (fz us) fb m ρ2
      | .ct ρ2 => whN tc (fz us) fb m ρ2
      | .bk ρ2 => .nx ρ2
      | r => r) else .nx (fz us ρ)) D := p
    refine ⟨S1, _, R1, onV R1 g1 p fun k p H' S' e => ?_⟩
    cases k with
    | false => exact p σ H' S' (R1.gr e) (g1.trans e)
    | true =>
      refine ⟨fun σ' H' => ∃ S ρ, REnv G H0 H' S σ' ρ ∧ Bs H0 S0 HB SB H' S ∧ PostS G W H0 S0 HB SB (whN tc (fz us) fb m ρ) D, fun σ' H' h => ⟨m, Nat.lt_succ_self m, h⟩, S', _, R1.gr e, g1.trans e, ?_⟩
      have p : PostS G W H0 S0 HB SB (match fb (fz us ρ) with
        | .nx ρ2 => whN tc (fz us) fb m ρ2
        | .ct ρ2 => whN tc (fz us) fb m ρ2
        | .bk ρ2 => .nx ρ2
        | r => r) D := p
      cases z : fb (fz us ρ) with
      | nx ρ2 => rw [z] at p; exact fun σ' H' S' R' g' => ⟨S', ρ2, R', g', p⟩
      | ct ρ2 => rw [z] at p; exact fun σ' H' S' R' g' => ⟨S', ρ2, R', g', p⟩
      | bk ρ2 => rw [z] at p; exact p
      | rt o d => rw [z] at p; exact p
      | ex c ρ2 => rw [z] at p; exact p
      | fail => rw [z] at p; exact p
theorem ps_f {t : Tg} {tg iter : Expr} {fi : En → Res (List D)} (hp : PassesOwn (model X.prog X.w) X.A X.env X.xe) (hcm : X.calm = true) (hi : PI X tg iter (tI G W H0 fi)) (hg : PG X tg (gOf G.K t)) (hb : ∀ (HB : Hp) (SB : Sy), PSs X b (tS G W H0 S0 HB SB fb))
    (hs : ∀ x, foldedSetIterable iter X.env x = pure x) : PS X (.For tg iter b [] pos) (tS G W H0 S0 HB SB fun ρ => onR (fi (fz us ρ)) (fz us ρ) fun ds => forN t fb ds (fz us ρ)) := by
  refine ⟨fun pins sh σ H D I h => (ps_for hp hcm hi hg (tb := fun D σ H => ∃ HB SB, tS G W H0 S0 HB SB fb D σ H) ⟨fun pins s σ H D I ⟨HB, SB, h⟩ => (hb HB SB).run pins s σ H D I h⟩ hs).run pins sh σ H D I ?_⟩
  obtain ⟨S, ρ, R, g, p⟩ := h
  obtain ⟨S1, k1, g1, R1⟩ := R.frz g us
  refine ⟨S1, _, R1, onI R1 g1 p fun ds p J H2 S2 e2 wk => ?_⟩
  have R2 := R1.gr e2
  have g2 := g1.trans e2
  generalize fz us ρ = ρ0 at *
  refine ⟨fun i m σ' H' => m = ds.length - i ∧ i ≤ ds.length ∧ ∃ S' ρ', REnv G H0 H' S' σ' ρ' ∧ Bs H0 S0 H2 S2 H' S' ∧ PostS G W H0 S0 HB SB (forN t fb (ds.drop i) ρ') D, ⟨_, rfl, Nat.zero_le _, S2, ρ0, R2, ⟨g2.g, fun _ s => ⟨s, fun _ h => h⟩⟩, p⟩, ?_⟩
  rintro i m σ' H' ⟨rfl, hle, S', ρ', R', g', p⟩
  have kp := g'.k
  have up : ∀ {H S}, Bs H0 S0 H2 S2 H S → Bs H0 S0 HB SB H S := fun b => ⟨b.g, g2.k.trans b.k⟩
  by_cases hlt : i < ds.length
  · have ed : ds.drop i = ds[i] :: ds.drop (i + 1) := List.drop_eq_getElem_cons hlt
    have gt : ds[i]? = some ds[i] := List.getElem?_eq_getElem hlt
    refine .inr ⟨wk.go i H' S' kp hlt, fun σ'' H'' => ∃ S'' ρ'', REnv G H0 H'' S'' σ'' ρ'' ∧ Bs H0 S0 H2 S2 H'' S'' ∧ PostS G W H0 S0 HB SB (forN t fb (ds.drop (i + 1)) ρ'') D, fun σ'' H'' h => ⟨ds.length - (i + 1), by omega, rfl, hlt, h⟩, fun x Hx y => ?_⟩
    obtain ⟨rfl, rx⟩ := wk.yld i H' S' x Hx kp y _ gt
    rw [ed] at p
    generalize ds[i] = d at *
    have p : PostS G W H0 S0 HB SB (match bindT t d ρ' with
      | .ok ρ1 => (match fb ρ1 with
        | .nx ρ2 => forN t fb (ds.drop (i + 1)) ρ2
        | .ct ρ2 => forN t fb (ds.drop (i + 1)) ρ2
        | .bk ρ2 => .nx ρ2
        | r => r)
      | _ => .fail) D := p
    cases zb : bindT t d ρ' with
    | fail => rw [zb] at p; exact p.elim
    | exc c => rw [zb] at p; exact p.elim
    | ok ρ1 =>
      rw [zb] at p
      refine gOf_of zb rx R' fun σ2 R3 _ => ⟨H2, S2, S', ρ1, R3, g', ?_⟩
      have p : PostS G W H0 S0 HB SB (match fb ρ1 with
        | .nx ρ2 => forN t fb (ds.drop (i + 1)) ρ2
        | .ct ρ2 => forN t fb (ds.drop (i + 1)) ρ2
        | .bk ρ2 => .nx ρ2
        | r => r) D := p
      cases z : fb ρ1 with
      | nx ρ2 => rw [z] at p; exact fun σ'' H'' S'' R'' g'' => ⟨S'', ρ2, R'', g'', p⟩
      | ct ρ2 => rw [z] at p; exact fun σ'' H'' S'' R'' g'' => ⟨S'', ρ2, R'', g'', p⟩
      | bk ρ2 => rw [z] at p; exact fun σ'' H'' S'' R'' g'' => p σ'' H'' S'' R'' (up g'')
      | rt o d => rw [z] at p; exact fun v H'' S'' g'' r => p v H'' S'' (up g'') r
      | ex c ρ2 => rw [z] at p; exact fun σ'' H'' S'' R'' g'' => p σ'' H'' S'' R'' (up g'')
      | fail => rw [z] at p; exact p
  · have e : i = ds.length := by omega
    subst e
    rw [List.drop_length] at p
    exact .inl ⟨wk.stop H' S' kp, p σ' H' S' R' (up g')⟩
theorem ps_ra {G : Gm} {W : WD} {H0 HB : Hp} {S0 SB : Sy} {x m : Str} {j : Nat} {p p2 pos cpos : Pos} {C : Addr} (hK : X.K = G.K) (hmg : X.mg = G.mg) (hc : X.calm = true) (tk : Takes X (wOf G W)) (hm : G.mg x = some (.ref C)) (q : ExcK G.K C) (hg : Gl X x) (hdb : (x == ("__debug__" : Str)) = false) :
    PS X (.Raise (some (.Call (.Name x p) [.Constant (.str m) j p2] [] cpos)) none pos) (tS G W H0 S0 HB SB fun ρ => .ex x ρ) :=
  (ps_raise hc tk (pmk_own PySem.F.excBase_ValueError (by rw [hK]; exact q.ex) (by rw [hmg]; exact hm) (by rw [hK]; exact q.kp) (raises_own (by rw [hK]; exact q.sb) (by rw [hK]; exact q.ty)) hg hdb)).im fun D σ H ⟨S, ρ, R, g, h⟩ => ⟨x, C, rfl, hm, rfl, h σ H S R g⟩
end
end Hf

/-! Hf12: the text's statements as the small language's; they do what it says. -/
namespace Hf
open PySem PySem.Spec PyProof.Rows L2
set_option autoImplicit false

def notComp : Expr → Bool
  | .ListComp .. => false
  | .SetComp .. => false
  | .DictComp .. => false
  | _ => true
def notTup : Expr → Bool
  | .Tuple .. => false
  | .List .. => false
  | _ => true
/-- a comprehension's list goes into the name at once -/
def swB (c : Cc) (y : Str) (py : Pos) (scope : Scope) (pos : Pos) : Bool := decide (kindC c y = some .local) && py.line == pos.line && !(scope.names.any fun (n, k) => n == y && (k == .local || k == .cell))
def cSs (f : Stmt → Option St) : List Stmt → Option Sts
  | [] => some .nil
  | s :: ss => match f s, cSs f ss with
    | some p, some ps => some (.cons p ps)
    | _, _ => none
def cS : Nat → Cc → Stmt → Option St
  | 0, _, _ => none
  | n + 1, c, s => match s with
    | .Pass _ => some .pass
    | .Break _ => some .brk
    | .Continue _ => some .cnt
    | .Return none _ => some .retN
    | .Return (some e) _ => (cE n c e).map .ret
    | .Expr (.Constant (.str _) _ _) _ => some .pass
    | .Expr (.Call (.Attribute (.Name x _) m apos) [e] [] cpos) _ => (match slotOf c x, isStar e, cE n c e, apos.endLine == cpos.line with
      | some i, false, some p, true => if m = ("append" : Str) then some (.app i p) else if m = ("extend" : Str) then some (.ext i p) else none
      | _, _, _, _ => none)
    | .Expr e _ => (match notComp e, cE n c e with
      | true, some p => some (.expr p)
      | _, _ => none)
    | .Assign [t] (.Call (.Attribute (.Name y _) m apos) [] [] cpos) _ => (match slotOf c y, cTg c t, apos.endLine == cpos.line with
      | some j, some t, true => if m = ("pop" : Str) then some (.pop t j) else none
      | _, _, _ => none)
    | .Assign [.Name x px] (.ListComp elt gs scope cpos) _ => (match stOf c x, cE n c (.ListComp elt gs scope cpos) with
      | some i, some p => some (.set i p)
      | _, _ => none)
    | .Assign [.Name x _] e _ => (match stOf c x, notComp e, cE n c e with
      | some i, true, some p => some (.set i p)
      | _, _, _ => none)
    | .Assign [.Tuple es k tp] e _ => (match cTg c (.Tuple es k tp), notComp e, notTup e, cE n c e with
      | some t, true, true, some p => some (.sets t p)
      | _, _, _, _ => none)
    | .Assign [.Subscript (.Name x _) k _] e _ => (match slotOf c x, isSlice k, notComp e, cE n c k, cE n c e with
      | some i, false, true, some q, some p => some (.put i q p)
      | _, _, _, _, _ => none)
    | .AugAssign (.Name x _) o e _ => (match stOf c x, cE n c e with
      | some i, some p => some (.aug i o p)
      | _, _ => none)
    | .If t a b _ => (match cT n c t, cSs (cS n c) a, cSs (cS n c) b with
      | some t, some p, some q => some (.ifs t p q)
      | _, _, _ => none)
    | .While t a [] _ => (match cT n c t, cSs (cS n c) a with
      | some t, some p => some (.whl t p)
      | _, _ => none)
    | .For tg it a [] _ => (match c.hot, cTg c tg, cI n c it, cSs (cS n c) a with
      | false, some t, some i, some p => some (.for_ t i p)
      | _, _, _, _ => none)
    | .Try body [.ExceptHandler (some (.Name cl _)) (some nm) [.Return (some (.Tuple [.Constant (.bool false) _ _, .Call (.Name f _) [.Name nm2 _] [] _] _ _)) _] _] [] [] _ => (match c.hot, cSs (cS n c) body, idxN c.N nm with
      | false, some b, some i => if nm2 = nm ∧ (isGl c cl = true ∧ cl ∈ c.mo.es) ∧ isGl c f = true ∧ okNm nm = true ∧ kindC c nm = some .local then some (.tryW b cl i f) else none
      | _, _, _ => none)
    | .Raise (some (.Call (.Name x _) [.Constant (.str _) _ _] [] _)) none _ => if isGl c x = true ∧ x ∈ c.mo.es ∧ c.hot = false then some (.raise x) else none
    | _ => none

/-- what the def f says of the error that is handled, its class c -/
def HotF (P : Program) (w : World) (G : Gm) (base : Heap) (n : Nat) (f c : Str) (d : D) : Prop :=
  ∃ (fa : Addr) (fd : FuncData) (ps : List Str) (z : Str), d = .str z ∧ G.mg f = some (.ref fa) ∧ PySem.W.keepIn G.K (.ref fa) = true ∧ Binds G.K fd ps [] ∧ ps.length = 1 ∧
    ∀ (A : Around) (outer : List Env) (s : Shared) (H : Hp) (args : Args) (us : List Value) (q : Addr × Obj) (C : Addr) (Q : VK), L2H.RoomH n A → L2H.PinOk outer H s q → Env0 P w G.K G.mg base A outer s H → BindsTo s fd args (ps.zip us) → Vals [.ref q.1] us →
      G.mg c = some (.ref C) → Zc (.ref C) none q.2 → (∃ vs, q.2.data = .fields vs) → (∃ S, Dm H S ∧ ∀ H' S', Gr H S H' S' → Q (.str z) H') → codeAny (model P w) A (.call (.ref fa) args) (CR (L2.CX P w) outer P w H s Q fun _ _ _ => False) s
structure StaS (P : Program) (w : World) (G : Gm) (base : Heap) (T : Tb) (n : Nat) (c : Cc) (W : WD) (X : Cx) : Prop extends Sta P w G base T n c W X where
  top : c.top = true
  kd : X.env.scope.kind = .function
  hp : PassesOwn (model X.prog X.w) X.A X.env X.xe
  stk : X.stack = X.env :: X.outer
  frm : X.env.frame = some X.env.locals
  hots : c.hot = false → ∀ f k d, T.hot f k = some d → HotF P w G base n f k d
section
variable {P : Program} {w : World} {G : Gm} {base : Heap} {T : Tb} {m : Nat} {c : Cc} {W : WD} {X : Cx} {H0 : Hp}
theorem comp_no {e : Expr} (h : notComp e = true) (t : Option Expr) (l : Nat) (env : Env) : swapsWith e t l env = pure false := by
  cases e <;> first | rfl | cases h
theorem tup_no {e : Expr} (h : notTup e = true) (ts : List Expr) (k : Nat) (p : Pos) (env : Env) : swappedStores [.Tuple ts k p] e env = pure none := by
  cases e <;> first | rfl | cases h
theorem sub_no (e : Expr) (o i : Expr) (p : Pos) (env : Env) : swappedStores [.Subscript o i p] e env = pure none := by
  cases e <;> rfl
theorem sw_gen {elt : Expr} {gs : List Comprehension} {scope : Scope} {pos py : Pos} {y : Str} {l : Nat} {env : Env} : swapsWith (.ListComp elt gs scope pos) (some (.Name y py)) l env = pure (env.blockKind == .function && env.kindOf y == some .local && py.line == pos.line && !(scope.names.any fun (n, k) => n == y && (k == .local || k == .cell))) := rfl
theorem Sta.st (s : Sta P w G base T m c W X) (ht : c.top = true) {x : Str} {i : Nat} (h : stOf c x = some i) : X.N[i]? = some x ∧ Loc X.env.scope x ∧ (X.fn x = true ∨ X.env.scope.names.lookup x = some .local) := by
  unfold stOf at h
  have kk : ∀ k, kindC c x = some k → X.env.scope.names.lookup x = some k := fun k q => by rw [s.sc]; exact q
  have go : ∀ (q : idxN c.N x = some i), X.N[i]? = some x := fun q => by rw [s.N]; exact idxN_ok q
  cases kd : kindC c x with
  | none => rw [kd] at h; cases h
  | some k =>
    rw [kd] at h
    cases k with
    | «local» => exact ⟨go h, .inl (kk _ kd), .inr (kk _ kd)⟩
    | cell =>
      rw [ht] at h
      exact ⟨go h, .inr (kk _ kd), .inl (s.fn ht x)⟩
    | free => cases h
    | globalExplicit => cases h
    | globalImplicit => cases h
theorem comp_inv {n : Nat} {elt : Expr} {gs : List Comprehension} {scope : Scope} {cpos : Pos} {p : Ex} (h : cE (n + 1) c (.ListComp elt gs scope cpos) = some p) : ∃ tg iter ifs t it k q, gs = [⟨tg, iter, ifs, 0⟩] ∧
    (blkC c.N c.sc scope (ownOf c.N scope) && !c.hot) = true ∧ cTg { c with sc := relS scope c.sc, top := false } tg = some t ∧ cI n c iter = some it ∧
    (match ifs with | [] => some Tes.nil | [t] => (cT n { c with sc := relS scope c.sc, top := false } t).map Tes.one | _ => none) = some k ∧ cE n { c with sc := relS scope c.sc, top := false } elt = some q ∧
    t.sl.all (fun i => decide (i ∈ (ownOf c.N scope).map (·.2))) = true ∧ p = .comp t ((ownOf c.N scope).map (·.2)) it k q := by
  unfold cE at h
  split at h
  all_goals first
    | (rename_i heq; cases heq; done)
    | (rename_i heq _; cases heq; done)
    | (cases h; done)
    | skip
  rename_i elt' tg iter ifs scope' pos' heq
  cases heq
  dsimp only at h
  split at h
  · rename_i q1 q2 q3 q4 q5
    split at h
    · rename_i q6
      cases h
      exact ⟨tg, iter, ifs, _, _, _, _, rfl, q1, q2, q3, q4, q5, q6, rfl⟩
    · cases h
  · cases h
/-- name = e, e no comprehension -/
theorem set_plain (s : StaS P w G base T m c W X) {x : Str} {i : Nat} {px pos : Pos} {e : Expr} {te : TE} (h : stOf c x = some i) (he : PE X e te) (hs : swapsWith e (some (.Name x px)) pos.line X.env = pure false) : PS X (.Assign [.Name x px] e pos) (tAsg te (gName i)) := by
  obtain ⟨h1, h2, h3⟩ := s.toSta.st s.top h
  exact ps_set s.nd h1 h2 he hs h3
/-- name = [..] -/
theorem set_comp {n : Nat} (s : StaS P w G base T m c W X) {x : Str} {i : Nat} {px pos cpos : Pos} {elt : Expr} {gs : List Comprehension} {scope : Scope} {p : Ex} (h : stOf c x = some i) (hp : cE n c (.ListComp elt gs scope cpos) = some p) :
    PS X (.Assign [.Name x px] (.ListComp elt gs scope cpos) pos) (tAsg (tD G W H0 (ev T p)) (gName i)) := by
  have hk : X.env.kindOf x = kindC c x := by
    show X.env.scope.names.lookup x = c.sc.names.lookup x
    rw [s.sc]
  have hb : X.env.blockKind = .function := by unfold Env.blockKind; rw [s.kd]; rfl
  cases n with
  | zero => cases hp
  | succ n =>
    obtain ⟨ihE, ihT, ihI⟩ := @ok_all P w G base T m H0 n
    have hE := (@ok_all P w G base T m H0 (n + 1)).1 c _ p hp W X s.toSta
    cases z : swB c x px scope cpos with
    | false =>
      refine set_plain s h hE.1 ?_
      rw [sw_gen, hb, hk]
      have : (ScopeKind.function == ScopeKind.function && kindC c x == some NameKind.local && px.line == cpos.line && !(scope.names.any fun (n, k) => n == x && (k == .local || k == .cell))) = swB c x px scope cpos := by
        unfold swB
        rw [show (ScopeKind.function == ScopeKind.function) = true from rfl, Bool.true_and, show (kindC c x == some NameKind.local) = decide (kindC c x = some NameKind.local) from by rw [Bool.eq_iff_iff]; simp]
      rw [this, z]
    | true =>
      unfold swB at z
      simp only [Bool.and_eq_true, decide_eq_true_eq, Bool.not_eq_true'] at z
      obtain ⟨⟨z1, z2⟩, z3⟩ := z
      have hloc : X.env.scope.names.lookup x = some .local := by rw [s.sc]; exact z1
      obtain ⟨h1, _, _⟩ := s.toSta.st s.top h
      obtain ⟨tg, iter, ifs, t, it, k, q, rfl, q1, q2, q3, q4, q5, q6, rfl⟩ := comp_inv hp
      obtain ⟨k1, k2, k3, k4, k5, k6⟩ := co_ok (H0 := H0) ihE ihT ihI s.toSta (pos := ⟨0, 0, 0, 0⟩) q1 q2 q3 q4 q5 q6 (cI_set q3)
      have hsw : swapsWith (.ListComp elt [⟨tg, iter, ifs, 0⟩] scope cpos) (some (.Name x px)) pos.line X.env = pure true := sw_true s.kd hloc z2 z3
      exact (ps_setLc (s.calm (by have := (Bool.and_eq_true_iff.mp q1).2; simpa using this)) s.nd h1 hloc hsw k2 k3 k4 k5 k6 (sw_no (cI_set q3) X.env)).im fun D σ H q => k1 σ H _ q
end
end Hf

/-! Hf13: the induction over the text's statements. -/
namespace Hf
open PySem PySem.Spec PyProof.Rows L2
set_option autoImplicit false
section
variable (P : Program) (w : World) (G : Gm) (base : Heap) (T : Tb) (m : Nat) (H0 : Hp) (S0 : Sy) (wf : Nat)
def OkS (n : Nat) : Prop := ∀ (c : Cc) (s : Stmt) (p : St), cS n c s = some p → ∀ (W : WD) (X : Cx) (HB : Hp) (SB : Sy), StaS P w G base T m c W X → PS X s (tS G W H0 S0 HB SB (ex T wf p))
end
section
variable {P : Program} {w : World} {G : Gm} {base : Heap} {T : Tb} {m : Nat} {H0 HB : Hp} {S0 SB : Sy} {wf : Nat} {c : Cc} {W : WD} {X : Cx}
theorem cSs_ok {n : Nat} (ih : OkS P w G base T m H0 S0 wf n) (s : StaS P w G base T m c W X) : ∀ (ss : List Stmt) (ps : Sts) (HB : Hp) (SB : Sy), cSs (cS n c) ss = some ps → PSs X ss (tS G W H0 S0 HB SB (exs T wf ps))
  | [], ps, HB, SB, h => by cases h; exact pss_ni
  | a :: ss, ps, HB, SB, h => by
    have h' : (match cS n c a, cSs (cS n c) ss with | some p, some ps => some (Sts.cons p ps) | _, _ => none) = some ps := h
    cases q2 : cS n c a with
    | none => rw [q2] at h'; cases h'
    | some p =>
      cases q3 : cSs (cS n c) ss with
      | none => rw [q2, q3] at h'; cases h'
      | some r =>
        rw [q2, q3] at h'
        cases h'
        exact pss_co (ih c a p q2 W X HB SB s) (cSs_ok ih s ss r HB SB q3)
theorem okE (n : Nat) : OkE P w G base T m H0 n := (ok_all n).1
theorem okT (n : Nat) : OkT P w G base T m H0 n := (ok_all n).2.1
theorem okI (n : Nat) : OkI P w G base T m H0 n := (ok_all n).2.2
theorem few_of {cpos : Pos} {e : Expr} {env : Env} (h : isStar e = false) : ((backTo cpos (starEach [e] env)).all (fun x => !x.1) && (backToKw cpos (keywordEach [] env)).all (fun x => x.1.isSome)
      && decide ([e].length + ([] : List Keyword).length + (if ([] : List Keyword).isEmpty then 0 else 1) < 30)) = true := by
  rw [star_of h [] env]
  rfl
theorem tsEq {f g : En → Fl} (e : f = g) {st : Stmt} (h : PS X st (tS G W H0 S0 HB SB f)) : PS X st (tS G W H0 S0 HB SB g) := e ▸ h
theorem ret_eq {p : Ex} (hp : ∀ i, p ≠ .var i) : (fun ρ => onR (ev T p (fz (us p) ρ)) (fz (us p) ρ) fun x => Fl.rt x.1 x.2) = ex T wf (.ret p) := by
  funext ρ
  cases p with
  | var i => exact absurd rfl (hp i)
  | _ => rfl
theorem comp_noS {e : Expr} (h : notComp e = true) (t : Expr) (l : Nat) (env : Env) : swapsWithSole [t] e l env = pure false := comp_no h _ _ _
theorem cBo_var (and : Bool) (f : Expr → Option Ex) (e1 e2 : Expr) (es : List Expr) (i : Nat) : cBo and f (e1 :: e2 :: es) ≠ some (.var i) := fun h => by
  have h' : (match f e1, cBo and f (e2 :: es) with | some p, some q => some (if and = true then Ex.and p q else .or p q) | _, _ => none) = some (.var i) := h
  split at h'
  · cases and <;> cases h'
  · cases h'
theorem var_of {n : Nat} (s : Sta P w G base T m c W X) {e : Expr} {i : Nat} (h : cE n c e = some (.var i)) : PE X e (tVar i) := by
  cases n with
  | zero => cases h
  | succ n =>
    unfold cE at h
    split at h
    all_goals first
      | (cases h; done)
      | (split at h <;> cases h; done)
      | (obtain ⟨_, _, e⟩ := Option.map_eq_some_iff.mp h; cases e; done)
      | (exact absurd h (cBo_var _ _ _ _ _ _))
      | skip
    · split at h
      · rename_i j q
        cases h
        exact s.var q
      · split at h <;> cases h
    · split at h
      · split at h
        · split at h <;> cases h
        · cases h
      · split at h
        · split at h
          · obtain ⟨_, _, e⟩ := Option.map_eq_some_iff.mp h; cases e
          · cases h
        · split at h
          · split at h
            · split at h <;> cases h
            · split at h
              · split at h <;> cases h
              · cases h
            · cases h
          · split at h
            · split at h <;> cases h
            · cases h
    · split at h
      · split at h <;> cases h
      · cases h
    · dsimp only at h
      split at h
      · split at h <;> cases h
      · cases h
theorem pop_sw {t : Expr} {t' : Tg} (h : cTg c t = some t') {o : Expr} {m : Str} {apos cpos : Pos} {env : Env} : swappedStores [t] (.Call (.Attribute o m apos) [] [] cpos) env = pure none := by
  cases t <;> first | rfl | cases h
theorem tg_each {t : Expr} {t' : Tg} (h : cTg c t = some t') {env : Env} : (assignEach [t] env).map (·.2) = [assign t env] := by
  cases t <;> first | rfl | cases h
theorem sub_asg {o i : Expr} {pos : Pos} {env : Env} (h : isSlice i = false) : ∀ v, assign (.Subscript o i pos) env v = (do
      let ov ← holding [v] (eval o env)
      let iv ← holding [v, ov] (eval i env)
      standAt pos
      holding [v, ov, iv] (setItem ov iv v)
      release [v, ov, iv] []) := by
  intro v
  cases i with
  | Slice _ _ _ _ => cases h
  | _ => rfl
/-- what a try's body does, whatever is wished of its errors -/
def tTb (G : Gm) (H0 : Hp) (S0 : Sy) (HB : Hp) (SB : Sy) (f : En → Fl) (W' : WX) : TS := fun D σ H => ∃ W2 : WD, (∀ cls d σ H, wOf G W2 cls d σ H → W' cls d σ H) ∧ tS G W2 H0 S0 HB SB f D σ H
/-- what the suite does -/
def tSu (T : Tb) (G : Gm) (f : Str) (i : Nat) (a : Addr) (cls : Value) (d : Option Addr) : TS := fun D σ H => ∃ (k : Str) (C : Addr) (z : Str) (S : Sy), cls = .ref C ∧ d = none ∧ G.mg k = some (.ref C) ∧ T.hot f k = some (.str z) ∧ Dm H S ∧ σ[i]? = some (some (.ref a)) ∧
  ∀ v H' S', Gr H S H' S' → Rep G H' S' (.tup [.bl false, .str z]) v → D.rt v H'
theorem StaS.tr (st : StaS P w G base T m c W X) (hh : c.hot = false) {W2 : WD} {W' : WX} {pn : List (Addr × Obj)} {xe : Value → Shared → Prop} (tk : Takes (X.tr pn xe) W') (sub : ∀ cls d σ H, wOf G W2 cls d σ H → W' cls d σ H) (hp : PassesOwn (model X.prog X.w) X.A X.env xe) :
    StaS P w G base T m c W2 (X.tr pn xe) :=
  { eP := st.eP, ew := st.ew, K := st.K, mg := st.mg, gw := st.gw, eb := st.eb, N := st.N, sc := st.sc, nd := st.nd, calm := st.calm, fn := st.fn, room := st.room, un := st.un, tk := tk.imp sub, fns := st.fns, fnv := st.fnv, hx0 := st.hx0,
    hxs := fun a c h => by rw [st.hx0 hh] at h; cases h
    tgl := st.tgl, tki := st.tki, tsb := st.tsb, mo := st.mo, top := st.top, kd := st.kd, hp := hp, stk := st.stk, frm := st.frm, hots := st.hots }
theorem pe_hot (st : StaS P w G base T m c W X) (hh : c.hot = false) {f nm : Str} {i : Nat} {q p2 pos : Pos} {a : Addr} {oe : Obj} {cls : Value} {d : Option Addr} {pn : List (Addr × Obj)} (hz : Zc cls d oe) (hf : ∃ vs, oe.data = .fields vs) (hg : isGl c f = true) (hi : idxN c.N nm = some i) (ok : okNm nm = true) (hk : kindC c nm = some .local) :
    PE (X.suite a ((a, oe) :: pn)) (.Call (.Name f q) [.Name nm p2] [] pos) (fun σ H Q => ∃ (k : Str) (C : Addr) (z : Str) (S : Sy), cls = .ref C ∧ d = none ∧ G.mg k = some (.ref C) ∧ T.hot f k = some (.str z) ∧ Dm H S ∧ σ[i]? = some (some (.ref a)) ∧ ∀ H' S', Gr H S H' S' → Q (.str z) H') := by
  obtain ⟨g1, g2, _⟩ := st.toSta.gl hg
  obtain ⟨d1, d2, _⟩ := okNm_ok ok
  have hN : X.N[i]? = some nm := by rw [st.N]; exact idxN_ok hi
  have hv : Vis X.env.scope nm := .inl (by rw [st.sc]; exact hk)
  refine ⟨fun pins s σ H Q I ⟨k, C, z, S, e1, e2, m1, hT, dm, hs, hq⟩ => ?_⟩
  subst e1 e2
  obtain ⟨fa, fd, ps, z', ez, m2, kp, hb, hl, hrun⟩ := st.hots hh f k _ hT
  cases ez
  have hm : (X.suite a ((a, oe) :: pn)).mg f = some (.ref fa) := by show X.mg f = _; rw [st.mg]; exact m2
  have g1' : Gl (X.suite a ((a, oe) :: pn)) f := g1
  refine wpAny_Call_Name_kw (ld_glob I g1' hm ?_ g2)
  have ha : PA (X.suite a ((a, oe) :: pn)) [.Name nm p2] (tCons (tVar i) tNil) := pa_cons (pe_var hN hv d1 d2) pa_nil rfl
  refine PySem.W.callWith_K (h₀ := X.base) I.ok.mod.kin (by show PySem.W.keepIn X.K _ = true; rw [st.K]; exact kp) (thn (ha.run pos pins s σ H (fun vs H1 => vs = [V.ref a] ∧ H1 = H) I ⟨.ref a, hs, rfl, rfl⟩) fun us s1 ⟨vs, H1, I1, r, q1⟩ => ⟨I1.kIn, ?_⟩) rfl rfl
  obtain ⟨e5, e6⟩ := q1
  subst e5
  rw [e6] at I1
  have P1 := I1.pin (a, oe) (List.mem_append_left _ List.mem_cons_self)
  have hpin : L2H.PinOk (X.suite a ((a, oe) :: pn)).stack H s1 (a, oe) := ⟨P1.1, P1.2.1, fun hm => (List.mem_cons.mp (I1.stkSub a hm)).elim P1.2.2.1 P1.2.2.2.1, P1.2.2.2.2⟩
  have hr : L2H.RoomH m (X.suite a ((a, oe) :: pn)).A := ⟨(st.room hh).dp, (st.room hh).un⟩
  have hlu : us.length = ps.length := by rw [← r.length, hl]; rfl
  have b := hb s1 us (by have := I1.kIn; rw [← st.K]; exact this) (by rw [List.append_nil]; exact hlu)
  rw [List.append_nil] at b
  have e0 : Env0 P w G.K G.mg base (X.suite a ((a, oe) :: pn)).A (X.suite a ((a, oe) :: pn)).stack s1 H := by
    have := I1.env0
    rw [← st.eP, ← st.ew, ← st.K, ← st.mg, ← st.eb]
    exact this
  have key := hrun _ _ s1 H ⟨us, []⟩ us (a, oe) C Q hr hpin e0 b r m1 hz hf ⟨S, dm, hq⟩
  rw [← st.eP, ← st.ew] at key
  refine wpAny_call (codeAny_mono key fun r s' hq => ?_)
  cases r with
  | error e =>
    obtain ⟨_, _, _, _, _, _, _, _, _, _, _, _, z⟩ := hq
    exact z.elim
  | ok fl =>
    cases fl with
    | ret u => exact I1.after hq
    | next => exact False.elim hq
    | brk => exact False.elim hq
    | cont => exact False.elim hq
theorem suite_ok (st : StaS P w G base T m c W X) (hh : c.hot = false) {f nm : Str} {i j k : Nat} {q p1 p2 p3 p4 pos : Pos} {a : Addr} {oe : Obj} {cls : Value} {d : Option Addr} {pn : List (Addr × Obj)} (hz : Zc cls d oe) (hf : ∃ vs, oe.data = .fields vs) (hg : isGl c f = true) (hi : idxN c.N nm = some i) (ok : okNm nm = true) (hk : kindC c nm = some .local) :
    PSs (X.suite a ((a, oe) :: pn)) [.Return (some (.Tuple [.Constant (.bool false) j p1, .Call (.Name f q) [.Name nm p2] [] p3] k p4)) pos] (tSu T G f i a cls d) := by
  have hE := pe_tup (x1 := k) (pos := p4) (pa_cons (pe_bl (b := false) (j := j) (pos := p1)) (pa_cons (pe_hot (q := q) (p2 := p2) (pos := p3) st hh hz hf hg hi ok hk (a := a) (pn := pn)) pa_nil rfl) rfl)
  refine (pss_one (ps_ret hE)).im fun D σ H ⟨k, C, z, S, e1, e2, m1, hT, dm, hs, hq⟩ => ?_
  refine ⟨k, C, z, S, e1, e2, m1, hT, dm, hs, fun H' S' g => ?_⟩
  refine ⟨by rw [sizeLine_eq]; show 2 ≤ 16777216; decide, fun p hp => ?_⟩
  exact hq _ _ _ (g.trans (Gr.laidF hp)) (.tup (.inl ⟨.inr rfl, .inl upd_same⟩) (.cons (.bl false) (.cons (.str z) .nil)))
theorem try_ok {n : Nat} (ih : OkS P w G base T m H0 S0 wf n) (st : StaS P w G base T m c W X) (hh : c.hot = false) {body : List Stmt} {b : Sts} {cl f nm : Str} {i j k : Nat} {np q p1 p2 p3 p4 p5 p6 pos : Pos} (hb : cSs (cS n c) body = some b) (hi : idxN c.N nm = some i)
    (hcl : isGl c cl = true) (hces : cl ∈ c.mo.es) (hg : isGl c f = true) (ok : okNm nm = true) (hk : kindC c nm = some .local) :
    PS X (.Try body [.ExceptHandler (some (.Name cl np)) (some nm) [.Return (some (.Tuple [.Constant (.bool false) j p1, .Call (.Name f q) [.Name nm p2] [] p3] k p4)) p5] p6] [] [] pos) (tS G W H0 S0 HB SB (ex T wf (.tryW b cl i f))) := by
  obtain ⟨g1, g2, _⟩ := st.toSta.gl hcl
  have hN : X.N[i]? = some nm := by rw [st.N]; exact idxN_ok hi
  have hln : X.env.kindOf nm = some .local := by
    show X.env.scope.names.lookup nm = _
    rw [st.sc]
    exact hk
  -- the body's errors: which class the clause names
  obtain ⟨D, hD, _⟩ := st.mo.exs cl hces
  · skip
    have hmc : Names X cl (.ref D) := ⟨g1, g2, .inl (by rw [st.mg]; exact hD)⟩
    refine (ps_try_as (tb := fun W' => tTb G H0 S0 HB SB (exs T wf b) W') (ts := fun a cls d => tSu T G f i a cls d) st.stk st.frm st.nd hN hln hmc st.tk (fun W' pn xe tk hp => ⟨fun pins s σ H D I ⟨W2, sub, h⟩ => (cSs_ok ih (st.tr hh tk sub hp) body b HB SB hb).run pins s σ H D I h⟩)
      (fun a oe cls d pn hz hf => suite_ok st hh hz hf hg hi ok hk)).im fun De σ H ⟨S, ρ, R, g, p⟩ => ?_
    refine ⟨fun c' σ' H' => ∀ C, G.mg c' = some (.ref C) → wAs X.K (.ref D) i (fun a cls d => tSu T G f i a cls d) (wOf G W) De (.ref C) none σ' H', fun cls d σ' H' ⟨c', C, e1, e2, e3, hw⟩ => by subst e1 e3; exact hw C e2, S, ρ, R, g, ?_⟩
    have p : PostS G W H0 S0 HB SB (match exs T wf b ρ with | .ex c ρ' => (match T.sub c cl with | some true => if i < ρ'.length then (match T.hot f c with | some d => .rt false (.tup [.bl false, d]) | none => .fail) else .fail | some false => .ex c ρ' | none => .fail) | r => r) De := p
    cases e : exs T wf b ρ with
    | nx ρ' => rw [e] at p; exact p
    | bk ρ' => rw [e] at p; exact p
    | ct ρ' => rw [e] at p; exact p
    | rt o d => rw [e] at p; exact p
    | fail => rw [e] at p; exact p
    | ex c' ρ' =>
      rw [e] at p
      have p : PostS G W H0 S0 HB SB (match T.sub c' cl with | some true => if i < ρ'.length then (match T.hot f c' with | some d => .rt false (.tup [.bl false, d]) | none => .fail) else .fail | some false => .ex c' ρ' | none => .fail) De := p
      intro σ' H' S' R' g' C hC
      cases e1 : T.sub c' cl with
      | none => rw [e1] at p; exact p.elim
      | some r =>
        obtain ⟨C1, D1, m1, m2, m3⟩ := st.mo.sbs c' cl r (by rw [← st.tsb]; exact e1)
        rw [hC] at m1
        cases m1
        rw [hD] at m2
        cases m2
        refine ⟨r, by rw [st.K]; exact m3, fun er a ha => ?_, fun er => ?_⟩
        · subst er
          rw [e1] at p
          have p : PostS G W H0 S0 HB SB (if i < ρ'.length then (match T.hot f c' with | some d => .rt false (.tup [.bl false, d]) | none => .fail) else .fail) De := p
          by_cases hl0 : i < ρ'.length
          case neg => rw [if_neg hl0] at p; exact p.elim
          rw [if_pos hl0] at p
          cases e2 : T.hot f c' with
          | none => rw [e2] at p; exact p.elim
          | some d =>
            rw [e2] at p
            obtain ⟨_, _, _, z, ez, _⟩ := st.hots hh f c' d e2
            subst ez
            have hl : i < σ'.length := by rw [← R'.len]; exact hl0
            refine ⟨c', C, z, S', rfl, rfl, hC, e2, R'.dom, List.getElem?_set_self hl, fun v H2 S2 g2 r2 => ?_⟩
            exact p v H2 S2 (g'.trans g2) r2
        · subst er
          rw [e1] at p
          exact ⟨c', C, rfl, hC, rfl, p σ' H' S' R' g'⟩
theorem okS : ∀ n, OkS P w G base T m H0 S0 wf n
  | 0 => fun _ _ _ h => (nomatch h)
  | n + 1 => by
    have ih := okS n
    intro c s p h W X HB SB st
    unfold cS at h
    split at h
    · cases h; exact ps_pa
    · cases h; exact ps_br
    · cases h; exact ps_cn
    · cases h; exact ps_rn
    · rename_i e _
      obtain ⟨p', q, rfl⟩ := Option.map_eq_some_iff.mp h
      by_cases hv : ∃ i, p' = .var i
      · obtain ⟨i, rfl⟩ := hv
        have hE := (okE (H0 := H0) n c e _ q W X st.toSta)
        -- the slot itself
        have hs : PE X e (tVar i) := var_of st.toSta q
        exact ps_rv hs
      · have hne : ∀ i, p' ≠ .var i := fun i z => hv ⟨i, z⟩
        exact tsEq (ret_eq hne) (ps_re (us := us p') (okE (H0 := H0) n c e p' q W X st.toSta).1)
    · cases h; exact ps_dc
    · split at h
      · rename_i i p' q1 q2 q3 q4
        split at h
        · rename_i hm
          cases h
          subst hm
          have hE := (okE (H0 := H0) n c _ p' q3 W X st.toSta).1
          have hA : PA X [_] _ := pa_cons hE pa_nil (star_of q2 [] X.env)
          exact ps_ap (us := us p') (ps_expr (pe_bm PySem.F.plainAttrs_list PySem.F.slot_list_append PySem.F.type_list_append mt_append (st.toSta.var q1) hA rfl (few_of q2) q4 (star_of q2 [] X.env) rfl) rfl)
        · split at h
          · rename_i hm
            cases h
            subst hm
            have hE := (okE (H0 := H0) n c _ p' q3 W X st.toSta).1
            have hA : PA X [_] _ := pa_cons hE pa_nil (star_of q2 [] X.env)
            exact ps_et (us := us p') st.K (ps_expr (pe_bm PySem.F.plainAttrs_list PySem.F.slot_list_extend PySem.F.type_list_extend mt_extD (st.toSta.var q1) hA rfl (few_of q2) q4 (star_of q2 [] X.env) rfl) rfl)
          · cases h
      · cases h
    · split at h
      · rename_i p' q1 q2
        cases h
        exact ps_ex (us := us p') (okE (H0 := H0) n c _ p' q2 W X st.toSta).1 (comp_no q1 _ _ _)
      · cases h
    · split at h
      · rename_i j t' q1 q2 q3
        split at h
        · rename_i hm
          cases h
          subst hm
          refine ps_po (ps_asg (pe_bm0 PySem.F.plainAttrs_list PySem.F.slot_list_pop PySem.F.type_list_pop mt_pop (st.toSta.var q1) rfl q3) (st.toSta.tg q2) (comp_noS rfl _ _ _) ?_ ?_)
          · exact pop_sw q2
          · exact tg_each q2
        · cases h
      · cases h
    · split at h
      · rename_i i p' q1 q2
        cases h
        exact ps_se (us := us p') (pos' := ⟨0, 0, 0, 0⟩) (st.toSta.nm q1) (okE (H0 := H0) n c _ p' q2 W X st.toSta).1 (set_comp st q1 q2)
      · cases h
    · split at h
      · rename_i i p' q1 q2 q3
        cases h
        have hE := (okE (H0 := H0) n c _ p' q3 W X st.toSta).1
        exact ps_se (us := us p') (pos' := ⟨0, 0, 0, 0⟩) (st.toSta.nm q1) hE (set_plain st q1 hE (comp_no q2 _ _ _))
      · cases h
    · split at h
      · rename_i t' p' q1 q2 q3 q4
        cases h
        have hE := (okE (H0 := H0) n c _ p' q4 W X st.toSta).1
        exact ps_st (us := us p') (ps_asg hE (st.toSta.tg q1) (comp_noS q2 _ _ _) (tup_no q3 _ _ _ _) rfl)
      · cases h
    · split at h
      · rename_i i q' p' q1 q2 q3 q4 q5
        cases h
        have hE := (okE (H0 := H0) n c _ p' q5 W X st.toSta).1
        have hk := (okE (H0 := H0) n c _ q' q4 W X st.toSta).1
        refine ps_pu (us := us p' ++ us q') (ps_asg hE (pg_sub (st.toSta.var q1) hk set_list (sub_asg q2)) (comp_noS q3 _ _ _) (sub_no _ _ _ _ _) rfl)
      · cases h
    · split at h
      · rename_i i p' q1 q2
        cases h
        obtain ⟨h1, h2, h3⟩ := st.toSta.st st.top q1
        have hE := (okE (H0 := H0) n c _ p' q2 W X st.toSta).1
        exact ps_ag (us := us p') hE (ps_aug st.nd h1 h2 hE (op_iD _) h3)
      · cases h
    · split at h
      · rename_i t' a' b' q1 q2 q3
        cases h
        exact ps_i (us := usT t') (okT (H0 := H0) n c _ t' q1 W X st.toSta) (cSs_ok ih st _ _ HB SB q2) (cSs_ok ih st _ _ HB SB q3)
      · cases h
    · split at h
      · rename_i t' a' q1 q2
        cases h
        exact ps_w (us := usT t') st.hp (okT (H0 := H0) n c _ t' q1 W X st.toSta) (cSs_ok ih st _ _ HB SB q2) wf
      · cases h
    · split at h
      · rename_i t' i' a' q0 q1 q2 q3
        cases h
        exact ps_f (us := usi i') st.hp (st.calm q0) (okI (H0 := H0) n c _ i' q2 W X _ st.toSta) (st.toSta.tg q1) (fun HB SB => cSs_ok ih st _ _ HB SB q3) (sw_no (cI_set q2) X.env)
      · cases h
    · split at h
      · rename_i b i q0 q1 q2
        split at h
        · rename_i q3
          cases h
          obtain ⟨r1, r2, r3, r4, r5⟩ := q3
          subst r1
          exact try_ok ih st q0 q1 q2 r2.1 r2.2 r3 r4 r5
        · cases h
      · cases h
    · split at h
      · rename_i hx
        cases h
        obtain ⟨C, h1, h2, _⟩ := st.toSta.mo.exs _ hx.2.1
        obtain ⟨g1, g2, _⟩ := st.toSta.gl hx.1
        exact ps_ra st.K st.mg (st.calm hx.2.2) st.tk h1 h2 g1 g2
      · cases h
    · cases h
end
end Hf

/-! Hf14: the text's defs as functions of data. -/
namespace Hf
open PySem PySem.Spec PyProof.Rows L2
set_option autoImplicit false

structure Df where
  N : List Str
  k : Nat
  code : Sts
  va : Bool := false
/-- the values that the parameters take -/
def argsD (f : Df) (ds : List D) : List D := if f.va = true then ds.take f.k ++ [.tup (ds.drop f.k)] else ds
abbrev Dfs := List (Str × Df)
def entE (N : List Str) (ds : List D) : En := (ds.map fun d => some (false, d)) ++ List.replicate (N.length - ds.length) none
def endR (r : Fl) : Res (Bool × D) := match r with
  | .nx _ => okF .non
  | .rt b d => .ok (b, d)
  | .ex c _ => .exc c
  | _ => .fail
def runD (T : Tb) (wf : Nat) (f : Df) (ds : List D) : Res (Bool × D) := endR (exs T wf f.code (entE f.N (argsD f ds)))
def arN (fs : Dfs) (f : Str) : Option (Nat × Bool) := (fs.lookup f).map fun df => (df.k, df.va)
/-- the text -/
structure Pg where
  wf : Nat
  fs : Dfs
  mo : Mo
/-- no calls: where an error is handled -/
def Pg.tbH (pg : Pg) : Tb := ⟨fun _ _ => .fail, pg.mo.gl, fun _ => none, pg.mo.ki, pg.mo.sub, fun _ _ => none⟩
/-- what a def says of an error of the class c that is handled -/
def Pg.hot (pg : Pg) (f c : Str) : Option D := if f ∈ pg.mo.hs ∧ c ∈ pg.mo.es then (match pg.fs.lookup f with
  | some df => (match runD pg.tbH pg.wf df [.exc c] with
    | .ok (false, .str z) => some (.str z)
    | _ => none)
  | none => none) else none
/-- what the def f gives, at most n calls deep -/
def callN (pg : Pg) : Nat → Str → List D → Res (Bool × D)
  | 0, _, _ => .fail
  | n + 1, f, ds => match pg.fs.lookup f with
    | some df => runD ⟨callN pg n, pg.mo.gl, arN pg.fs, pg.mo.ki, pg.mo.sub, pg.hot⟩ pg.wf df ds
    | none => .fail
def Pg.tb (pg : Pg) (n : Nat) : Tb := ⟨callN pg n, pg.mo.gl, arN pg.fs, pg.mo.ki, pg.mo.sub, pg.hot⟩
def arity : Dfs → List (Str × Nat)
  | [] => []
  | p :: r => if p.2.va = true then arity r else (p.1, p.2.k) :: arity r
theorem lookup_arity {fs : Dfs} (hn : (fs.map (·.1)).Nodup) {f : Str} {k : Nat} (h : (arity fs).lookup f = some k) : ∃ df, fs.lookup f = some df ∧ df.k = k ∧ df.va = false := by
  have sub : ∀ (r : Dfs), f ∉ r.map (·.1) → (arity r).lookup f = none := by
    intro r
    induction r with
    | nil => intro _; rfl
    | cons p r ih =>
      intro hm
      rw [List.map_cons, List.mem_cons, not_or] at hm
      rw [arity]
      split
      · exact ih hm.2
      · rw [List.lookup_cons, beq_eq_false_iff_ne.mpr hm.1]
        exact ih hm.2
  induction fs with
  | nil => cases h
  | cons p r ih =>
    rw [List.map_cons, List.nodup_cons] at hn
    rw [arity] at h
    rw [List.lookup_cons]
    cases e : f == p.1 with
    | true =>
      split at h
      · rw [sub r (by rw [beq_iff_eq.mp e]; exact hn.1)] at h
        cases h
      · rename_i hv
        rw [List.lookup_cons, e] at h
        cases h
        exact ⟨_, rfl, rfl, by simpa using hv⟩
    | false =>
      split at h
      · exact ih hn.2 h
      · rw [List.lookup_cons, e] at h
        exact ih hn.2 h
section
variable {P : Program} {w : World} {G : Gm} {base : Heap} {pg : Pg}
theorem entE_get {N : List Str} {ds : List D} {i : Nat} {b : Bool} {d : D} (h : (entE N ds)[i]? = some (some (b, d))) : b = false ∧ ds[i]? = some d := by
  unfold entE at h
  by_cases hi : i < ds.length
  · rw [List.getElem?_append_left (by simpa using hi), List.getElem?_map] at h
    cases e : ds[i]? with
    | none => rw [e] at h; cases h
    | some x => rw [e] at h; cases h; exact ⟨rfl, rfl⟩
  · rw [List.getElem?_append_right (by simpa using hi), List.getElem?_replicate] at h
    split at h <;> cases h
theorem entE_env {N : List Str} {ds : List D} {vs : List V} {H : Hp} {S : Sy} (dm : Dm H S) (h : Paired (Rep G H S) ds vs) : REnv G H H S (L2.start N vs) (entE N ds) := by
  have hl := Paired.length h
  refine ⟨?_, dm, fun i b d q => ?_, fun i j d e a _ q1 _ _ _ => ?_⟩
  · unfold entE L2.start
    rw [List.length_append, List.length_append, List.length_map, List.length_map, List.length_replicate, List.length_replicate, hl]
  · obtain ⟨rfl, q'⟩ := entE_get q
    obtain ⟨v, h1, h2⟩ := h.gt q'
    refine ⟨v, ?_, h2⟩
    unfold L2.start
    have hi : i < vs.length := (List.getElem?_eq_some_iff.mp h1).1
    rw [List.getElem?_append_left (by simpa using hi), List.getElem?_map, h1]
    rfl
  · obtain ⟨e, _⟩ := entE_get q1
    cases e
/-- a def of the text as it stands behind the top: where, its row's arguments, body, scope -/
structure At (G : Gm) (pg : Pg) (f : Str) (df : Df) (qual : Str) (params : Arguments) (body : List Stmt) (sc : Scope) (fa : Addr) (fd : FuncData) (ps : List Str) (n : Nat) : Prop where
  mg : G.mg f = some (.ref fa)
  fn : FunD G.K f qual params body sc [] [] fa fd
  fsc : FnScope df.N ps sc
  cc : cSs (cS n ⟨df.N, sc, true, arity pg.fs, pg.mo, false⟩) body = some df.code
  bd : df.va = false → ps.length = df.k ∧ Binds G.K fd ps []
  bv : df.va = true → ∃ ps' pv, ps = ps' ++ [pv] ∧ ps'.length = df.k ∧ ∀ us rest : List Value, us.length = ps'.length → bindArgs fd ⟨us ++ rest, []⟩ = (newTuple rest >>= fun t => pure (ps'.zip us ++ [(pv, t)]))
/-- what the defs keep, n calls deep -/
def DefsOk (P : Program) (w : World) (G : Gm) (base : Heap) (pg : Pg) (n : Nat) : Prop := ∀ (f : Str) (df : Df), pg.fs.lookup f = some df →
  (df.va = false → FnD P w G base n f df.k (callN pg n f)) ∧ FnV P w G base n f df.k df.va (callN pg n f)
/-- the body, from what the parameters hold -/
theorem At.body {f : Str} {df : Df} {qual : Str} {params : Arguments} {body : List Stmt} {sc : Scope} {fa : Addr} {fd : FuncData} {ps : List Str} {m : Nat} (A : At G pg f df qual params body sc fa fd ps m)
    (hn : (pg.fs.map (·.1)).Nodup) (hgw : G.w = w) (h0 : G.hx = none) (hm : MoOk w G pg.mo) (hho : ∀ f k d n, pg.hot f k = some d → HotF P w G base n f k d) {n : Nat} (ih : DefsOk P w G base pg n) {cdv : Value} {A0 : Around} {outer : List Env} {s : Shared} {H : Hp} {vs : List V} {Q : VK} {E : XK} {S : Sy} {ds : List D}
    (hr : Room n (A0.deeper (envOfC qual sc s.heap.objs.size fa cdv))) (dm : Dm H S) (rp : Paired (Rep G H S) ds vs) (p : Post G (fun c H' => ∀ a, G.mg c = some (.ref a) → E (.ref a) none H') H S (endR (exs (pg.tb n) pg.wf df.code (entE df.N ds))) Q) :
    ∃ t, PSs (cxOf (L2.CX P w) P w G.K G.mg base df.N qual sc fa cdv A0 outer s H E) body t ∧ t { nx := fun _ H' => Q .non H', rt := Q } (L2.start df.N vs) H := by
  -- what is wanted of an error
  let W : WD := fun c _ H' => ∀ a, G.mg c = some (.ref a) → E (.ref a) none H'
  let X := cxOf (L2.CX P w) P w G.K G.mg base df.N qual sc fa cdv A0 outer s H E
  have tk : Takes X (wOf G W) := (takes_of (X := X) (E := E) rfl rfl rfl rfl).imp fun cls d σ H' ⟨c, a, e1, e2, e3, w⟩ => by
    subst e1 e3
    exact w a e2
  have st : StaS P w G base (pg.tb n) n ⟨df.N, sc, true, arity pg.fs, pg.mo, false⟩ W X :=
    { eP := rfl, ew := rfl, K := rfl, mg := rfl, gw := hgw, eb := rfl, N := rfl, sc := rfl, nd := A.fsc.nd, calm := fun _ => rfl, fn := fun _ _ => rfl, room := fun _ => hr, un := (by have := hr.un; show (A0.deeper _).units + 150 < cLine; omega), tk := tk,
      fns := fun g k hg => by
        obtain ⟨dg, e1, e2, e3⟩ := lookup_arity hn hg
        have := (ih g dg e1).1 e3
        rw [e2] at this
        exact this
      fnv := fun g k va hg => by
        obtain ⟨dg, e1, e2⟩ := Option.map_eq_some_iff.mp hg
        cases e2
        exact (ih g dg e1).2
      hx0 := fun _ => h0, hxs := fun a c h => (by rw [h0] at h; cases h), tgl := rfl, tki := rfl, tsb := rfl, mo := hm, top := rfl, kd := A.fsc.kind, hp := passes_of (X := X) rfl, stk := rfl, frm := rfl, hots := fun _ f k d h => hho f k d n h }
  refine ⟨tS G W H S (fun _ => none) (fun _ => False) (exs (pg.tb n) pg.wf df.code), cSs_ok (okS (H0 := H) (S0 := S) m) st body df.code _ _ A.cc, S, entE df.N ds, entE_env dm rp, ⟨Gr.refl H S, fun _ z => z.elim⟩, ?_⟩
  cases z : exs (pg.tb n) pg.wf df.code (entE df.N ds) with
  | nx ρ => rw [z] at p; exact fun σ H' S' R g => p .non H' S' g.g .non
  | rt b d => rw [z] at p; exact fun v H' S' g r => p v H' S' g.g r
  | ex c ρ => rw [z] at p; exact fun σ H' S' R g => p H' S' g.g
  | bk ρ => rw [z] at p; exact p.elim
  | ct ρ => rw [z] at p; exact p.elim
  | fail => rw [z] at p; exact p.elim
theorem callN_eq {f : Str} {df : Df} (hf : pg.fs.lookup f = some df) (n : Nat) (ds : List D) : callN pg (n + 1) f ds = endR (exs (pg.tb n) pg.wf df.code (entE df.N (argsD df ds))) := by
  show (match pg.fs.lookup f with | some df => runD (pg.tb n) pg.wf df ds | none => .fail) = _
  rw [hf] <;> rfl
theorem At.ok {f : Str} {df : Df} {qual : Str} {params : Arguments} {body : List Stmt} {sc : Scope} {fa : Addr} {fd : FuncData} {ps : List Str} {m : Nat} (A : At G pg f df qual params body sc fa fd ps m) (hv : df.va = false)
    (hn : (pg.fs.map (·.1)).Nodup) (hgw : G.w = w) (h0 : G.hx = none) (hm : MoOk w G pg.mo) (hho : ∀ f k d n, pg.hot f k = some d → HotF P w G base n f k d) (hf : pg.fs.lookup f = some df) (n : Nat) (ih : DefsOk P w G base pg n) : FnOk P w G.K G.mg base (L2.CX P w) (n + 1) fa fd ps (spD G df.k (callN pg (n + 1) f)) := by
  refine A.fn.ok A.fsc (fun vs H Q E h => h.1.trans (A.bd hv).1.symm) (fun cdv A0 outer s H vs Q E hr h => ?_)
  obtain ⟨_, S, ds, dm, rp, p⟩ := h
  rw [callN_eq hf] at p
  have e : argsD df ds = ds := by unfold argsD; rw [hv]; rfl
  rw [e] at p
  exact A.body hn hgw h0 hm hho ih hr dm rp p
theorem At.okR {f : Str} {df : Df} {qual : Str} {params : Arguments} {body : List Stmt} {sc : Scope} {fa : Addr} {fd : FuncData} {ps : List Str} {m : Nat} (A : At G pg f df qual params body sc fa fd ps m)
    (hn : (pg.fs.map (·.1)).Nodup) (hgw : G.w = w) (h0 : G.hx = none) (hm : MoOk w G pg.mo) (hho : ∀ f k d n, pg.hot f k = some d → HotF P w G base n f k d) (hf : pg.fs.lookup f = some df) (n : Nat) (ih : DefsOk P w G base pg n) : FnR P w G.K G.mg base (L2.CX P w) (n + 1) fa (spV G df.k df.va (callN pg (n + 1) f)) := by
  cases hv : df.va with
  | false =>
    refine ((A.ok hv hn hgw h0 hm hho hf n ih).raw (A.bd hv).2 .nil).imp fun vs H Q E h => ?_
    rw [List.append_nil]
    obtain ⟨h1, h2⟩ := h
    exact ⟨of_decide_eq_true h1, h2⟩
  | true =>
    obtain ⟨ps', pv, rfl, hl, hb⟩ := A.bv hv
    obtain ⟨oc, od, dV, kV, doc, pm, an, cdv, ct, osl, rfl, lk, hcd, _, _⟩ := A.fn.ex
    refine (StX.fn_star (sp := fun vs H Q E => ∃ S ds, Dm H S ∧ Paired (Rep G H S) ds vs ∧ Post G (fun c H' => ∀ a, G.mg c = some (.ref a) → E (.ref a) none H') H S (endR (exs (pg.tb n) pg.wf df.code (entE df.N ds))) Q) lk hcd A.fsc StX.cxUp hb (fun A0 outer s H vs Q E hr h => ?_)).imp fun vs H Q E h => ?_
    · obtain ⟨S, ds, dm, rp, p⟩ := h
      exact A.body hn hgw h0 hm hho ih hr dm rp p
    · obtain ⟨h1, S, ds, dm, rp, p⟩ := h
      have h1 : (decide (df.k ≤ vs.length) && decide (vs.length ≤ sizeLine)) = true := h1
      rw [Bool.and_eq_true, decide_eq_true_eq, decide_eq_true_eq] at h1
      have hlen := Paired.length rp
      refine ⟨vs.take df.k, vs.drop df.k, (List.take_append_drop _ _).symm, by rw [List.length_take, hl]; omega, by rw [List.length_drop]; omega, fun q hq => ?_⟩
      have g : Gr H S (upd H q (.tup (vs.drop df.k))) (fun b => S b ∨ b = q) := Gr.laidF hq
      rw [callN_eq hf] at p
      have e : argsD df ds = ds.take df.k ++ [.tup (ds.drop df.k)] := by unfold argsD; rw [hv]; rfl
      rw [e] at p
      refine ⟨_, _, dm.gr g, ?_, Post.gr g p⟩
      exact Paired.app (Paired.tk _ (g.reps rp)) (.cons (.tup (.inl ⟨.inr rfl, .inl upd_same⟩) (Paired.dp _ (g.reps rp))) .nil)
/-! ### a def that is told of the error that is handled -/
mutual
theorem Rep.hot {G : Gm} (h0 : G.hx = none) (h : Option (Addr × Str)) {H : Hp} {S : Sy} : ∀ (d : D) (v : V), Rep G H S d v → Rep { G with hx := h } H S d v
  | .non, _, .non => .non
  | .bl _, _, .bl b => .bl b
  | .int _, _, .int i => .int i
  | .str _, _, .str x => .str x
  | .lst ds, _, .lst q p => .lst q (Rep.hotL h0 h ds _ p)
  | .tup ds, _, .tup q p => .tup q (Rep.hotL h0 h ds _ p)
  | .fn _, _, .fn q => .fn q
  | .exc _, _, .exc q => by rw [h0] at q; cases q
  | .dct _ ds, _, .dct q p => .dct q (Rep.hotL h0 h ds _ p)
theorem Rep.hotL {G : Gm} (h0 : G.hx = none) (h : Option (Addr × Str)) {H : Hp} {S : Sy} : ∀ (ds : List D) (vs : List V), Paired (Rep G H S) ds vs → Paired (Rep { G with hx := h } H S) ds vs
  | [], _, .nil => .nil
  | d :: ds, _, .cons a t => .cons (Rep.hot h0 h d _ a) (Rep.hotL h0 h ds _ t)
end
theorem MoOk.hot {mo : Mo} (h0 : G.hx = none) (h : Option (Addr × Str)) (m : MoOk w G mo) : MoOk w { G with hx := h } mo :=
  ⟨fun x hx d hd => let ⟨u, v, e1, e2, e3⟩ := m.gls x hx d hd; ⟨u, v, e1, e2, fun H S => Rep.hot h0 h d v (e3 H S)⟩, m.free, m.exs, m.kis, m.sbs⟩
theorem At.hot {f : Str} {df : Df} {qual : Str} {params : Arguments} {body : List Stmt} {sc : Scope} {fa : Addr} {fd : FuncData} {ps : List Str} {m m2 : Nat} (B : At G pg f df qual params body sc fa fd ps m) (hv : df.va = false) (hk1 : df.k = 1)
    (ch : cSs (cS m2 ⟨df.N, sc, true, [], pg.mo, true⟩) body = some df.code) (hgw : G.w = w) (h0 : G.hx = none) (hm : MoOk w G pg.mo) {c z : Str} (hrun : runD pg.tbH pg.wf df [.exc c] = .ok (false, .str z)) (hX : ∃ C, G.mg c = some (.ref C) ∧ ExcC G.K C) (n : Nat) : HotF P w G base n f c (.str z) := by
  obtain ⟨oc, od, dV, kV, doc, pm, an, cdv, ct, osl, efd, lk, hcd, _, _⟩ := B.fn.ex
  subst efd
  have Fs := B.fsc
  refine ⟨fa, _, ps, z, rfl, B.mg, B.fn.kp, (B.bd hv).2, (B.bd hv).1.trans hk1, fun A0 outer s H args us q C Q hr pin e0 hb r hC hz hf ⟨S, dm, hq⟩ => ?_⟩
  obtain ⟨C', hC', hx⟩ := hX
  rw [hC] at hC'
  cases hC'
  have kin : G.K.In s.heap := e0.mod.kin.keeps fun b o e => (e0.bs b o e).1
  have nolim : s.heap.NoLimit := e0.mod.nolimit.keeps fun b o e => (e0.bs b o e).1
  have kinds : ∀ y ∈ ps.zip us, sc.names.lookup y.1 = some .local ∨ (sc.names.lookup y.1 = some .cell ∧ ((cellsFrom (s.heap.objs.size + 1) sc.names []).lookup y.1).isSome = true) := by
    intro y hy
    rcases Fs.par y.1 (List.of_mem_zip hy).1 with k | k
    · exact .inl k
    · exact .inr ⟨k, PySem.W.cellsFrom_some _ _ _ (.inl k)⟩
  refine codeAny_call_function hr.depth (kin _ _ lk) rfl Fs.co Fs.gen rfl (PySem.W.codeRec_of kin hcd) (hb _ _ _ _ ?_)
  refine wpAny_newFunctionEnv_cells Fs.kind kinds fun env he s1 x => ?_
  subst he
  refine ⟨nolim.keeps x.toInCall.keep, codeAny_func ?_⟩
  let E : XK := fun _ _ _ => False
  let X := L2H.cxH (L2.CX P w) P w G.K G.mg base df.N qual sc fa cdv A0 outer s H E q
  have I : Inv X [] (L2.start df.N [.ref q.1]) H s1 := L2H.inv_startH Fs pin e0 (by rw [(B.bd hv).1, hk1] <;> rfl) r x
  let G' : Gm := { G with hx := some (q.1, c) }
  have tk : Takes X (wOf G' fun _ _ _ => False) := (takes_of (X := X) (E := E) rfl rfl rfl rfl).imp fun cls d σ H' ⟨_, _, _, _, _, z⟩ => z.elim
  have st : StaS P w G' base pg.tbH n ⟨df.N, sc, true, [], pg.mo, true⟩ (fun _ _ _ => False) X :=
    { eP := rfl, ew := rfl, K := rfl, mg := rfl, gw := hgw, eb := rfl, N := rfl, sc := rfl, nd := Fs.nd, calm := fun h => (nomatch h), fn := fun _ _ => rfl, room := fun h => (nomatch h),
      un := by have := hr.un; show A0.units + 3 + 150 < cLine; omega
      tk := tk, fns := fun g k hg => (nomatch hg), fnv := fun g k va hg => (nomatch hg), hx0 := fun h => (nomatch h),
      hxs := fun a k h => by cases h; exact ⟨q.2, C, List.mem_singleton.mpr rfl, hC, hx, hz, hf⟩
      tgl := rfl, tki := rfl, tsb := rfl, mo := hm.hot h0 _, top := rfl, kd := Fs.kind, hp := passes_of (X := X) rfl, stk := rfl, frm := rfl, hots := fun h => (nomatch h) }
  have dm' := dm
  have rep : Paired (Rep G' H S) [D.exc c] [V.ref q.1] := .cons (.exc rfl) .nil
  have run := (cSs_ok (okS (H0 := H) (S0 := S) (wf := pg.wf) m2) st body df.code (fun _ => none) (fun _ => False) ch).run [] s1 _ H { nx := fun _ H' => Q .non H', rt := Q } I
    ⟨S, entE df.N [.exc c], entE_env dm rep, ⟨Gr.refl H S, fun _ z => z.elim⟩, by
      have hrun : endR (exs pg.tbH pg.wf df.code (entE df.N (argsD df [.exc c]))) = .ok (false, .str z) := hrun
      have e : argsD df [.exc c] = [.exc c] := by unfold argsD; rw [hv]; rfl
      rw [e] at hrun
      cases y : exs pg.tbH pg.wf df.code (entE df.N [.exc c]) with
      | rt b d =>
        rw [y] at hrun
        cases hrun
        exact fun v H' S' g r' => by
          have r' : Rep G' H' S' (.str z) v := r'
          cases r'
          exact hq H' S' g.g
      | nx ρ => rw [y] at hrun; cases hrun
      | ex k ρ => rw [y] at hrun; cases hrun
      | bk ρ => rw [y] at hrun; cases hrun
      | ct ρ => rw [y] at hrun; cases hrun
      | fail => rw [y] at hrun; cases hrun⟩
  refine wpAny_mono run (fun fl s' hs => ?_) fun e s' hs => hs
  have fin : ∀ {σ' : L2.St} {H' : Hp} {v : V} {u : Value}, Inv X [] σ' H' s' → RelV v u → Q v H' → CE outer P w H s Q u s' := fun {σ' H' v u} J rv y => ⟨v, H', J.os, J.bare, J.base, J.hok, rv, y⟩
  cases fl with
  | ret u =>
    obtain ⟨v, σ', H', J, rv, y⟩ := hs
    exact fin J rv y
  | next =>
    obtain ⟨σ', H', J, y⟩ := hs
    exact fin (v := V.non) (u := Value.none) J rfl y
  | brk =>
    obtain ⟨_, _, _, y⟩ := hs
    exact y.elim
  | cont =>
    obtain ⟨_, _, _, y⟩ := hs
    exact y.elim
def AnyAt (G : Gm) (pg : Pg) (f : Str) (df : Df) : Prop := ∃ qual params body sc fa fd ps n, At G pg f df qual params body sc fa fd ps n
theorem defs_ok (hd : ∀ f df, pg.fs.lookup f = some df → AnyAt G pg f df) (hn : (pg.fs.map (·.1)).Nodup) (hgw : G.w = w) (h0 : G.hx = none) (hm : MoOk w G pg.mo) (hho : ∀ f k d n, pg.hot f k = some d → HotF P w G base n f k d) : ∀ n : Nat, DefsOk P w G base pg n
  | 0 => fun f df hf => by
    obtain ⟨qual, params, body, sc, fa, fd, ps, m, A⟩ := hd f df hf
    refine ⟨fun hv => ⟨fa, fd, ps, (A.bd hv).1, A.mg, ⟨fun vs H Q E h => h.1.trans (A.bd hv).1.symm, fun A outer s H args us vs Q E _ _ _ _ h => ?_⟩, A.fn.kp, (A.bd hv).2⟩, fa, A.mg, fun A outer s H us vs Q E _ _ _ h => ?_, A.fn.kp⟩
    · obtain ⟨_, S, ds, _, _, p⟩ := h
      exact False.elim p
    · obtain ⟨_, S, ds, _, _, p⟩ := h
      exact False.elim p
  | n + 1 => fun f df hf => by
    obtain ⟨qual, params, body, sc, fa, fd, ps, m, A⟩ := hd f df hf
    have ih := defs_ok hd hn hgw h0 hm hho n
    exact ⟨fun hv => ⟨fa, fd, ps, (A.bd hv).1, A.mg, A.ok hv hn hgw h0 hm hho hf n ih, A.fn.kp, (A.bd hv).2⟩, fa, A.mg, A.okR hn hgw h0 hm hho hf n ih, A.fn.kp⟩
/-- the law's own promise, from what it gives of any ints -/
theorem law_sp {n : Nat} {r : List D → Res (Bool × D)} (h : ∀ ns : List Int, ns.length ≤ n → ∃ b, r [.lst (ns.map D.int)] = .ok (b, .bl true)) (H : Hp) (a : Addr) (ns : List Int) (hl : ns.length ≤ n) (hS : SqL G.K H a (ns.map V.int)) :
    spD G 1 r [.ref a] H (fun v _ => v = .bl true) fun _ _ _ => False := by
  obtain ⟨b, e⟩ := h ns hl
  have pr : ∀ S, Paired (Rep G H S) (ns.map D.int) (ns.map V.int) := fun S => by
    clear hl hS e
    induction ns with
    | nil => exact .nil
    | cons i r ih => exact .cons (.int i) ih
  refine ⟨rfl, ?_⟩
  have fin : ∀ S : Sy, Post G (fun c H' => ∀ a, G.mg c = some (.ref a) → False) H S (r [.lst (ns.map D.int)]) (fun v _ => v = .bl true) := fun S => by
    rw [e]
    intro v H' S' _ q
    cases b with
    | false => cases q; rfl
    | true =>
      obtain ⟨_, _, _, _, z, _⟩ := q
      cases z
  rcases hS with hS | hS
  · refine ⟨fun b => b = a, [.lst (ns.map D.int)], fun b z => ?_, .cons (.lst (.inl ⟨rfl, hS⟩) (pr _)) .nil, fin _⟩
    subst z
    rcases hS with q | ⟨o, q⟩
    · exact ⟨_, q⟩
    · exact ⟨_, q⟩
  · exact ⟨fun _ => False, [.lst (ns.map D.int)], fun b z => z.elim, .cons (.lst (.inr hS) (pr _)) .nil, fin _⟩
/-- a def that lets nothing out -/
theorem fn_no {k : Nat} {f : Addr} {fd : FuncData} {ps : List Str} {sp : Sp} (F : FnOk P w G.K G.mg base (L2.CX P w) k f fd ps sp) : FnOk P w G.K G.mg base CX0 k f fd ps (fun vs H Q _ => sp vs H Q E0) := by
  refine ⟨fun vs H Q E h => F.len vs H Q E0 h, fun A outer s H args us vs Q E hr e hb hv h => ?_⟩
  refine codeAny_mono (F.run A outer s H args us vs Q E0 hr e hb hv h) fun r s' hq => ?_
  cases r with
  | error e =>
    obtain ⟨_, _, _, _, _, _, _, _, _, _, _, _, z⟩ := hq
    exact z.elim
  | ok fl => cases fl <;> exact hq
end
end Hf

/-! Hf15: the module's constants and classes, looked at once behind the top. -/
namespace Hf
open PySem PySem.Spec PyProof.Rows L2
set_option autoImplicit false
mutual
/-- the value u stands for the data d in the written part -/
def repB (K : PySem.W.Frag) : D → Value → Bool
  | .non, u => decide (u = .none)
  | .bl b, u => decide (u = .bool b)
  | .int i, u => (match u with
    | .int j _ => decide (j = i)
    | _ => false)
  | .str x, u => (match u with
    | .str y _ => decide (y = x)
    | _ => false)
  | .fn x, u => (match u with
    | .ref a => decide (PySem.W.nsIn K mainGlobals x = some (some (.ref a)))
    | _ => false)
  | .tup ds, u => (match u with
    | .ref a => (match K.lookup a with
      | some ⟨.type c, _, .seq its _, _⟩ => decide (c = "tuple") && (decide (its.size ≤ sizeLine) && repBs K ds its.toList)
      | _ => false)
    | _ => false)
  | _, _ => false
def repBs (K : PySem.W.Frag) : List D → List Value → Bool
  | [], us => us.isEmpty
  | d :: ds, us => (match us with
    | u :: r => repB K d u && repBs K ds r
    | [] => false)
end
section
variable {w : World} {G : Gm} {h : Heap}
mutual
theorem repB_ok (X : G.K.In h) (N : h.Ns mainGlobals G.mg) : ∀ (d : D) (u : Value), repB G.K d u = true → ∃ v, RelV v u ∧ ∀ H S, Rep G H S d v
  | .non, u, e => by
    have e' : u = .none := of_decide_eq_true e
    subst e'
    exact ⟨.non, rfl, fun _ _ => .non⟩
  | .bl b, u, e => by
    have e' : u = .bool b := of_decide_eq_true e
    subst e'
    exact ⟨.bl b, rfl, fun _ _ => .bl b⟩
  | .int i, u, e => by
    have e' : (match (generalizing := false) u with | .int j _ => decide (j = i) | _ => false) = true := e
    cases u with
    | int j t => cases of_decide_eq_true e'; exact ⟨.int _, ⟨t, rfl⟩, fun _ _ => .int _⟩
    | _ => cases e'
  | .str x, u, e => by
    have e' : (match (generalizing := false) u with | .str y _ => decide (y = x) | _ => false) = true := e
    cases u with
    | str y t => cases of_decide_eq_true e'; exact ⟨.str _, ⟨t, rfl⟩, fun _ _ => .str _⟩
    | _ => cases e'
  | .fn x, u, e => by
    have e' : (match (generalizing := false) u with | .ref a => decide (PySem.W.nsIn G.K mainGlobals x = some (some (.ref a))) | _ => false) = true := e
    cases u with
    | ref a => exact ⟨.ref a, rfl, fun _ _ => .fn (PySem.W.mg_of X N (of_decide_eq_true e'))⟩
    | _ => cases e'
  | .tup ds, u, e => by
    have e' : (match (generalizing := false) u with | .ref a => (match G.K.lookup a with | some ⟨.type c, _, .seq its _, _⟩ => decide (c = "tuple") && (decide (its.size ≤ sizeLine) && repBs G.K ds its.toList) | _ => false) | _ => false) = true := e
    cases u with
    | ref a =>
      have e2 : (match G.K.lookup a with | some ⟨.type c, _, .seq its _, _⟩ => decide (c = "tuple") && (decide (its.size ≤ sizeLine) && repBs G.K ds its.toList) | _ => false) = true := e'
      cases q : G.K.lookup a with
      | none => rw [q] at e2; cases e2
      | some o =>
        rw [q] at e2
        obtain ⟨oc, od, dt, sl⟩ := o
        cases oc with
        | type c =>
          cases dt with
          | seq its n =>
            have e3 : (decide (c = "tuple") && (decide (its.size ≤ sizeLine) && repBs G.K ds its.toList)) = true := e2
            rw [Bool.and_eq_true, Bool.and_eq_true, decide_eq_true_eq, decide_eq_true_eq] at e3
            obtain ⟨c1, c2, c3⟩ := e3
            subst c1
            obtain ⟨vs, r1, r2⟩ := repBs_ok X N ds its.toList c3
            exact ⟨.ref a, rfl, fun H S => .tup (.inr ⟨_, its, n, q, rfl, rfl, c2, r1⟩) (r2 H S)⟩
          | _ => cases e2
        | _ => cases dt <;> cases e2
    | _ => cases e'
  | .lst _, _, e => by cases e
  | .exc _, _, e => by cases e
  | .dct _ _, _, e => by cases e
theorem repBs_ok (X : G.K.In h) (N : h.Ns mainGlobals G.mg) : ∀ (ds : List D) (us : List Value), repBs G.K ds us = true → ∃ vs, Vals vs us ∧ ∀ H S, Paired (Rep G H S) ds vs
  | [], us, e => by
    have e' : us.isEmpty = true := e
    cases us with
    | nil => exact ⟨[], .nil, fun _ _ => .nil⟩
    | cons _ _ => cases e'
  | d :: ds, us, e => by
    cases us with
    | nil => cases e
    | cons u r =>
      have e' : (repB G.K d u && repBs G.K ds r) = true := e
      rw [Bool.and_eq_true] at e'
      obtain ⟨v, r1, r2⟩ := repB_ok X N d u e'.1
      obtain ⟨vs, r3, r4⟩ := repBs_ok X N ds r e'.2
      exact ⟨v :: vs, .cons r1 r3, fun H S => .cons (r2 H S) (r4 H S)⟩
end
/-! ### a dict of the module -/
def keyS (e : DictEntry) : Option Str := match e.key with
  | .str x _ => some x
  | _ => none
def tabB (K : PySem.W.Frag) (a : Addr) (ks : List Str) (ds : List D) : Bool := match K.lookup a with
  | some ⟨_, _, .dict es _, _⟩ => decide (es.toList.map keyS = ks.map some) && repBs K ds (es.toList.map (·.val))
  | _ => false
theorem find_tab : ∀ {l : List DictEntry} {ks : List Str} {xs : List V}, l.map keyS = ks.map some → Vals xs (l.map (·.val)) → ∀ z, (match lkD ks xs z with
    | some v => ∃ e, l.find? (·.key.isStr z) = some e ∧ RelV v e.val
    | none => l.find? (·.key.isStr z) = none) ∧ l.any (·.refKey) = false
  | [], [], _, _, _, z => ⟨rfl, rfl⟩
  | [], _ :: _, _, h, _, _ => by cases h
  | _ :: _, [], _, h, _, _ => by cases h
  | e :: l, k :: ks, xs, h, r, z => by
    have h1 : keyS e :: l.map keyS = some k :: ks.map some := h
    injection h1 with h2 h3
    cases xs with
    | nil => cases r
    | cons x xs =>
      cases r with
      | cons r1 r2 =>
        obtain ⟨i1, i2⟩ := find_tab h3 r2 z
        obtain ⟨hk, hr⟩ : (∃ t, e.key = .str k t) ∧ e.refKey = false := by
          unfold keyS at h2
          split at h2
          · rename_i x t q
            cases h2
            exact ⟨⟨t, q⟩, by unfold DictEntry.refKey; rw [q]⟩
          · cases h2
        obtain ⟨t, hk⟩ := hk
        refine ⟨?_, by rw [List.any_cons, hr, i2]; rfl⟩
        rw [List.find?_cons, hk]
        by_cases ez : k = z
        · have : Value.isStr (.str k t) z = true := by subst ez; simp [Value.isStr]
          rw [this, lkD, if_pos ez]
          exact ⟨e, rfl, r1⟩
        · have : Value.isStr (.str k t) z = false := by simp [Value.isStr, ez]
          rw [this, lkD, if_neg ez]
          exact i1
theorem tab_ok (X : G.K.In h) (N : h.Ns mainGlobals G.mg) {a : Addr} {es : Array DictEntry} {n : Nat} {ks : List Str} {ds : List D} (hd : KDict G.K G.w a es n) (e : tabB G.K a ks ds = true) : ∀ H S, Rep G H S (.dct ks ds) (.ref a) := by
  unfold tabB at e
  rw [hd.at_] at e
  have e : (decide (es.toList.map keyS = ks.map some) && repBs G.K ds (es.toList.map (·.val))) = true := e
  rw [Bool.and_eq_true, decide_eq_true_eq] at e
  obtain ⟨vs, r1, r2⟩ := repBs_ok X N ds _ e.2
  refine fun H S => .dct (.inr ⟨⟨es, n, hd⟩, fun z => ?_⟩) (r2 H S)
  obtain ⟨i1, i2⟩ := find_tab e.1 r1 z
  unfold PySem.W.nsIn
  rw [hd.at_]
  cases q : lkD ks vs z with
  | none =>
    rw [q] at i1
    show (match es.toList.find? (·.key.isStr z) with | some e => some (some e.val) | none => if es.toList.any (·.refKey) then none else some none) = some none
    rw [i1, i2]
    rfl
  | some v =>
    rw [q] at i1
    obtain ⟨e, i1, r⟩ := i1
    refine ⟨e.val, ?_, r⟩
    show (match es.toList.find? (·.key.isStr z) with | some e => some (some e.val) | none => if es.toList.any (·.refKey) then none else some none) = _
    rw [i1]
/-! ### classes -/
/-- what a class's name stands for: a class of the text, or a built-in one -/
def clsU (K : PySem.W.Frag) (y : Str) : Value := if y = ("ValueError" : Str) then .type "ValueError" else .ref (He.ga K y)
def kitB (K : PySem.W.Frag) (p : (Str × Str) × Bool) : Bool := decide (PySem.W.kitOne K (.ref (He.ga K p.1.1)) (clsU K p.1.2) = some p.2)
def excB (K : PySem.W.Frag) (x : Str) : Bool :=
  He.eqO (PySem.W.findIn K (.ref (He.ga K x)) "__getattribute__") (some (some (.builtin "BaseException.__getattribute__"))) && (He.eqO (PySem.W.findIn K (.ref (He.ga K x)) "__getattr__") (some none) &&
  (decide (PySem.W.subIn K (.ref (He.ga K x)) (.type "BaseException") = some true) && (PySem.W.hasDictIn K (He.ga K x) && (He.eqO (PySem.W.findIn K (.ref (He.ga K x)) "__class__") (some (some (.builtin "object.__class__"))) &&
  (He.eqO (PySem.W.specialIn K (.builtin "object.__class__") "__get__") (some (some (.builtin "getset_descriptor.__get__"))) && (decide (PySem.W.takesIn K (.builtin "object.__class__") = some true) && decide (PySem.W.mroIn K (He.ga K x) (.type "object") = some true)))))))
theorem excB_ok {K : PySem.W.Frag} {x : Str} (h : excB K x = true) : ExcC K (He.ga K x) := by
  unfold excB at h
  obtain ⟨h1, h⟩ := He.ba h
  obtain ⟨h2, h⟩ := He.ba h
  obtain ⟨h3, h⟩ := He.ba h
  obtain ⟨h4, h⟩ := He.ba h
  obtain ⟨h5, h⟩ := He.ba h
  obtain ⟨h6, h⟩ := He.ba h
  obtain ⟨h7, h8⟩ := He.ba h
  exact ⟨He.eqO_ok h1, He.eqO_ok h2, of_decide_eq_true h3, h4, He.eqO_ok h5, He.eqO_ok h6, of_decide_eq_true h7, of_decide_eq_true h8⟩
/-! ### all that is looked at -/
structure Hd where
  consts : List (Str × D)
  tabs : List (Str × List Str × List D)
  cls : List Str
  es : List Str
  kiT : List ((Str × Str) × Bool)
  sbT : List ((Str × Str) × Bool)
  hs : List Str
def Hd.mo (d : Hd) : Mo where
  gl x := match d.consts.lookup x with
    | some c => some c
    | none => (d.tabs.lookup x).map fun p => .dct p.1 p.2
  gs := d.consts.map (·.1) ++ d.tabs.map (·.1)
  es := d.es
  ki c y := d.kiT.lookup (c, y)
  sub c y := d.sbT.lookup (c, y)
  hs := d.hs
def conB (K : PySem.W.Frag) (p : Str × D) : Bool := match PySem.W.nsIn K mainGlobals p.1 with
  | some (some u) => repB K p.2 u
  | _ => false
def Hd.fa (d : Hd) : List He.Fa := d.tabs.map (fun t => .glo t.1) ++ (d.cls.map .glo ++ (d.es.map .exc ++ (d.sbT.map (fun p => .exm p.1.1 p.1.2 p.2) ++ (("ValueError" : Str) :: bnames).map .free)))
def Hd.ex (d : Hd) (K : PySem.W.Frag) : Bool := d.consts.all (conB K) && (d.tabs.all (fun t => tabB K (He.ga K t.1) t.2.1 t.2.2) && (d.kiT.all (kitB K) && d.es.all (excB K)))
/-- the names that the tables speak of are classes of the text -/
def Hd.fit (d : Hd) : Bool := d.es.all (d.cls.contains ·) && (d.kiT.all (fun p => d.cls.contains p.1.1 && (decide (p.1.2 = "ValueError") || d.cls.contains p.1.2)) && d.sbT.all fun p => d.cls.contains p.1.1 && d.cls.contains p.1.2)
theorem mem_lk {α β : Type} [BEq α] [LawfulBEq α] {a : α} {b : β} : ∀ {l : List (α × β)}, l.lookup a = some b → (a, b) ∈ l
  | [], h => by cases h
  | (x, y) :: r, h => by
    rw [List.lookup_cons] at h
    cases e : a == x with
    | true => rw [e] at h; cases h; rw [eq_of_beq e]; exact List.mem_cons_self
    | false => rw [e] at h; exact List.mem_cons_of_mem _ (mem_lk h)
theorem Hd.ok {d : Hd} {K : PySem.W.Frag} {mg : Str → Option Value} (X : K.In h) (N : h.Ns mainGlobals mg) (hfit : d.fit = true) (hfa : ∀ f ∈ d.fa, f.ok K = true) (hex : d.ex K = true) (htab : ∀ t ∈ d.tabs, ∃ es n, KDict K w (He.ga K t.1) es n) :
    MoOk w ⟨K, mg, w, none⟩ d.mo := by
  obtain ⟨x1, hex⟩ := He.ba hex
  obtain ⟨x2, hex⟩ := He.ba hex
  obtain ⟨x3, x4⟩ := He.ba hex
  obtain ⟨f1, hfit⟩ := He.ba hfit
  obtain ⟨f2, f3⟩ := He.ba hfit
  have hcls : ∀ x, d.cls.contains x = true → mg x = some (.ref (He.ga K x)) := fun x hx => He.glo_ok X N (hfa _ (by
    unfold Hd.fa
    exact List.mem_append_right _ (List.mem_append_left _ (List.mem_map_of_mem (List.contains_iff_mem.mp hx)))))
  have hfree : ∀ x ∈ (("ValueError" : Str) :: bnames), mg x = none := fun x hx => He.free_ok X N (hfa _ (by
    unfold Hd.fa
    exact List.mem_append_right _ (List.mem_append_right _ (List.mem_append_right _ (List.mem_append_right _ (List.mem_map_of_mem hx))))))
  refine ⟨fun x hx dd hd => ?_, fun x hx => hfree x (List.mem_cons_of_mem _ hx), fun x hx => ?_, fun c y b hk => ?_, fun c y b hk => ?_⟩
  · have hd : (match d.consts.lookup x with | some c => some c | none => (d.tabs.lookup x).map fun p => D.dct p.1 p.2) = some dd := hd
    cases e : d.consts.lookup x with
    | some c =>
      rw [e] at hd
      cases hd
      have hm := PySem.mem_of_lookup e
      have hb : conB K (x, dd) = true := List.all_eq_true.mp x1 _ hm
      unfold conB at hb
      split at hb
      · rename_i u q
        obtain ⟨v, r1, r2⟩ := repB_ok (G := ⟨K, mg, w, none⟩) X N dd u hb
        exact ⟨u, v, PySem.W.mg_of X N q, r1, r2⟩
      · cases hb
    | none =>
      rw [e] at hd
      obtain ⟨⟨ks, ds⟩, e2, e3⟩ := Option.map_eq_some_iff.mp hd
      subst e3
      have hm := PySem.mem_of_lookup e2
      obtain ⟨es, n, hk⟩ := htab _ hm
      have hb : tabB K (He.ga K x) ks ds = true := List.all_eq_true.mp x2 _ hm
      exact ⟨.ref (He.ga K x), .ref (He.ga K x), He.glo_ok X N (hfa _ (by unfold Hd.fa; exact List.mem_append_left _ (List.mem_map_of_mem (f := fun t : Str × List Str × List D => He.Fa.glo t.1) hm))), rfl, tab_ok (G := ⟨K, mg, w, none⟩) X N hk hb⟩
  · have hc := List.all_eq_true.mp f1 x hx
    obtain ⟨z1, z2, z3, z4⟩ := He.exc_ok (hfa (.exc x) (by unfold Hd.fa; exact List.mem_append_right _ (List.mem_append_right _ (List.mem_append_left _ (List.mem_map_of_mem hx)))))
    exact ⟨_, hcls x hc, ⟨z1, z2, z3, z4⟩, excB_ok (List.all_eq_true.mp x4 x hx)⟩
  · have hk : d.kiT.lookup (c, y) = some b := hk
    have hm := mem_lk hk
    have hb : kitB K ((c, y), b) = true := List.all_eq_true.mp x3 _ hm
    have hf := List.all_eq_true.mp f2 _ hm
    obtain ⟨c1, c2⟩ := He.ba hf
    have hb : PySem.W.kitOne K (.ref (He.ga K c)) (clsU K y) = some b := of_decide_eq_true hb
    have hC := hcls c c1
    by_cases ey : y = ("ValueError" : Str)
    · subst ey
      refine ⟨.ty "ValueError", .type "ValueError", ⟨.ty _, .inr ⟨hfree _ List.mem_cons_self, by decide +kernel⟩⟩, fun C q => ?_⟩
      have q : mg c = some (.ref C) := q
      rw [hC] at q
      cases q
      exact hb
    · have hy : d.cls.contains y = true := by
        rcases Bool.or_eq_true_iff.mp c2 with c2 | c2
        · exact absurd (of_decide_eq_true c2) ey
        · exact c2
      refine ⟨.ref (He.ga K y), .ref (He.ga K y), ⟨.own _, .inl ⟨_, hcls y hy, rfl⟩⟩, fun C q => ?_⟩
      have q : mg c = some (.ref C) := q
      rw [hC] at q
      cases q
      have e : clsU K y = .ref (He.ga K y) := if_neg ey
      rw [e] at hb
      exact hb
  · have hk : d.sbT.lookup (c, y) = some b := hk
    have hm := mem_lk hk
    have hf := List.all_eq_true.mp f3 _ hm
    obtain ⟨c1, c2⟩ := He.ba hf
    exact ⟨_, _, hcls c c1, hcls y c2, He.exm_ok (hfa _ (by unfold Hd.fa; exact List.mem_append_right _ (List.mem_append_right _ (List.mem_append_right _ (List.mem_append_left _ (List.mem_map_of_mem (f := fun p : (Str × Str) × Bool => He.Fa.exm p.1.1 p.1.2 p.2) hm))))))⟩
/-! ### a world that answers one question -/
def wf1 (b : Bool) (w : World) : World := { w with params := { w.params with followText := fun s => if s = "special-get-raises" then b else w.params.followText s } }
theorem wf1_eq (w : World) : wf1 (w.params.followText "special-get-raises") w = w := by
  obtain ⟨d, p⟩ := w
  have e : (fun s => if s = "special-get-raises" then p.followText "special-get-raises" else p.followText s) = p.followText := by
    funext s
    by_cases h : s = "special-get-raises"
    · rw [if_pos h, h]
    · rw [if_neg h]
  show World.mk d { p with followText := (fun s => if s = "special-get-raises" then p.followText "special-get-raises" else p.followText s) } = ⟨d, p⟩
  rw [e]
theorem world_of {M : World → Prop} (w : World) (h : ∀ b, M (wf1 b w)) : M w := Eq.mp (congrArg M (wf1_eq w)) (h _)
end
end Hf

namespace Kv
open PySem PySem.Spec PyProof.Rows L2 Hf
set_option autoImplicit false
def c_is_number : Sts :=
    (.cons (.ifs (.or (.val (.isi (.var 0) .bool)) (.not (.val (.isi (.var 0) .int)))) (.cons (.ret (.lit (.bl false)))
    .nil) .nil)
    (.cons (.ret (.chn .Lt .Lt (.neg (.gl "BOUND")) (.var 0) (.gl "BOUND")))
    .nil))
def f_is_number : Df := ⟨["thing"], 1, c_is_number, false⟩
def c_is_value : Sts :=
    (.cons (.set 1 (.lst (.cons (.var 0) .nil)))
    (.cons (.set 2 (.lit (.int 0)))
    (.cons (.whl (.and (.val (.var 1)) (.val (.cmp .LtE (.var 2) (.gl "MOST_WEIGHT")))) (.cons (.pop (.one 3) 1)
    (.cons (.aug 2 .Add (.lit (.int 1)))
    (.cons (.ifs (.val (.isi (.var 3) .tuple)) (.cons (.ext 1 (.var 3))
    .nil) (.cons (.ifs (.not (.val (.call "is_number" (.cons (.var 3) .nil)))) (.cons (.ret (.lit (.bl false)))
    .nil) .nil)
    .nil))
    .nil))))
    (.cons (.ret (.cmp .LtE (.var 2) (.gl "MOST_WEIGHT")))
    .nil))))
def f_is_value : Df := ⟨["thing", "waiting", "weighed", "part"], 1, c_is_value, false⟩
def c_need_number : Sts :=
    (.cons (.ifs (.val (.isi (.var 0) .tuple)) (.cons (.raise "NoNumber")
    .nil) .nil)
    .nil)
def f_need_number : Df := ⟨["value"], 1, c_need_number, false⟩
def c_need_numbers : Sts :=
    (.cons (.expr (.call "need_number" (.cons (.var 0) .nil)))
    (.cons (.expr (.call "need_number" (.cons (.var 1) .nil)))
    .nil))
def f_need_numbers : Df := ⟨["one", "other"], 2, c_need_numbers, false⟩
def c_need_list : Sts :=
    (.cons (.ifs (.not (.val (.isi (.var 0) .tuple))) (.cons (.raise "NoList")
    .nil) .nil)
    .nil)
def f_need_list : Df := ⟨["value"], 1, c_need_list, false⟩
def c_need_parts : Sts :=
    (.cons (.expr (.call "need_list" (.cons (.var 0) .nil)))
    (.cons (.ifs (.not (.val (.var 0))) (.cons (.raise "NoFirst")
    .nil) .nil)
    .nil))
def f_need_parts : Df := ⟨["value"], 1, c_need_parts, false⟩
def c_plus : Sts :=
    (.cons (.expr (.call "need_numbers" (.cons (.var 0) (.cons (.var 1) .nil))))
    (.cons (.ret (.bin .Add (.var 0) (.var 1)))
    .nil))
def f_plus : Df := ⟨["one", "other"], 2, c_plus, false⟩
def c_minus : Sts :=
    (.cons (.expr (.call "need_numbers" (.cons (.var 0) (.cons (.var 1) .nil))))
    (.cons (.ret (.bin .Sub (.var 0) (.var 1)))
    .nil))
def f_minus : Df := ⟨["one", "other"], 2, c_minus, false⟩
def c_times : Sts :=
    (.cons (.expr (.call "need_numbers" (.cons (.var 0) (.cons (.var 1) .nil))))
    (.cons (.ret (.bin .Mult (.var 0) (.var 1)))
    .nil))
def f_times : Df := ⟨["one", "other"], 2, c_times, false⟩
def c_over : Sts :=
    (.cons (.expr (.call "need_numbers" (.cons (.var 0) (.cons (.var 1) .nil))))
    (.cons (.ifs (.val (.cmp .Eq (.var 1) (.lit (.int 0)))) (.cons (.raise "ByNought")
    .nil) .nil)
    (.cons (.ret (.bin .FloorDiv (.var 0) (.var 1)))
    .nil)))
def f_over : Df := ⟨["one", "other"], 2, c_over, false⟩
def c_less : Sts :=
    (.cons (.expr (.call "need_numbers" (.cons (.var 0) (.cons (.var 1) .nil))))
    (.cons (.ret (.ite (.val (.cmp .Lt (.var 0) (.var 1))) (.lit (.int 1)) (.lit (.int 0))))
    .nil))
def f_less : Df := ⟨["one", "other"], 2, c_less, false⟩
def c_down : Sts :=
    (.cons (.expr (.call "need_number" (.cons (.var 0) .nil)))
    (.cons (.ifs (.val (.cmp .LtE (.var 0) (.lit (.int 0)))) (.cons (.raise "NoDown")
    .nil) .nil)
    (.cons (.ret (.bin .Sub (.var 0) (.lit (.int 1))))
    .nil)))
def f_down : Df := ⟨["number"], 1, c_down, false⟩
def c_first : Sts :=
    (.cons (.expr (.call "need_parts" (.cons (.var 0) .nil)))
    (.cons (.ret (.idx (.var 0) (.lit (.int 0))))
    .nil))
def f_first : Df := ⟨["parts"], 1, c_first, false⟩
def c_rest : Sts :=
    (.cons (.expr (.call "need_parts" (.cons (.var 0) .nil)))
    (.cons (.ret (.slc (.var 0) (.some (.lit (.int 1))) .none))
    .nil))
def f_rest : Df := ⟨["parts"], 1, c_rest, false⟩
def c_empty : Sts :=
    (.cons (.expr (.call "need_list" (.cons (.var 0) .nil)))
    (.cons (.ret (.ite (.val (.var 0)) (.lit (.int 0)) (.lit (.int 1))))
    .nil))
def f_empty : Df := ⟨["parts"], 1, c_empty, false⟩
def c_same : Sts :=
    (.cons (.ret (.ite (.val (.cmp .Eq (.var 0) (.var 1))) (.lit (.int 1)) (.lit (.int 0))))
    .nil)
def f_same : Df := ⟨["one", "other"], 2, c_same, false⟩
def c_joined : Sts :=
    (.cons (.expr (.call "need_list" (.cons (.var 1) .nil)))
    (.cons (.ret (.tup (.cons (.var 0) (.star (.var 1) .nil))))
    .nil))
def f_joined : Df := ⟨["value", "parts"], 2, c_joined, false⟩
def c_listed : Sts :=
    (.cons (.ret (.var 0))
    .nil)
def f_listed : Df := ⟨["parts"], 0, c_listed, true⟩
def c_done : Sts :=
    (.cons (.set 2 (.idx (.gl "ACTIONS") (.var 0)))
    (.cons (.set 3 (.star 2 (.var 1)))
    (.cons (.ifs (.not (.val (.call "is_value" (.cons (.var 3) .nil)))) (.cons (.raise "TooGreat")
    .nil) .nil)
    (.cons (.ret (.var 3))
    .nil))))
def f_done : Df := ⟨["operation", "values", "action", "told"], 2, c_done, false⟩
def c__law_cell_at : Sts :=
    (.cons (.ifs (.val (.cmp .Lt (.var 1) (.bi .len (.var 0)))) (.cons (.ret (.idx (.var 0) (.var 1)))
    .nil) .nil)
    (.cons (.ret (.lit (.int 0)))
    .nil))
def f__law_cell_at : Df := ⟨["_law_script", "_law_k"], 2, c__law_cell_at, false⟩
def c__law_next : Sts :=
    (.cons (.set 1 (.bin .Mod (.bin .Add (.bin .Mult (.var 0) (.lit (.int 48271))) (.lit (.int 11))) (.lit (.int 2147483647))))
    (.cons (.ret (.bin .Mod (.bin .Mult (.var 1) (.var 1)) (.lit (.int 2147483629))))
    .nil))
def f__law_next : Df := ⟨["_law_pick", "_law_more"], 1, c__law_next, false⟩
def c__law_value : Sts :=
    (.cons (.set 1 (.lst (.cons (.lit (.int 0)) (.cons (.lit (.int 1)) (.cons (.lit (.int 2)) (.cons (.lit (.int 3)) (.cons (.lit (.int 5)) (.cons (.neg (.lit (.int 1))) (.cons (.neg (.lit (.int 4))) (.cons (.tup .nil) (.cons (.tup (.cons (.lit (.int 1)) .nil)) (.cons (.tup (.cons (.lit (.int 2)) (.cons (.lit (.int 0)) .nil))) (.cons (.tup (.cons (.lit (.int 1)) (.cons (.lit (.int 2)) (.cons (.lit (.int 3)) .nil)))) (.cons (.tup (.cons (.tup .nil) (.cons (.lit (.int 1)) .nil))) (.cons (.tup (.cons (.tup (.cons (.lit (.int 1)) (.cons (.lit (.int 2)) .nil))) (.cons (.tup (.cons (.lit (.int 3)) .nil)) .nil))) (.cons (.tup (.cons (.lit (.int 4)) (.cons (.tup (.cons (.lit (.int 5)) (.cons (.tup (.cons (.lit (.int 6)) .nil)) .nil))) .nil))) .nil))))))))))))))))
    (.cons (.ifs (.val (.cmp .Eq (.bin .Mod (.var 0) (.lit (.int 16))) (.lit (.int 14)))) (.cons (.ret (.bin .Add (.bin .Sub (.bin .Mod (.bin .FloorDiv (.var 0) (.lit (.int 16))) (.bin .Sub (.bin .Mult (.lit (.int 2)) (.bin .Pow (.lit (.int 10)) (.lit (.int 18)))) (.lit (.int 1)))) (.bin .Pow (.lit (.int 10)) (.lit (.int 18)))) (.lit (.int 1))))
    .nil) .nil)
    (.cons (.ifs (.val (.cmp .Eq (.bin .Mod (.var 0) (.lit (.int 16))) (.lit (.int 15)))) (.cons (.ret (.bi .tuple (.comp (.one 2) [2] (.rng1 (.bin .Mod (.bin .FloorDiv (.var 0) (.lit (.int 16))) (.lit (.int 9)))) .nil (.bin .Mod (.bin .FloorDiv (.var 0) (.lit (.int 16))) (.bin .Add (.var 2) (.lit (.int 2)))))))
    .nil) .nil)
    (.cons (.ret (.idx (.var 1) (.bin .Mod (.var 0) (.lit (.int 16)))))
    .nil))))
def f__law_value : Df := ⟨["_law_pick", "_law_some", "_law_k"], 1, c__law_value, false⟩
def c__law_same : Sts :=
    (.cons (.ifs (.val (.isi (.var 1) .tuple)) (.cons (.ifs (.or (.not (.val (.isi (.var 0) .tuple))) (.val (.cmp .NotEq (.bi .len (.var 0)) (.bi .len (.var 1))))) (.cons (.ret (.lit (.bl false)))
    .nil) .nil)
    (.cons (.for_ (.one 2) (.rng1 (.bi .len (.var 1))) (.cons (.ifs (.not (.val (.call "_law_same" (.cons (.idx (.var 0) (.var 2)) (.cons (.idx (.var 1) (.var 2)) .nil))))) (.cons (.ret (.lit (.bl false)))
    .nil) .nil)
    .nil))
    (.cons (.ret (.lit (.bl true)))
    .nil))) .nil)
    (.cons (.ifs (.val (.isi (.var 1) .str)) (.cons (.ret (.and (.isi (.var 0) .str) (.cmp .Eq (.var 0) (.var 1))))
    .nil) .nil)
    (.cons (.ret (.and (.isi (.var 0) .int) (.and (.not (.isi (.var 0) .bool)) (.cmp .Eq (.var 0) (.var 1)))))
    .nil)))
def f__law_same : Df := ⟨["_law_found", "_law_due", "_law_k"], 2, c__law_same, false⟩
def c__law_weight : Sts :=
    (.cons (.ifs (.val (.isi (.var 0) .tuple)) (.cons (.ret (.bin .Add (.lit (.int 1)) (.bi .sum (.comp (.one 1) [1] (.seq (.var 0)) .nil (.call "_law_weight" (.cons (.var 1) .nil))))))
    .nil) .nil)
    (.cons (.ret (.lit (.int 1)))
    .nil))
def f__law_weight : Df := ⟨["_law_value_here", "_law_one"], 1, c__law_weight, false⟩
def c__law_fit : Sts :=
    (.cons (.ifs (.val (.isi (.var 0) .tuple)) (.cons (.ret (.tup (.cons (.cmp .LtE (.call "_law_weight" (.cons (.var 0) .nil)) (.lit (.int 50))) (.cons (.idx (.lst (.cons (.var 0) (.cons (.lit (.str "TooGreat")) .nil))) (.bi .int (.cmp .Gt (.call "_law_weight" (.cons (.var 0) .nil)) (.lit (.int 50))))) .nil))))
    .nil) .nil)
    (.cons (.ret (.tup (.cons (.cmp .Lt (.bi .abs (.var 0)) (.bin .Pow (.lit (.int 10)) (.lit (.int 18)))) (.cons (.idx (.lst (.cons (.var 0) (.cons (.lit (.str "TooGreat")) .nil))) (.bi .int (.cmp .GtE (.bi .abs (.var 0)) (.bin .Pow (.lit (.int 10)) (.lit (.int 18)))))) .nil))))
    .nil))
def f__law_fit : Df := ⟨["_law_value_here"], 1, c__law_fit, false⟩
def c__law_counted : Sts :=
    (.cons (.ifs (.or (.val (.isi (.var 1) .tuple)) (.val (.isi (.var 2) .tuple))) (.cons (.ret (.tup (.cons (.lit (.bl false)) (.cons (.lit (.str "NoNumber")) .nil))))
    .nil) .nil)
    (.cons (.ifs (.val (.cmp .Eq (.var 0) (.lit (.str "over")))) (.cons (.ifs (.val (.cmp .Eq (.var 2) (.lit (.int 0)))) (.cons (.ret (.tup (.cons (.lit (.bl false)) (.cons (.lit (.str "ByNought")) .nil))))
    .nil) .nil)
    (.cons (.ret (.call "_law_fit" (.cons (.bin .FloorDiv (.var 1) (.var 2)) .nil)))
    .nil)) .nil)
    (.cons (.ifs (.val (.cmp .Eq (.var 0) (.lit (.str "less")))) (.cons (.ret (.tup (.cons (.lit (.bl true)) (.cons (.bi .int (.cmp .Lt (.var 1) (.var 2))) .nil))))
    .nil) .nil)
    (.cons (.ret (.call "_law_fit" (.cons (.idx (.dict ["plus", "minus", "times"] (.cons (.bin .Add (.var 1) (.var 2)) (.cons (.bin .Sub (.var 1) (.var 2)) (.cons (.bin .Mult (.var 1) (.var 2)) .nil)))) (.var 0)) .nil)))
    .nil))))
def f__law_counted : Df := ⟨["_law_operation", "_law_one", "_law_other"], 3, c__law_counted, false⟩
def c__law_taken : Sts :=
    (.cons (.ifs (.val (.cmp .Eq (.var 0) (.lit (.str "down")))) (.cons (.ifs (.val (.isi (.var 1) .tuple)) (.cons (.ret (.tup (.cons (.lit (.bl false)) (.cons (.lit (.str "NoNumber")) .nil))))
    .nil) .nil)
    (.cons (.ret (.tup (.cons (.cmp .Gt (.var 1) (.lit (.int 0))) (.cons (.idx (.lst (.cons (.bin .Sub (.var 1) (.lit (.int 1))) (.cons (.lit (.str "NoDown")) .nil))) (.bi .int (.cmp .LtE (.var 1) (.lit (.int 0))))) .nil))))
    .nil)) .nil)
    (.cons (.ifs (.not (.val (.isi (.var 1) .tuple))) (.cons (.ret (.tup (.cons (.lit (.bl false)) (.cons (.lit (.str "NoList")) .nil))))
    .nil) .nil)
    (.cons (.ifs (.val (.cmp .Eq (.var 0) (.lit (.str "empty")))) (.cons (.ret (.tup (.cons (.lit (.bl true)) (.cons (.bi .int (.cmp .Eq (.bi .len (.var 1)) (.lit (.int 0)))) .nil))))
    .nil) .nil)
    (.cons (.ifs (.val (.cmp .Eq (.bi .len (.var 1)) (.lit (.int 0)))) (.cons (.ret (.tup (.cons (.lit (.bl false)) (.cons (.lit (.str "NoFirst")) .nil))))
    .nil) .nil)
    (.cons (.ifs (.val (.cmp .Eq (.var 0) (.lit (.str "first")))) (.cons (.ret (.tup (.cons (.lit (.bl true)) (.cons (.idx (.var 1) (.lit (.int 0))) .nil))))
    .nil) .nil)
    (.cons (.ret (.tup (.cons (.lit (.bl true)) (.cons (.slc (.var 1) (.some (.lit (.int 1))) .none) .nil))))
    .nil))))))
def f__law_taken : Df := ⟨["_law_operation", "_law_value_here"], 2, c__law_taken, false⟩
def c__law_done : Sts :=
    (.cons (.ifs (.val (.cmp .Eq (.var 0) (.lit (.str "list")))) (.cons (.ret (.call "_law_fit" (.cons (.bi .tuple (.var 1)) .nil)))
    .nil) .nil)
    (.cons (.ifs (.val (.cmp .Eq (.var 0) (.lit (.str "same")))) (.cons (.ret (.tup (.cons (.lit (.bl true)) (.cons (.bi .int (.cmp .Eq (.idx (.var 1) (.lit (.int 0))) (.idx (.var 1) (.lit (.int 1))))) .nil))))
    .nil) .nil)
    (.cons (.ifs (.val (.cmp .In (.var 0) (.tup (.cons (.lit (.str "first")) (.cons (.lit (.str "rest")) (.cons (.lit (.str "empty")) (.cons (.lit (.str "down")) .nil))))))) (.cons (.ret (.call "_law_taken" (.cons (.var 0) (.cons (.idx (.var 1) (.lit (.int 0))) .nil))))
    .nil) .nil)
    (.cons (.ifs (.val (.cmp .NotEq (.var 0) (.lit (.str "join")))) (.cons (.ret (.call "_law_counted" (.cons (.var 0) (.cons (.idx (.var 1) (.lit (.int 0))) (.cons (.idx (.var 1) (.lit (.int 1))) .nil)))))
    .nil) .nil)
    (.cons (.ifs (.not (.val (.isi (.idx (.var 1) (.lit (.int 1))) .tuple))) (.cons (.ret (.tup (.cons (.lit (.bl false)) (.cons (.lit (.str "NoList")) .nil))))
    .nil) .nil)
    (.cons (.ret (.call "_law_fit" (.cons (.bin .Add (.tup (.cons (.idx (.var 1) (.lit (.int 0))) .nil)) (.idx (.var 1) (.lit (.int 1)))) .nil)))
    .nil))))))
def f__law_done : Df := ⟨["_law_operation", "_law_values"], 2, c__law_done, false⟩
structure HasV (pg : Pg) : Prop where
  l_is_number : pg.fs.lookup ("is_number" : Str) = some f_is_number
  l_is_value : pg.fs.lookup ("is_value" : Str) = some f_is_value
  l_need_number : pg.fs.lookup ("need_number" : Str) = some f_need_number
  l_need_numbers : pg.fs.lookup ("need_numbers" : Str) = some f_need_numbers
  l_need_list : pg.fs.lookup ("need_list" : Str) = some f_need_list
  l_need_parts : pg.fs.lookup ("need_parts" : Str) = some f_need_parts
  l_plus : pg.fs.lookup ("plus" : Str) = some f_plus
  l_minus : pg.fs.lookup ("minus" : Str) = some f_minus
  l_times : pg.fs.lookup ("times" : Str) = some f_times
  l_over : pg.fs.lookup ("over" : Str) = some f_over
  l_less : pg.fs.lookup ("less" : Str) = some f_less
  l_down : pg.fs.lookup ("down" : Str) = some f_down
  l_first : pg.fs.lookup ("first" : Str) = some f_first
  l_rest : pg.fs.lookup ("rest" : Str) = some f_rest
  l_empty : pg.fs.lookup ("empty" : Str) = some f_empty
  l_same : pg.fs.lookup ("same" : Str) = some f_same
  l_joined : pg.fs.lookup ("joined" : Str) = some f_joined
  l_listed : pg.fs.lookup ("listed" : Str) = some f_listed
  l_done : pg.fs.lookup ("done" : Str) = some f_done
  l__law_cell_at : pg.fs.lookup ("_law_cell_at" : Str) = some f__law_cell_at
  l__law_next : pg.fs.lookup ("_law_next" : Str) = some f__law_next
  l__law_value : pg.fs.lookup ("_law_value" : Str) = some f__law_value
  l__law_same : pg.fs.lookup ("_law_same" : Str) = some f__law_same
  l__law_weight : pg.fs.lookup ("_law_weight" : Str) = some f__law_weight
  l__law_fit : pg.fs.lookup ("_law_fit" : Str) = some f__law_fit
  l__law_counted : pg.fs.lookup ("_law_counted" : Str) = some f__law_counted
  l__law_taken : pg.fs.lookup ("_law_taken" : Str) = some f__law_taken
  l__law_done : pg.fs.lookup ("_law_done" : Str) = some f__law_done
  wf : pg.wf = 1000000
  g_B : pg.mo.gl "BOUND" = some (.int 1000000000000000000)
  g_M : pg.mo.gl "MOST_WEIGHT" = some (.int 50)
theorem cN {pg : Pg} {n : Nat} {f : Str} {df : Df} (h : pg.fs.lookup f = some df) (ds : List D) : callN pg (n + 1) f ds = runD (pg.tb n) pg.wf df ds := by
  show (match pg.fs.lookup f with | some df => runD ⟨callN pg n, pg.mo.gl, arN pg.fs, pg.mo.ki, pg.mo.sub, pg.hot⟩ pg.wf df ds | none => .fail) = _
  rw [h]; rfl
theorem tb_fn {pg : Pg} {n : Nat} : (pg.tb n).fn = callN pg n := rfl
theorem tb_gl {pg : Pg} {n : Nat} : (pg.tb n).gl = pg.mo.gl := rfl
theorem tb_ar {pg : Pg} {n : Nat} : (pg.tb n).ar = arN pg.fs := rfl
theorem tb_ki {pg : Pg} {n : Nat} : (pg.tb n).ki = pg.mo.ki := rfl
theorem tb_sub {pg : Pg} {n : Nat} : (pg.tb n).sub = pg.mo.sub := rfl
theorem tb_hot {pg : Pg} {n : Nat} : (pg.tb n).hot = pg.hot := rfl
theorem sz (k : Nat) (h : k ≤ 1000 := by decide) : k ≤ sizeLine := by rw [sizeLine_eq]; omega
theorem lg (n : Nat) (h : n ≤ 1000 := by decide) : Nat.log2 n < 9000 := by
  have : Nat.log2 n ≤ n := Nat.log2_le_self n
  omega
theorem ix0 (n : Nat) : ixN (n + 1) 0 = some 0 := by
  simp [ixN]
theorem ixN_nat {n k : Nat} (h : k < n) : ixN n (k : Int) = some k := by
  simp [ixN, h]
theorem atI_nat {xs : List D} {k : Nat} (h : k < xs.length) : atI xs (k : Int) = some xs[k] := by
  simp [atI, ixN_nat h]
/-! ### == -/
theorem eqI (i j : Int) : D.eqD (.int i) (.int j) = .ok (decide (i = j)) := by
  simp [D.eqD, D.pl, D.toP, PyData.canLay0, PyData.depth, PyData.eqv]
  by_cases h : i = j <;> simp [h]
theorem eq_bl (i j : Bool) : D.eqD (.bl i) (.bl j) = .ok (decide (i = j)) := by
  cases i <;> cases j <;> simp [D.eqD, D.pl, D.toP, PyData.canLay0, PyData.depth, PyData.eqv]
theorem eq_str (x y : Str) (hx : PyData.strOk x = true) (hy : PyData.strOk y = true) : D.eqD (.str x) (.str y) = .ok (decide (x = y)) := by
  simp [D.eqD, D.pl, D.toP, PyData.canLay0, PyData.depth, PyData.eqv, hx, hy]
  try (by_cases h : x = y <;> simp [h])
/-! ### things: leaves and tuples of things -/
inductive Leaf : D → Prop
  | non : Leaf .non
  | bl (b : Bool) : Leaf (.bl b)
  | int (i : Int) : Leaf (.int i)
  | str (x : Str) (h : PyData.strOk x = true) : Leaf (.str x)
inductive Tr : D → Prop
  | leaf {d : D} (h : Leaf d) : Tr d
  | tup {xs : List D} (h : ∀ d ∈ xs, Tr d) : Tr (.tup xs)
def isNum : D → Bool
  | .int i => decide (-1000000000000000000 < i) && decide (i < 1000000000000000000)
  | _ => false
mutual
def wt : D → Nat
  | .tup xs => 1 + wts xs
  | _ => 1
def wts : List D → Nat
  | [] => 0
  | d :: ds => wt d + wts ds
end
mutual
def gd : D → Bool
  | .tup xs => gds xs
  | d => isNum d
def gds : List D → Bool
  | [] => true
  | d :: ds => gd d && gds ds
end
mutual
def dep : D → Nat
  | .tup xs => 1 + deps xs
  | _ => 0
def deps : List D → Nat
  | [] => 0
  | d :: ds => max (dep d) (deps ds)
end
theorem wts_app (a b : List D) : wts (a ++ b) = wts a + wts b := by
  induction a with
  | nil => simp [wts]
  | cons d r ih => simp [wts, ih]; omega
theorem gds_app (a b : List D) : gds (a ++ b) = (gds a && gds b) := by
  induction a with
  | nil => simp [gds]
  | cons d r ih => simp [gds, ih, Bool.and_assoc]
theorem deps_app (a b : List D) : deps (a ++ b) = max (deps a) (deps b) := by
  induction a with
  | nil => simp [deps]
  | cons d r ih => simp only [List.cons_append, deps, ih]; omega
theorem wt_pos (d : D) : 1 ≤ wt d := by cases d <;> simp [wt]
theorem wts_len (a : List D) : a.length ≤ wts a := by
  induction a with
  | nil => exact Nat.zero_le _
  | cons d r ih => have := wt_pos d; simp only [List.length_cons, wts]; omega
theorem wts_mem {xs : List D} {d : D} (h : d ∈ xs) : wt d ≤ wts xs := by
  induction xs with
  | nil => cases h
  | cons x r ih =>
    simp only [wts]
    rcases List.mem_cons.mp h with e | h
    · subst e; omega
    · have := ih h; omega
theorem deps_mem {xs : List D} {d : D} (h : d ∈ xs) : dep d ≤ deps xs := by
  induction xs with
  | nil => cases h
  | cons x r ih =>
    simp only [deps]
    rcases List.mem_cons.mp h with e | h
    · subst e; omega
    · have := ih h; omega
mutual
theorem dep_wt : ∀ d : D, dep d ≤ wt d
  | .tup xs => by have := deps_wts xs; simp only [dep, wt]; omega
  | .non => by simp [dep, wt]
  | .bl _ => by simp [dep, wt]
  | .int _ => by simp [dep, wt]
  | .str _ => by simp [dep, wt]
  | .lst _ => by simp [dep, wt]
  | .fn _ => by simp [dep, wt]
  | .exc _ => by simp [dep, wt]
  | .dct _ _ => by simp [dep, wt]
theorem deps_wts : ∀ ds : List D, deps ds ≤ wts ds
  | [] => by simp [deps, wts]
  | d :: r => by have := dep_wt d; have := deps_wts r; simp only [deps, wts]; omega
end
theorem last_of {W : List D} (h : W ≠ []) : ∃ W' p, W = W' ++ [p] := ⟨W.dropLast, W.getLast h, (List.dropLast_concat_getLast h).symm⟩
theorem leaf_of {d : D} (h : Tr d) : Leaf d ∨ ∃ xs, d = .tup xs ∧ ∀ x ∈ xs, Tr x := by
  cases h with
  | leaf h => exact .inl h
  | tup h => exact .inr ⟨_, rfl, h⟩
theorem leaf_wt {d : D} (h : Leaf d) : wt d = 1 ∧ gd d = isNum d ∧ dep d = 0 := by cases h <;> simp [wt, gd, dep]
theorem seq_assoc (r : Fl) (f g : En → Fl) : (r.seq f).seq g = r.seq fun ρ => (f ρ).seq g := by cases r <;> rfl
theorem compL_fm {f : D → Res (Option D)} {g : D → Option D} : ∀ {xs : List D}, (∀ d ∈ xs, f d = .ok (g d)) → compL f xs = .ok (xs.filterMap g)
  | [], _ => rfl
  | d :: xs, h => by
    rw [compL, h d List.mem_cons_self, compL_fm (xs := xs) fun d hd => h d (List.mem_cons_of_mem _ hd)]
    cases e : g d <;> simp [Res.bind, e]
theorem compL_map {f : D → Res (Option D)} {g : D → D} {xs : List D} (h : ∀ d ∈ xs, f d = .ok (some (g d))) : compL f xs = .ok (xs.map g) := by
  rw [compL_fm (g := fun d => some (g d)) h]
  simp
theorem ints_map {α : Type} (xs : List α) (f : α → Int) : intsOf (xs.map fun d => D.int (f d)) = some (xs.map f) := by
  induction xs with
  | nil => rfl
  | cons d r ih => simp [intsOf, ih]
theorem sum_wt (xs : List D) : (xs.map fun d => (wt d : Int)).sum = (wts xs : Int) := by
  induction xs with
  | nil => rfl
  | cons d r ih => simp only [List.map_cons, List.sum_cons, ih, wts]; omega
mutual
theorem tr_pl : ∀ {d : D}, Tr d → d.pl = true ∧ d.toP.canLay0 = true
  | _, .leaf h => by cases h <;> simp [D.pl, D.toP, PyData.canLay0, *]
  | .tup xs, .tup h => by
    have := trs_pl (xs := xs) h
    simpa [D.pl, D.toP, PyData.canLay0] using this
theorem trs_pl : ∀ {xs : List D}, (∀ d ∈ xs, Tr d) → D.pls xs = true ∧ PyData.canLayAll0 (D.toPs xs) = true
  | [], _ => by simp [D.pls, D.toPs, PyData.canLayAll0]
  | d :: r, h => by
    have h1 := tr_pl (h d (by simp))
    have h2 := trs_pl (xs := r) (fun x hx => h x (by simp [hx]))
    simp [D.pls, D.toPs, PyData.canLayAll0, h1, h2]
end
theorem tr_int (i : Int) : Tr (.int i) := .leaf (.int i)
theorem tr_bl (b : Bool) : Tr (.bl b) := .leaf (.bl b)
section
variable {pg : Pg} {n : Nat} (H : HasV pg)
include H
theorem v_num {d : D} (h : Leaf d) : callN pg (n + 1) "is_number" [d] = .ok (false, .bl (isNum d)) := by
  rw [cN H.l_is_number]
  cases h with
  | int i =>
    by_cases h1 : -1000000000000000000 < i <;>
    simp [runD, argsD, entE, exs, ex, evT, ev, evs, evo, evc, evi, bor, getO, getF, sndR, intR, Res.bind, onR, Fl.seq, fz, usT, us, ub, uss, uso, usc, usi, isiD, okB, D.tru, negD, cmpD, opD, idxD, slcD, biD, okF, endR, setE, bindT, itemsD, tb_fn, tb_gl, tb_ar, tb_ki, tb_sub, tb_hot, f_is_number, c_is_number, tb_gl, H.g_B, isNum, h1]
  | _ => simp [runD, argsD, entE, exs, ex, evT, ev, evs, evo, evc, evi, bor, getO, getF, sndR, intR, Res.bind, onR, Fl.seq, fz, usT, us, ub, uss, uso, usc, usi, isiD, okB, D.tru, negD, cmpD, opD, idxD, slcD, biD, okF, endR, setE, bindT, itemsD, tb_fn, tb_gl, tb_ar, tb_ki, tb_sub, tb_hot, f_is_number, c_is_number, tb_gl, H.g_B, isNum]
end
/-! ### the weighing -/
def cV : Te := .and (.val (.var 1)) (.val (.cmp .LtE (.var 2) (.gl "MOST_WEIGHT")))
def bV : Sts := (.cons (.pop (.one 3) 1)
    (.cons (.aug 2 .Add (.lit (.int 1)))
    (.cons (.ifs (.val (.isi (.var 3) .tuple)) (.cons (.ext 1 (.var 3))
    .nil) (.cons (.ifs (.not (.val (.call "is_number" (.cons (.var 3) .nil)))) (.cons (.ret (.lit (.bl false)))
    .nil) .nil)
    .nil))
    .nil)))
theorem bV_tup {T : Tb} {wf : Nat} {t : D} {W xs : List D} {k : Int} {x : Option (Bool × D)} (hz : W.length + xs.length ≤ sizeLine) :
    exs T wf bV [some (false, t), some (true, .lst (W ++ [.tup xs])), some (false, .int k), x] = .nx [some (false, t), some (true, .lst (W ++ xs)), some (false, .int (k + 1)), some (false, .tup xs)] := by
  simp [runD, argsD, entE, exs, ex, evT, ev, evs, evo, evc, evi, bor, getO, getF, sndR, intR, Res.bind, onR, Fl.seq, fz, usT, us, ub, uss, uso, usc, usi, isiD, okB, D.tru, negD, cmpD, opD, idxD, slcD, biD, okF, endR, setE, bindT, itemsD, tb_fn, tb_gl, tb_ar, tb_ki, tb_sub, tb_hot, bV, iopD, hz]
theorem bV_leaf {T : Tb} {wf : Nat} {t d : D} {W : List D} {k : Int} {x : Option (Bool × D)} (hl : Leaf d) (hT : T.fn "is_number" [d] = .ok (false, .bl (isNum d))) :
    exs T wf bV [some (false, t), some (true, .lst (W ++ [d])), some (false, .int k), x] = if isNum d = true then .nx [some (false, t), some (true, .lst W), some (false, .int (k + 1)), some (false, d)] else .rt false (.bl false) := by
  cases hl with
  | int i => cases hb : isNum (.int i) <;> simp [runD, argsD, entE, exs, ex, evT, ev, evs, evo, evc, evi, bor, getO, getF, sndR, intR, Res.bind, onR, Fl.seq, fz, usT, us, ub, uss, uso, usc, usi, isiD, okB, D.tru, negD, cmpD, opD, idxD, slcD, biD, okF, endR, setE, bindT, itemsD, tb_fn, tb_gl, tb_ar, tb_ki, tb_sub, tb_hot, bV, iopD, hT, hb]
  | _ => simp [runD, argsD, entE, exs, ex, evT, ev, evs, evo, evc, evi, bor, getO, getF, sndR, intR, Res.bind, onR, Fl.seq, fz, usT, us, ub, uss, uso, usc, usi, isiD, okB, D.tru, negD, cmpD, opD, idxD, slcD, biD, okF, endR, setE, bindT, itemsD, tb_fn, tb_gl, tb_ar, tb_ki, tb_sub, tb_hot, bV, iopD, hT, isNum]
theorem cV_ok {T : Tb} {t : D} {W : List D} {k : Int} {x : Option (Bool × D)} (hg : T.gl "MOST_WEIGHT" = some (.int 50)) : evT T cV [some (false, t), some (true, .lst W), some (false, .int k), x] = .ok (!W.isEmpty && decide (k ≤ 50)) := by
  cases W <;> simp [runD, argsD, entE, exs, ex, evT, ev, evs, evo, evc, evi, bor, getO, getF, sndR, intR, Res.bind, onR, Fl.seq, fz, usT, us, ub, uss, uso, usc, usi, isiD, okB, D.tru, negD, cmpD, opD, idxD, slcD, biD, okF, endR, setE, bindT, itemsD, tb_fn, tb_gl, tb_ar, tb_ki, tb_sub, tb_hot, cV, hg]
theorem fzV (ρ : En) : fz (usT cV) ρ = ρ := rfl
/-- the loop of is_value -/
theorem loopV {T : Tb} {wf : Nat} (hg : T.gl "MOST_WEIGHT" = some (.int 50)) (hT : ∀ d, Leaf d → T.fn "is_number" [d] = .ok (false, .bl (isNum d))) (t : D) : ∀ (m : Nat) (W : List D) (k : Nat) (x : Option (Bool × D)), (∀ d ∈ W, Tr d) → wts W ≤ 1000000 → k ≤ 51 → 52 ≤ m + k →
    endR ((whN (evT T cV) (fz (usT cV)) (exs T wf bV) m [some (false, t), some (true, .lst W), some (false, .int k), x]).seq (exs T wf (.cons (.ret (.cmp .LtE (.var 2) (.gl "MOST_WEIGHT"))) .nil))) = .ok (false, .bl (gds W && decide (k + wts W ≤ 50)))
  | 0, W, k, x, _, _, h1, h2 => by omega
  | m + 1, W, k, x, hW, hz, h1, h2 => by
    rw [whN]
    simp only [fzV]
    rw [cV_ok hg]
    by_cases hk : (k : Int) ≤ 50
    · by_cases hn : W = []
      · subst hn
        have hk' : k ≤ 50 := by omega
        simp [runD, argsD, entE, exs, ex, evT, ev, evs, evo, evc, evi, bor, getO, getF, sndR, intR, Res.bind, onR, Fl.seq, fz, usT, us, ub, uss, uso, usc, usi, isiD, okB, D.tru, negD, cmpD, opD, idxD, slcD, biD, okF, endR, setE, bindT, itemsD, tb_fn, tb_gl, tb_ar, tb_ki, tb_sub, tb_hot, hg, gds, wts, hk, hk']
      · obtain ⟨W', p, rfl⟩ := last_of hn
        have hc : (!(W' ++ [p]).isEmpty && decide ((k : Int) ≤ 50)) = true := by simp [hk]
        have hp : Tr p := hW p (by simp)
        have hW' : ∀ d ∈ W', Tr d := fun d hd => hW d (by simp [hd])
        have ew : wts (W' ++ [p]) = wts W' + wt p := by rw [wts_app]; simp [wts]
        rw [hc]
        simp only [onR, if_true]
        rcases leaf_of hp with hl | ⟨xs, rfl, hx⟩
        · obtain ⟨w1, w2, _⟩ := leaf_wt hl
          rw [bV_leaf hl (hT p hl)]
          cases hb : isNum p with
          | true =>
            have ih := loopV (wf := wf) hg hT t m W' (k + 1) (some (false, p)) hW' (by omega) (by omega) (by omega)
            simp only [if_true]
            have e1 : ((k : Int) + 1) = ((k + 1 : Nat) : Int) := by omega
            have e4 : (k + 1 + wts W' ≤ 50) = (k + (wts W' + wt p) ≤ 50) := by rw [w1]; apply propext; omega
            rw [e1, ih, gds_app, ew]
            simp only [e4]
            simp [gds, w2, hb]
          | false =>
            simp [runD, argsD, entE, exs, ex, evT, ev, evs, evo, evc, evi, bor, getO, getF, sndR, intR, Res.bind, onR, Fl.seq, fz, usT, us, ub, uss, uso, usc, usi, isiD, okB, D.tru, negD, cmpD, opD, idxD, slcD, biD, okF, endR, setE, bindT, itemsD, tb_fn, tb_gl, tb_ar, tb_ki, tb_sub, tb_hot, gds_app, gds, w2, hb]
        · have e2 : wt (.tup xs) = 1 + wts xs := by simp [wt]
          have l1 := wts_len W'
          have l2 := wts_len xs
          have hsz : W'.length + xs.length ≤ sizeLine := by rw [sizeLine_eq]; omega
          rw [bV_tup hsz]
          have ih := loopV (wf := wf) hg hT t m (W' ++ xs) (k + 1) (some (false, .tup xs)) (fun d hd => (List.mem_append.mp hd).elim (hW' d) (hx d)) (by rw [wts_app]; omega) (by omega) (by omega)
          have e1 : ((k : Int) + 1) = ((k + 1 : Nat) : Int) := by omega
          simp only []
          rw [e1, ih, gds_app, gds_app, wts_app, ew]
          have e3 : gds [D.tup xs] = gds xs := by simp [gds, gd]
          have e4 : (k + 1 + (wts W' + wts xs) ≤ 50) = (k + (wts W' + wt (.tup xs)) ≤ 50) := by rw [e2]; apply propext; omega
          rw [e3]
          simp only [e4]
    · have hc : (!W.isEmpty && decide ((k : Int) ≤ 50)) = false := by simp [hk]
      rw [hc]
      have e5 : (decide (k + wts W ≤ 50)) = false := decide_eq_false (by omega)
      have e6 : decide ((k : Int) ≤ 50) = false := decide_eq_false hk
      rw [e5]
      simp [runD, argsD, entE, exs, ex, evT, ev, evs, evo, evc, evi, bor, getO, getF, sndR, intR, Res.bind, onR, Fl.seq, fz, usT, us, ub, uss, uso, usc, usi, isiD, okB, D.tru, negD, cmpD, opD, idxD, slcD, biD, okF, endR, setE, bindT, itemsD, tb_fn, tb_gl, tb_ar, tb_ki, tb_sub, tb_hot, hg, e6]
section
variable {pg : Pg} {n : Nat} (H : HasV pg)
include H
theorem v_value {d : D} (h : Tr d) (hw : wt d ≤ 1000000) : callN pg (n + 2) "is_value" [d] = .ok (false, .bl (gd d && decide (wt d ≤ 50))) := by
  rw [cN H.l_is_value]
  have L := loopV (T := pg.tb (n + 1)) (wf := pg.wf) H.g_M (fun d hd => v_num H hd) d pg.wf [d] 0 none (fun x hx => by simp at hx; subst hx; exact h) (by simpa [wts] using hw) (by omega) (by rw [H.wf]; omega)
  have e : runD (pg.tb (n + 1)) pg.wf f_is_value [d] = endR ((whN (evT (pg.tb (n + 1)) cV) (fz (usT cV)) (exs (pg.tb (n + 1)) pg.wf bV) pg.wf [some (false, d), some (true, .lst [d]), some (false, .int (0 : Nat)), none]).seq (exs (pg.tb (n + 1)) pg.wf (.cons (.ret (.cmp .LtE (.var 2) (.gl "MOST_WEIGHT"))) .nil))) := by
    rfl
  rw [e, L]
  simp [gds, wts]
theorem v_lweight : ∀ (n : Nat) (d : D), Tr d → dep d < n → wt d ≤ 1000000 → callN pg n "_law_weight" [d] = .ok (false, .int (wt d))
  | 0, d, _, h, _ => by omega
  | n + 1, d, ht, h, hw => by
    rw [cN H.l__law_weight]
    rcases leaf_of ht with hl | ⟨xs, rfl, hx⟩
    · cases hl <;> simp [runD, argsD, entE, exs, ex, evT, ev, evs, evo, evc, evi, bor, getO, getF, sndR, intR, Res.bind, onR, Fl.seq, fz, usT, us, ub, uss, uso, usc, usi, isiD, okB, D.tru, negD, cmpD, opD, idxD, slcD, biD, okF, endR, setE, bindT, itemsD, tb_fn, tb_gl, tb_ar, tb_ki, tb_sub, tb_hot, f__law_weight, c__law_weight, wt]
    · have e2 : wt (.tup xs) = 1 + wts xs := by simp [wt]
      have e3 : dep (.tup xs) = 1 + deps xs := by simp [dep]
      have hi : ∀ d ∈ xs, callN pg n "_law_weight" [d] = .ok (false, .int (wt d)) := fun d hd => by
        have := wts_mem hd
        exact v_lweight n d (hx d hd) (by have := deps_mem hd; omega) (by omega)
      have l2 := wts_len xs
      have hsz : xs.length ≤ sizeLine := by rw [sizeLine_eq]; omega
      simp only [runD, f__law_weight, c__law_weight, exs, ex, ev, evi]
      have hb : ∀ T : Tb, evT T (.val (.isi (.var 0) .tuple)) [some (false, .tup xs), none] = .ok true := fun T => by simp [runD, argsD, entE, exs, ex, evT, ev, evs, evo, evc, evi, bor, getO, getF, sndR, intR, Res.bind, onR, Fl.seq, fz, usT, us, ub, uss, uso, usc, usi, isiD, okB, D.tru, negD, cmpD, opD, idxD, slcD, biD, okF, endR, setE, bindT, itemsD, tb_fn, tb_gl, tb_ar, tb_ki, tb_sub, tb_hot]
      simp [runD, argsD, entE, exs, ex, evT, ev, evs, evo, evc, evi, bor, getO, getF, sndR, intR, Res.bind, onR, Fl.seq, fz, usT, us, ub, uss, uso, usc, usi, isiD, okB, D.tru, negD, cmpD, opD, idxD, slcD, biD, okF, endR, setE, bindT, itemsD, tb_fn, tb_gl, tb_ar, tb_ki, tb_sub, tb_hot, hb, hsz]
      rw [compL_map (g := fun d => .int (wt d)) (fun d hd => by simp [runD, argsD, entE, exs, ex, evT, ev, evs, evo, evc, evi, bor, getO, getF, sndR, intR, Res.bind, onR, Fl.seq, fz, usT, us, ub, uss, uso, usc, usi, isiD, okB, D.tru, negD, cmpD, opD, idxD, slcD, biD, okF, endR, setE, bindT, itemsD, tb_fn, tb_gl, tb_ar, tb_ki, tb_sub, tb_hot, wipeE, noX, tb_fn, hi d hd])]
      simp [runD, argsD, entE, exs, ex, evT, ev, evs, evo, evc, evi, bor, getO, getF, sndR, intR, Res.bind, onR, Fl.seq, fz, usT, us, ub, uss, uso, usc, usi, isiD, okB, D.tru, negD, cmpD, opD, idxD, slcD, biD, okF, endR, setE, bindT, itemsD, tb_fn, tb_gl, tb_ar, tb_ki, tb_sub, tb_hot, ints_map, sum_wt, e2]
end

end Kv

namespace Kv
open PySem PySem.Spec PyProof.Rows L2 Hf
set_option autoImplicit false
/-! ### equality -/
theorem pdep : ∀ (m : Nat) (d : D), wt d < m → Tr d → d.toP.depth ≤ dep d
  | 0, d, h, _ => by omega
  | m + 1, d, h, t => by
    rcases leaf_of t with hl | ⟨xs, rfl, hx⟩
    · cases hl <;> simp [D.toP, PyData.depth, dep]
    · have e2 : wt (.tup xs) = 1 + wts xs := by simp [wt]
      have key : ∀ ys : List D, (∀ y ∈ ys, y ∈ xs) → PyData.depthAll (D.toPs ys) ≤ deps ys := by
        intro ys
        induction ys with
        | nil => intro _; simp [D.toPs, PyData.depthAll, deps]
        | cons y r ih =>
          intro hm
          have h1 := pdep m y (by have := wts_mem (hm y (by simp)); omega) (hx y (hm y (by simp)))
          have h2 := ih fun z hz => hm z (by simp [hz])
          simp only [D.toPs, PyData.depthAll, deps]
          omega
      have := key xs fun _ h => h
      simp only [D.toP, PyData.depth, dep]
      omega
theorem pdeps (xs : List D) (h : ∀ x ∈ xs, Tr x) : PyData.depthAll (D.toPs xs) ≤ deps xs := by
  have := pdep (wt (.tup xs) + 1) (.tup xs) (by omega) (.tup h)
  simp only [D.toP, PyData.depth, dep] at this
  omega
mutual
theorem eqv_refl : ∀ (d : D), PyData.eqv d.toP d.toP = true
  | .non => by simp [D.toP, PyData.eqv]
  | .bl _ => by simp [D.toP, PyData.eqv]
  | .int _ => by simp [D.toP, PyData.eqv]
  | .str _ => by simp [D.toP, PyData.eqv]
  | .tup xs => by simpa [D.toP, PyData.eqv] using eqvs_refl xs
  | .lst xs => by simpa [D.toP, PyData.eqv] using eqvs_refl xs
  | .fn _ => by simp [D.toP, PyData.eqv]
  | .exc _ => by simp [D.toP, PyData.eqv]
  | .dct _ _ => by simp [D.toP, PyData.eqv]
theorem eqvs_refl : ∀ (xs : List D), PyData.eqvAll (D.toPs xs) (D.toPs xs) = true
  | [] => by simp [D.toPs, PyData.eqvAll]
  | x :: r => by simp [D.toPs, PyData.eqvAll, eqv_refl x, eqvs_refl r]
end
theorem eqD_of {a b : D} (h1 : a.pl = true) (h2 : b.pl = true) (h3 : a.toP.canLay0 = true) (h4 : b.toP.canLay0 = true) (h5 : min a.toP.depth b.toP.depth ≤ 150) : D.eqD a b = .ok (PyData.eqv a.toP b.toP) := if_pos ⟨h1, h2, h3, h4, h5⟩
theorem eq_self {d : D} (h : Tr d) (hd : dep d ≤ 140) : D.eqD d d = .ok true := by
  obtain ⟨h1, h2⟩ := tr_pl h
  have h3 := pdep (wt d + 1) d (by omega) h
  rw [eqD_of h1 h1 h2 h2 (by omega), eqv_refl]
theorem lst_pl {xs : List D} (h : ∀ d ∈ xs, Tr d) : (D.lst xs).pl = true ∧ (D.lst xs).toP.canLay0 = true ∧ (D.lst xs).toP.depth ≤ deps xs + 1 := by
  obtain ⟨h1, h2⟩ := trs_pl h
  have h3 := pdeps xs h
  refine ⟨by simpa [D.pl] using h1, by simpa [D.toP, PyData.canLay0] using h2, by simp only [D.toP, PyData.depth]; omega⟩
theorem eq_selfL {xs : List D} (h : ∀ d ∈ xs, Tr d) (hd : deps xs ≤ 140) : D.eqD (.lst xs) (.lst xs) = .ok true := by
  obtain ⟨h1, h2, h3⟩ := lst_pl h
  rw [eqD_of h1 h1 h2 h2 (by omega), eqv_refl]
/-- what has no truth values in it -/
inductive Sm : D → Prop
  | int (i : Int) : Sm (.int i)
  | str (x : Str) (h : PyData.strOk x = true) : Sm (.str x)
  | tup {xs : List D} (h : ∀ d ∈ xs, Sm d) : Sm (.tup xs)
theorem Sm.tr : ∀ {d : D}, Sm d → Tr d
  | _, .int i => tr_int i
  | _, .str x h => .leaf (.str x h)
  | _, .tup h => .tup fun d hd => (h d hd).tr
theorem eqv_sm : ∀ (m : Nat) (d e : D), wt d < m → Sm d → Sm e → PyData.eqv d.toP e.toP = true → d = e
  | 0, d, e, h, _, _, _ => by omega
  | m + 1, d, e, h, hd, he, q => by
    cases hd with
    | int i => cases he <;> simp [D.toP, PyData.eqv] at q ⊢ <;> exact q
    | str x _ => cases he <;> simp [D.toP, PyData.eqv] at q ⊢ <;> exact q
    | @tup xs hx =>
      cases he with
      | int _ => simp [D.toP, PyData.eqv] at q
      | str _ _ => simp [D.toP, PyData.eqv] at q
      | @tup ys hy =>
        have e2 : wt (.tup xs) = 1 + wts xs := by simp [wt]
        have key : ∀ (as bs : List D), wts as < m → (∀ a ∈ as, Sm a) → (∀ b ∈ bs, Sm b) → PyData.eqvAll (D.toPs as) (D.toPs bs) = true → as = bs := by
          intro as
          induction as with
          | nil => intro bs _ _ _ q; cases bs <;> simp [D.toPs, PyData.eqvAll] at q ⊢
          | cons a r ih =>
            intro bs hw ha hb q
            cases bs with
            | nil => simp [D.toPs, PyData.eqvAll] at q
            | cons b r2 =>
              simp only [wts] at hw
              simp only [D.toPs, PyData.eqvAll, Bool.and_eq_true] at q
              rw [eqv_sm m a b (by omega) (ha a (by simp)) (hb b (by simp)) q.1, ih r2 (by have := wt_pos a; omega) (fun x hx => ha x (by simp [hx])) (fun x hx => hb x (by simp [hx])) q.2]
        rw [key xs ys (by omega) hx hy (by simpa [D.toP, PyData.eqv] using q)]
theorem eqv_smb {d e : D} (hd : Sm d) (he : Sm e) [Decidable (d = e)] : PyData.eqv d.toP e.toP = decide (d = e) := by
  by_cases h : d = e
  · subst h; simp [eqv_refl]
  · rw [decide_eq_false h]
    cases q : PyData.eqv d.toP e.toP with
    | false => rfl
    | true => exact absurd (eqv_sm _ d e (Nat.lt_succ_self _) hd he q) h
theorem eq_sm {d e : D} (hd : Sm d) (he : Sm e) (h : dep d ≤ 140) [Decidable (d = e)] : D.eqD d e = .ok (decide (d = e)) := by
  obtain ⟨h1, h2⟩ := tr_pl hd.tr
  obtain ⟨k1, k2⟩ := tr_pl he.tr
  have h3 := pdep (wt d + 1) d (by omega) hd.tr
  rw [eqD_of h1 k1 h2 k2 (by omega), eqv_smb hd he]
theorem eq_smL {xs ys : List D} (hx : ∀ d ∈ xs, Sm d) (hy : ∀ d ∈ ys, Sm d) (h : deps xs ≤ 140) [Decidable (xs = ys)] : D.eqD (.lst xs) (.lst ys) = .ok (decide (xs = ys)) := by
  obtain ⟨h1, h2, h3⟩ := lst_pl fun d hd => (hx d hd).tr
  obtain ⟨k1, k2, k3⟩ := lst_pl fun d hd => (hy d hd).tr
  rw [eqD_of h1 k1 h2 k2 (by omega)]
  congr 1
  have e1 : PyData.eqv (D.toP (.lst xs)) (D.toP (.lst ys)) = PyData.eqv (D.toP (.tup xs)) (D.toP (.tup ys)) := by simp [PyData.eqv, D.toP]
  rw [e1]
  by_cases h : xs = ys
  · subst h; simp [eqv_refl]
  · rw [decide_eq_false h]
    cases q : PyData.eqv (D.toP (.tup xs)) (D.toP (.tup ys)) with
    | false => rfl
    | true => exact absurd (by simpa using eqv_sm _ _ _ (Nat.lt_succ_self _) (.tup hx) (.tup hy) q) h
/-! ### values -/
inductive Val where
  | int (i : Int) | tup (xs : List Val)
instance : Inhabited Val := ⟨.int 0⟩
mutual
def Val.d : Val → D
  | .int i => .int i
  | .tup xs => .tup (Val.ds xs)
def Val.ds : List Val → List D
  | [] => []
  | x :: r => x.d :: Val.ds r
end
theorem ds_map (xs : List Val) : Val.ds xs = xs.map Val.d := by
  induction xs with
  | nil => rfl
  | cons x r ih => rw [Val.ds, ih]; rfl
theorem ds_len (xs : List Val) : (Val.ds xs).length = xs.length := by rw [ds_map, List.length_map]
theorem ds_app (xs ys : List Val) : Val.ds (xs ++ ys) = Val.ds xs ++ Val.ds ys := by simp [ds_map]
mutual
def Val.beq : Val → Val → Bool
  | .int i, .int j => decide (i = j)
  | .tup xs, .tup ys => Val.beqs xs ys
  | .int _, .tup _ => false
  | .tup _, .int _ => false
def Val.beqs : List Val → List Val → Bool
  | [], [] => true
  | x :: r, y :: s => x.beq y && Val.beqs r s
  | [], _ :: _ => false
  | _ :: _, [] => false
end
mutual
theorem Val.beq_ok : ∀ (u v : Val), u.beq v = true ↔ u = v
  | .int i, .int j => by simp [Val.beq]
  | .tup xs, .tup ys => by simp [Val.beq, Val.beqs_ok xs ys]
  | .int _, .tup _ => by simp [Val.beq]
  | .tup _, .int _ => by simp [Val.beq]
theorem Val.beqs_ok : ∀ (u v : List Val), Val.beqs u v = true ↔ u = v
  | [], [] => by simp [Val.beqs]
  | x :: r, y :: s => by simp [Val.beqs, Val.beq_ok x y, Val.beqs_ok r s]
  | [], _ :: _ => by simp [Val.beqs]
  | _ :: _, [] => by simp [Val.beqs]
end
instance : DecidableEq Val := fun u v => decidable_of_iff _ (Val.beq_ok u v)
mutual
theorem d_inj : ∀ (u v : Val), u.d = v.d → u = v
  | .int i, .int j, h => by simpa [Val.d] using h
  | .tup xs, .tup ys, h => by simp only [Val.d, D.tup.injEq] at h; rw [ds_inj xs ys h]
  | .int _, .tup _, h => by simp [Val.d] at h
  | .tup _, .int _, h => by simp [Val.d] at h
theorem ds_inj : ∀ (u v : List Val), Val.ds u = Val.ds v → u = v
  | [], [], _ => rfl
  | x :: r, y :: s, h => by simp only [Val.ds, List.cons.injEq] at h; rw [d_inj x y h.1, ds_inj r s h.2]
  | [], _ :: _, h => by simp [Val.ds] at h
  | _ :: _, [], h => by simp [Val.ds] at h
end
mutual
def Val.ok : Val → Bool
  | .int i => decide (-1000000000000000000 < i) && decide (i < 1000000000000000000)
  | .tup xs => Val.oks xs
def Val.oks : List Val → Bool
  | [] => true
  | x :: r => x.ok && Val.oks r
end
mutual
def Val.wt : Val → Nat
  | .int _ => 1
  | .tup xs => 1 + Val.wts xs
def Val.wts : List Val → Nat
  | [] => 0
  | x :: r => x.wt + Val.wts r
end
mutual
theorem v_sm : ∀ (v : Val), Sm v.d
  | .int i => .int i
  | .tup xs => .tup (vs_sm xs)
theorem vs_sm : ∀ (xs : List Val), ∀ d ∈ Val.ds xs, Sm d
  | [], d, h => by cases h
  | x :: r, d, h => by
    rcases List.mem_cons.mp h with e | h
    · exact e ▸ v_sm x
    · exact vs_sm r d h
end
theorem v_tr (v : Val) : Tr v.d := (v_sm v).tr
theorem vs_tr (xs : List Val) : ∀ d ∈ Val.ds xs, Tr d := fun d h => (vs_sm xs d h).tr
mutual
theorem v_gd : ∀ (v : Val), gd v.d = v.ok
  | .int i => rfl
  | .tup xs => vs_gd xs
theorem vs_gd : ∀ (xs : List Val), gds (Val.ds xs) = Val.oks xs
  | [] => rfl
  | x :: r => by rw [Val.ds, gds, v_gd x, vs_gd r]; rfl
end
mutual
theorem v_wt : ∀ (v : Val), wt v.d = v.wt
  | .int i => rfl
  | .tup xs => by rw [Val.d, wt, vs_wt xs]; rfl
theorem vs_wt : ∀ (xs : List Val), wts (Val.ds xs) = Val.wts xs
  | [] => rfl
  | x :: r => by rw [Val.ds, wts, v_wt x, vs_wt r]; rfl
end
theorem Val.wt_pos (v : Val) : 1 ≤ v.wt := by rw [← v_wt]; exact Kv.wt_pos _
theorem Val.wts_len (xs : List Val) : xs.length ≤ Val.wts xs := by rw [← vs_wt, ← ds_len]; exact Kv.wts_len _
/-- what the document calls a value -/
def Val.isV (v : Val) : Bool := v.ok && decide (v.wt ≤ 50)
theorem isV_ok {v : Val} (h : v.isV = true) : v.ok = true ∧ v.wt ≤ 50 := by simpa [Val.isV] using h
theorem oks_mem {xs : List Val} (h : Val.oks xs = true) {x : Val} (hx : x ∈ xs) : x.ok = true := by
  induction xs with
  | nil => cases hx
  | cons y r ih =>
    simp only [Val.oks, Bool.and_eq_true] at h
    rcases List.mem_cons.mp hx with e | hx
    · exact e ▸ h.1
    · exact ih h.2 hx
theorem oks_of {xs : List Val} (h : ∀ x ∈ xs, x.ok = true) : Val.oks xs = true := by
  induction xs with
  | nil => rfl
  | cons y r ih => simp only [Val.oks, Bool.and_eq_true]; exact ⟨h y (by simp), ih fun x hx => h x (by simp [hx])⟩
theorem Val.wts_mem {xs : List Val} {x : Val} (hx : x ∈ xs) : x.wt ≤ Val.wts xs := by
  induction xs with
  | nil => cases hx
  | cons y r ih =>
    simp only [Val.wts]
    rcases List.mem_cons.mp hx with e | hx
    · subst e; omega
    · have := ih hx; omega
theorem v_dep (v : Val) : dep v.d ≤ v.wt := by have := dep_wt v.d; rw [v_wt] at this; exact this
theorem eq_val (u v : Val) (h : u.wt ≤ 140) : D.eqD u.d v.d = .ok (decide (u = v)) := by
  by_cases e : u = v
  · subst e
    rw [eq_self (v_tr u) (by have := v_dep u; omega)]
    simp
  · have n : ¬ u.d = v.d := fun q => e (d_inj _ _ q)
    obtain ⟨h1, h2⟩ := tr_pl (v_tr u)
    obtain ⟨k1, k2⟩ := tr_pl (v_tr v)
    have h3 := pdep (Kv.wt u.d + 1) u.d (by omega) (v_tr u)
    have h4 := v_dep u
    rw [eqD_of h1 k1 h2 k2 (by omega), decide_eq_false e]
    congr 1
    cases q : PyData.eqv u.d.toP v.d.toP with
    | false => rfl
    | true => exact absurd (eqv_sm _ _ _ (Nat.lt_succ_self _) (v_sm u) (v_sm v) q) n
/-! ### the twelve operations -/
inductive Op where
  | plus | minus | times | over | less | down | first | rest | empty | same | join | list
  deriving DecidableEq
def Op.s : Op → Str
  | .plus => "plus" | .minus => "minus" | .times => "times" | .over => "over" | .less => "less" | .down => "down" | .first => "first" | .rest => "rest" | .empty => "empty" | .same => "same" | .join => "join" | .list => "list"
theorem Op.ok (o : Op) : PyData.strOk o.s = true := by cases o <;> decide +kernel
/-- how many values it takes -/
def Op.takes (o : Op) (n : Nat) : Bool := match o with
  | .down | .first | .rest | .empty => decide (n = 1)
  | .list => decide (n ≤ 8)
  | _ => decide (n = 2)
/-- a value, or a refusal's word -/
inductive An where
  | ok (v : Val) | no (w : Str)
def fit (v : Val) : An := if v.isV = true then .ok v else .no "TooGreat"
def Op.do (o : Op) (vs : List Val) : An := match o, vs with
  | .plus, [.int a, .int b] => fit (.int (a + b))
  | .minus, [.int a, .int b] => fit (.int (a - b))
  | .times, [.int a, .int b] => fit (.int (a * b))
  | .over, [.int a, .int b] => if b = 0 then .no "ByNought" else fit (.int (a.fdiv b))
  | .less, [.int a, .int b] => .ok (.int (if a < b then 1 else 0))
  | .plus, [_, _] => .no "NoNumber"
  | .minus, [_, _] => .no "NoNumber"
  | .times, [_, _] => .no "NoNumber"
  | .over, [_, _] => .no "NoNumber"
  | .less, [_, _] => .no "NoNumber"
  | .down, [.int a] => if a ≤ 0 then .no "NoDown" else .ok (.int (a - 1))
  | .down, [_] => .no "NoNumber"
  | .first, [.int _] => .no "NoList"
  | .first, [.tup []] => .no "NoFirst"
  | .first, [.tup (x :: _)] => .ok x
  | .rest, [.int _] => .no "NoList"
  | .rest, [.tup []] => .no "NoFirst"
  | .rest, [.tup (_ :: r)] => .ok (.tup r)
  | .empty, [.int _] => .no "NoList"
  | .empty, [.tup xs] => .ok (.int (if xs = [] then 1 else 0))
  | .same, [a, b] => .ok (.int (if a = b then 1 else 0))
  | .join, [_, .int _] => .no "NoList"
  | .join, [a, .tup xs] => fit (.tup (a :: xs))
  | .list, xs => fit (.tup xs)
  | _, _ => .no "other"
def An.run : An → Res (Bool × D)
  | .ok v => .ok (false, v.d)
  | .no w => .exc w
/-- how the laws tell it -/
def An.pr : An → D
  | .ok v => .tup [.bl true, v.d]
  | .no w => .tup [.bl false, .str w]

end Kv

namespace Kv
open PySem PySem.Spec PyProof.Rows L2 Hf
set_option autoImplicit false
def actK : List Str := ["plus", "minus", "times", "over", "less", "down", "first", "rest", "empty", "same", "join", "list"]
def actV : List D := [.fn "plus", .fn "minus", .fn "times", .fn "over", .fn "less", .fn "down", .fn "first", .fn "rest", .fn "empty", .fn "same", .fn "joined", .fn "listed"]
structure HasA (pg : Pg) : Prop extends HasV pg where
  g_A : pg.mo.gl "ACTIONS" = some (.dct actK actV)
def Op.f : Op → Str
  | .join => "joined" | .list => "listed" | o => o.s
theorem act_of (o : Op) : lkD actK actV o.s = some (.fn o.f) := by cases o <;> kernel_rfl
section
variable {pg : Pg} {n : Nat} (H : HasA pg)
include H
theorem ar_f (o : Op) : arN pg.fs o.f = some (match o with | .down | .first | .rest | .empty => (1, false) | .list => (0, true) | _ => (2, false)) := by
  cases o <;> simp [arN, Op.f, Op.s, H.l_plus, H.l_minus, H.l_times, H.l_over, H.l_less, H.l_down, H.l_first, H.l_rest, H.l_empty, H.l_same, H.l_joined, H.l_listed, f_plus, f_minus, f_times, f_over, f_less, f_down, f_first, f_rest, f_empty, f_same, f_joined, f_listed]
theorem done_ok {o : Op} {vs : List Val} {v : Val} (ht : o.takes vs.length = true) (hv : v.wt ≤ 1000000) (h : callN pg (n + 2) o.f (Val.ds vs) = .ok (false, v.d)) : callN pg (n + 3) "done" [.str o.s, .lst (Val.ds vs)] = (fit v).run := by
  rw [cN H.l_done]
  have hs := v_value (n := n) H.toHasV (v_tr v) (by rw [v_wt]; exact hv)
  rw [v_gd, v_wt] at hs
  have ha : arOk (arN pg.fs o.f) (Val.ds vs).length = true := by
    rw [ar_f H, ds_len]
    cases o <;> simp [Op.takes, arOk] at ht ⊢ <;> first | exact ht | exact ht.symm | (rw [sizeLine_eq]; omega)
  have hb : (arN pg.fs o.f).isSome = true := by rw [ar_f H]; rfl
  have hsi : v.isV = (v.ok && decide (v.wt ≤ 50)) := rfl
  rw [← hsi] at hs
  by_cases c : v.isV = true
  · simp [runD, argsD, entE, exs, ex, evT, ev, evs, evo, evc, evi, bor, getO, getF, sndR, intR, Res.bind, onR, Fl.seq, fz, usT, us, ub, uss, uso, usc, usi, isiD, okB, D.tru, negD, cmpD, opD, idxD, slcD, biD, okF, endR, setE, bindT, itemsD, tb_fn, tb_gl, tb_ar, tb_ki, tb_sub, tb_hot, f_done, c_done, H.g_A, act_of, starD, ha, hb, h, hs, c, fit, An.run]
  · simp [runD, argsD, entE, exs, ex, evT, ev, evs, evo, evc, evi, bor, getO, getF, sndR, intR, Res.bind, onR, Fl.seq, fz, usT, us, ub, uss, uso, usc, usi, isiD, okB, D.tru, negD, cmpD, opD, idxD, slcD, biD, okF, endR, setE, bindT, itemsD, tb_fn, tb_gl, tb_ar, tb_ki, tb_sub, tb_hot, f_done, c_done, H.g_A, act_of, starD, ha, hb, h, hs, c, fit, An.run]
theorem done_no {o : Op} {vs : List Val} {w : Str} (ht : o.takes vs.length = true) (h : callN pg (n + 2) o.f (Val.ds vs) = .exc w) : callN pg (n + 3) "done" [.str o.s, .lst (Val.ds vs)] = .exc w := by
  rw [cN H.l_done]
  have ha : arOk (arN pg.fs o.f) (Val.ds vs).length = true := by
    rw [ar_f H, ds_len]
    cases o <;> simp [Op.takes, arOk] at ht ⊢ <;> first | exact ht | exact ht.symm | (rw [sizeLine_eq]; omega)
  have hb : (arN pg.fs o.f).isSome = true := by rw [ar_f H]; rfl
  simp [runD, argsD, entE, exs, ex, evT, ev, evs, evo, evc, evi, bor, getO, getF, sndR, intR, Res.bind, onR, Fl.seq, fz, usT, us, ub, uss, uso, usc, usi, isiD, okB, D.tru, negD, cmpD, opD, idxD, slcD, biD, okF, endR, setE, bindT, itemsD, tb_fn, tb_gl, tb_ar, tb_ki, tb_sub, tb_hot, f_done, c_done, H.g_A, act_of, starD, ha, hb, h]
/-! the needs -/
theorem v_nn (i : Int) : callN pg (n + 1) "need_number" [.int i] = .ok (false, .non) := by
  rw [cN H.l_need_number]; simp [runD, argsD, entE, exs, ex, evT, ev, evs, evo, evc, evi, bor, getO, getF, sndR, intR, Res.bind, onR, Fl.seq, fz, usT, us, ub, uss, uso, usc, usi, isiD, okB, D.tru, negD, cmpD, opD, idxD, slcD, biD, okF, endR, setE, bindT, itemsD, tb_fn, tb_gl, tb_ar, tb_ki, tb_sub, tb_hot, f_need_number, c_need_number]
theorem v_nnT (xs : List D) : callN pg (n + 1) "need_number" [.tup xs] = .exc "NoNumber" := by
  rw [cN H.l_need_number]; simp [runD, argsD, entE, exs, ex, evT, ev, evs, evo, evc, evi, bor, getO, getF, sndR, intR, Res.bind, onR, Fl.seq, fz, usT, us, ub, uss, uso, usc, usi, isiD, okB, D.tru, negD, cmpD, opD, idxD, slcD, biD, okF, endR, setE, bindT, itemsD, tb_fn, tb_gl, tb_ar, tb_ki, tb_sub, tb_hot, f_need_number, c_need_number]
theorem v_nl (xs : List D) : callN pg (n + 1) "need_list" [.tup xs] = .ok (false, .non) := by
  rw [cN H.l_need_list]; simp [runD, argsD, entE, exs, ex, evT, ev, evs, evo, evc, evi, bor, getO, getF, sndR, intR, Res.bind, onR, Fl.seq, fz, usT, us, ub, uss, uso, usc, usi, isiD, okB, D.tru, negD, cmpD, opD, idxD, slcD, biD, okF, endR, setE, bindT, itemsD, tb_fn, tb_gl, tb_ar, tb_ki, tb_sub, tb_hot, f_need_list, c_need_list]
theorem v_nlI (i : Int) : callN pg (n + 1) "need_list" [.int i] = .exc "NoList" := by
  rw [cN H.l_need_list]; simp [runD, argsD, entE, exs, ex, evT, ev, evs, evo, evc, evi, bor, getO, getF, sndR, intR, Res.bind, onR, Fl.seq, fz, usT, us, ub, uss, uso, usc, usi, isiD, okB, D.tru, negD, cmpD, opD, idxD, slcD, biD, okF, endR, setE, bindT, itemsD, tb_fn, tb_gl, tb_ar, tb_ki, tb_sub, tb_hot, f_need_list, c_need_list]
theorem v_ns (i j : Int) : callN pg (n + 2) "need_numbers" [.int i, .int j] = .ok (false, .non) := by
  rw [cN H.l_need_numbers]; simp [runD, argsD, entE, exs, ex, evT, ev, evs, evo, evc, evi, bor, getO, getF, sndR, intR, Res.bind, onR, Fl.seq, fz, usT, us, ub, uss, uso, usc, usi, isiD, okB, D.tru, negD, cmpD, opD, idxD, slcD, biD, okF, endR, setE, bindT, itemsD, tb_fn, tb_gl, tb_ar, tb_ki, tb_sub, tb_hot, f_need_numbers, c_need_numbers, v_nn H]
theorem v_ns1 (xs : List D) (d : D) : callN pg (n + 2) "need_numbers" [.tup xs, d] = .exc "NoNumber" := by
  rw [cN H.l_need_numbers]; simp [runD, argsD, entE, exs, ex, evT, ev, evs, evo, evc, evi, bor, getO, getF, sndR, intR, Res.bind, onR, Fl.seq, fz, usT, us, ub, uss, uso, usc, usi, isiD, okB, D.tru, negD, cmpD, opD, idxD, slcD, biD, okF, endR, setE, bindT, itemsD, tb_fn, tb_gl, tb_ar, tb_ki, tb_sub, tb_hot, f_need_numbers, c_need_numbers, v_nnT H]
theorem v_ns2 (i : Int) (xs : List D) : callN pg (n + 2) "need_numbers" [.int i, .tup xs] = .exc "NoNumber" := by
  rw [cN H.l_need_numbers]; simp [runD, argsD, entE, exs, ex, evT, ev, evs, evo, evc, evi, bor, getO, getF, sndR, intR, Res.bind, onR, Fl.seq, fz, usT, us, ub, uss, uso, usc, usi, isiD, okB, D.tru, negD, cmpD, opD, idxD, slcD, biD, okF, endR, setE, bindT, itemsD, tb_fn, tb_gl, tb_ar, tb_ki, tb_sub, tb_hot, f_need_numbers, c_need_numbers, v_nn H, v_nnT H]
theorem v_np (x : D) (xs : List D) : callN pg (n + 2) "need_parts" [.tup (x :: xs)] = .ok (false, .non) := by
  rw [cN H.l_need_parts]; simp [runD, argsD, entE, exs, ex, evT, ev, evs, evo, evc, evi, bor, getO, getF, sndR, intR, Res.bind, onR, Fl.seq, fz, usT, us, ub, uss, uso, usc, usi, isiD, okB, D.tru, negD, cmpD, opD, idxD, slcD, biD, okF, endR, setE, bindT, itemsD, tb_fn, tb_gl, tb_ar, tb_ki, tb_sub, tb_hot, f_need_parts, c_need_parts, v_nl H]
theorem v_np0 : callN pg (n + 2) "need_parts" [.tup []] = .exc "NoFirst" := by
  rw [cN H.l_need_parts]; simp [runD, argsD, entE, exs, ex, evT, ev, evs, evo, evc, evi, bor, getO, getF, sndR, intR, Res.bind, onR, Fl.seq, fz, usT, us, ub, uss, uso, usc, usi, isiD, okB, D.tru, negD, cmpD, opD, idxD, slcD, biD, okF, endR, setE, bindT, itemsD, tb_fn, tb_gl, tb_ar, tb_ki, tb_sub, tb_hot, f_need_parts, c_need_parts, v_nl H]
theorem v_npI (i : Int) : callN pg (n + 2) "need_parts" [.int i] = .exc "NoList" := by
  rw [cN H.l_need_parts]; simp [runD, argsD, entE, exs, ex, evT, ev, evs, evo, evc, evi, bor, getO, getF, sndR, intR, Res.bind, onR, Fl.seq, fz, usT, us, ub, uss, uso, usc, usi, isiD, okB, D.tru, negD, cmpD, opD, idxD, slcD, biD, okF, endR, setE, bindT, itemsD, tb_fn, tb_gl, tb_ar, tb_ki, tb_sub, tb_hot, f_need_parts, c_need_parts, v_nlI H]
end
theorem num_log {i : Int} (h : (Val.int i).isV = true) : i.natAbs.log2 < 9000 ∧ -18446744073709551616 < i ∧ i < 18446744073709551616 := by
  have := (isV_ok h).1
  simp [Val.ok] at this
  refine ⟨?_, by omega, by omega⟩
  have h2 : i.natAbs < 2 ^ 64 := by omega
  by_cases h0 : i.natAbs = 0
  · rw [h0]; decide
  · have := (Nat.log2_lt h0).mpr h2
    omega
theorem fdiv_pos (i j : Int) (h : 0 < j) : i.fdiv j = i / j := Int.fdiv_eq_ediv_of_nonneg i (by omega)
theorem isV_tail {x : Val} {r : List Val} (h : (Val.tup (x :: r)).isV = true) : x.isV = true ∧ (Val.tup r).isV = true := by
  obtain ⟨h1, h2⟩ := isV_ok h
  simp only [Val.ok, Val.oks, Bool.and_eq_true, Val.wt, Val.wts] at h1 h2
  have := x.wt_pos
  constructor
  · simp only [Val.isV, Bool.and_eq_true, decide_eq_true_eq]
    exact ⟨h1.1, by show x.wt ≤ 50; omega⟩
  · simp only [Val.isV, Bool.and_eq_true, decide_eq_true_eq]
    exact ⟨h1.2, by show 1 + Val.wts r ≤ 50; omega⟩
theorem fit_of {v : Val} (h : v.isV = true) : fit v = .ok v := by simp [fit, h]
theorem bit_isV (b : Bool) : (Val.int (if b = true then 1 else 0)).isV = true := by cases b <;> decide
theorem pair_of {vs : List Val} (h : vs.length = 2) : ∃ a b, vs = [a, b] := by
  match vs, h with
  | [a, b], _ => exact ⟨a, b, rfl⟩
theorem one_of {vs : List Val} (h : vs.length = 1) : ∃ a, vs = [a] := by
  match vs, h with
  | [a], _ => exact ⟨a, rfl⟩
section
variable {pg : Pg} {n : Nat} (H : HasA pg)
include H
theorem two_no {o : Op} {df : Df} (hf : pg.fs.lookup o.f = some df) (c : df.code = .cons (.expr (.call "need_numbers" (.cons (.var 0) (.cons (.var 1) .nil)))) (match df.code with | .cons _ r => r | r => r)) (hv : df.va = false) {a b : Val} (h : ∀ i j, ¬ (a = .int i ∧ b = .int j)) : callN pg (n + 3) o.f [a.d, b.d] = .exc "NoNumber" := by
  rw [cN hf]
  unfold runD
  rw [c]
  cases a with
  | tup xs => simp [runD, argsD, entE, exs, ex, evT, ev, evs, evo, evc, evi, bor, getO, getF, sndR, intR, Res.bind, onR, Fl.seq, fz, usT, us, ub, uss, uso, usc, usi, isiD, okB, D.tru, negD, cmpD, opD, idxD, slcD, biD, okF, endR, setE, bindT, itemsD, tb_fn, tb_gl, tb_ar, tb_ki, tb_sub, tb_hot, Val.d, v_ns1 H, hv]
  | int i =>
    cases b with
    | tup ys => simp [runD, argsD, entE, exs, ex, evT, ev, evs, evo, evc, evi, bor, getO, getF, sndR, intR, Res.bind, onR, Fl.seq, fz, usT, us, ub, uss, uso, usc, usi, isiD, okB, D.tru, negD, cmpD, opD, idxD, slcD, biD, okF, endR, setE, bindT, itemsD, tb_fn, tb_gl, tb_ar, tb_ki, tb_sub, tb_hot, Val.d, v_ns2 H, hv]
    | int j => exact absurd ⟨rfl, rfl⟩ (h i j)
theorem v_done {o : Op} {vs : List Val} (ht : o.takes vs.length = true) (hv : ∀ v ∈ vs, v.isV = true) : callN pg (n + 5) "done" [.str o.s, .lst (Val.ds vs)] = (o.do vs).run := by
  have z1 := sz 50
  have wtn : ∀ i, (Val.int i).wt ≤ 1000000 := fun _ => by simp [Val.wt]
  cases o with
  | plus =>
    obtain ⟨a, b, rfl⟩ := pair_of (by simpa [Op.takes] using ht)
    cases a with
    | int i =>
      cases b with
      | int j => exact done_ok H (n := n + 2) (v := .int (i + j)) ht (wtn _) (by show callN pg (n + 4) "plus" _ = _; rw [cN H.l_plus]; simp [runD, argsD, entE, exs, ex, evT, ev, evs, evo, evc, evi, bor, getO, getF, sndR, intR, Res.bind, onR, Fl.seq, fz, usT, us, ub, uss, uso, usc, usi, isiD, okB, D.tru, negD, cmpD, opD, idxD, slcD, biD, okF, endR, setE, bindT, itemsD, tb_fn, tb_gl, tb_ar, tb_ki, tb_sub, tb_hot, f_plus, c_plus, Val.ds, Val.d, v_ns H])
      | tup ys => exact done_no H (n := n + 2) ht (two_no H (o := .plus) (n := n + 1) H.l_plus rfl rfl fun _ _ h => by cases h.2)
    | tup xs => exact done_no H (n := n + 2) ht (two_no H (o := .plus) (n := n + 1) H.l_plus rfl rfl fun _ _ h => by cases h.1)
  | minus =>
    obtain ⟨a, b, rfl⟩ := pair_of (by simpa [Op.takes] using ht)
    cases a with
    | int i =>
      cases b with
      | int j => exact done_ok H (n := n + 2) (v := .int (i - j)) ht (wtn _) (by show callN pg (n + 4) "minus" _ = _; rw [cN H.l_minus]; simp [runD, argsD, entE, exs, ex, evT, ev, evs, evo, evc, evi, bor, getO, getF, sndR, intR, Res.bind, onR, Fl.seq, fz, usT, us, ub, uss, uso, usc, usi, isiD, okB, D.tru, negD, cmpD, opD, idxD, slcD, biD, okF, endR, setE, bindT, itemsD, tb_fn, tb_gl, tb_ar, tb_ki, tb_sub, tb_hot, f_minus, c_minus, Val.ds, Val.d, v_ns H])
      | tup ys => exact done_no H (n := n + 2) ht (two_no H (o := .minus) (n := n + 1) H.l_minus rfl rfl fun _ _ h => by cases h.2)
    | tup xs => exact done_no H (n := n + 2) ht (two_no H (o := .minus) (n := n + 1) H.l_minus rfl rfl fun _ _ h => by cases h.1)
  | times =>
    obtain ⟨a, b, rfl⟩ := pair_of (by simpa [Op.takes] using ht)
    cases a with
    | int i =>
      cases b with
      | int j =>
        obtain ⟨_, h1, h2⟩ := num_log (hv _ (by simp) : (Val.int j).isV = true)
        exact done_ok H (n := n + 2) (v := .int (i * j)) ht (wtn _) (by show callN pg (n + 4) "times" _ = _; rw [cN H.l_times]; simp [runD, argsD, entE, exs, ex, evT, ev, evs, evo, evc, evi, bor, getO, getF, sndR, intR, Res.bind, onR, Fl.seq, fz, usT, us, ub, uss, uso, usc, usi, isiD, okB, D.tru, negD, cmpD, opD, idxD, slcD, biD, okF, endR, setE, bindT, itemsD, tb_fn, tb_gl, tb_ar, tb_ki, tb_sub, tb_hot, f_times, c_times, Val.ds, Val.d, v_ns H, Hf.MulOk, h1, h2])
      | tup ys => exact done_no H (n := n + 2) ht (two_no H (o := .times) (n := n + 1) H.l_times rfl rfl fun _ _ h => by cases h.2)
    | tup xs => exact done_no H (n := n + 2) ht (two_no H (o := .times) (n := n + 1) H.l_times rfl rfl fun _ _ h => by cases h.1)
  | over =>
    obtain ⟨a, b, rfl⟩ := pair_of (by simpa [Op.takes] using ht)
    cases a with
    | int i =>
      cases b with
      | int j =>
        obtain ⟨h1, _, _⟩ := num_log (hv _ (by simp) : (Val.int j).isV = true)
        by_cases h0 : j = 0
        · subst h0
          exact (done_no H (n := n + 2) (w := "ByNought") ht (by show callN pg (n + 4) "over" _ = _; rw [cN H.l_over]; simp [runD, argsD, entE, exs, ex, evT, ev, evs, evo, evc, evi, bor, getO, getF, sndR, intR, Res.bind, onR, Fl.seq, fz, usT, us, ub, uss, uso, usc, usi, isiD, okB, D.tru, negD, cmpD, opD, idxD, slcD, biD, okF, endR, setE, bindT, itemsD, tb_fn, tb_gl, tb_ar, tb_ki, tb_sub, tb_hot, f_over, c_over, Val.ds, Val.d, v_ns H, eqI])).trans (by simp [Op.do, An.run])
        · refine (done_ok H (n := n + 2) (v := .int (i.fdiv j)) ht (wtn _) ?_).trans (by simp [Op.do, h0])
          show callN pg (n + 4) "over" _ = _
          rw [cN H.l_over]
          by_cases hp : 0 < j
          · simp [runD, argsD, entE, exs, ex, evT, ev, evs, evo, evc, evi, bor, getO, getF, sndR, intR, Res.bind, onR, Fl.seq, fz, usT, us, ub, uss, uso, usc, usi, isiD, okB, D.tru, negD, cmpD, opD, idxD, slcD, biD, okF, endR, setE, bindT, itemsD, tb_fn, tb_gl, tb_ar, tb_ki, tb_sub, tb_hot, f_over, c_over, Val.ds, Val.d, v_ns H, eqI, h0, hp, h1, fdiv_pos]
          · have hn : j < 0 := by omega
            simp [runD, argsD, entE, exs, ex, evT, ev, evs, evo, evc, evi, bor, getO, getF, sndR, intR, Res.bind, onR, Fl.seq, fz, usT, us, ub, uss, uso, usc, usi, isiD, okB, D.tru, negD, cmpD, opD, idxD, slcD, biD, okF, endR, setE, bindT, itemsD, tb_fn, tb_gl, tb_ar, tb_ki, tb_sub, tb_hot, f_over, c_over, Val.ds, Val.d, v_ns H, eqI, h0, hp, h1, hn]
      | tup ys => exact done_no H (n := n + 2) ht (two_no H (o := .over) (n := n + 1) H.l_over rfl rfl fun _ _ h => by cases h.2)
    | tup xs => exact done_no H (n := n + 2) ht (two_no H (o := .over) (n := n + 1) H.l_over rfl rfl fun _ _ h => by cases h.1)
  | less =>
    obtain ⟨a, b, rfl⟩ := pair_of (by simpa [Op.takes] using ht)
    cases a with
    | int i =>
      cases b with
      | int j =>
        refine (done_ok H (n := n + 2) (v := .int (if i < j then 1 else 0)) ht (wtn _) ?_).trans (by have := bit_isV (decide (i < j)); simp only [decide_eq_true_eq] at this; rw [fit_of this]; simp [Op.do])
        show callN pg (n + 4) "less" _ = _
        rw [cN H.l_less]
        by_cases h : i < j <;> simp [runD, argsD, entE, exs, ex, evT, ev, evs, evo, evc, evi, bor, getO, getF, sndR, intR, Res.bind, onR, Fl.seq, fz, usT, us, ub, uss, uso, usc, usi, isiD, okB, D.tru, negD, cmpD, opD, idxD, slcD, biD, okF, endR, setE, bindT, itemsD, tb_fn, tb_gl, tb_ar, tb_ki, tb_sub, tb_hot, f_less, c_less, Val.ds, Val.d, v_ns H, h]
      | tup ys => exact done_no H (n := n + 2) ht (two_no H (o := .less) (n := n + 1) H.l_less rfl rfl fun _ _ h => by cases h.2)
    | tup xs => exact done_no H (n := n + 2) ht (two_no H (o := .less) (n := n + 1) H.l_less rfl rfl fun _ _ h => by cases h.1)
  | down =>
    obtain ⟨a, rfl⟩ := one_of (by simpa [Op.takes] using ht)
    cases a with
    | tup xs => exact done_no H (n := n + 2) ht (by show callN pg (n + 4) "down" _ = _; rw [cN H.l_down]; simp [runD, argsD, entE, exs, ex, evT, ev, evs, evo, evc, evi, bor, getO, getF, sndR, intR, Res.bind, onR, Fl.seq, fz, usT, us, ub, uss, uso, usc, usi, isiD, okB, D.tru, negD, cmpD, opD, idxD, slcD, biD, okF, endR, setE, bindT, itemsD, tb_fn, tb_gl, tb_ar, tb_ki, tb_sub, tb_hot, f_down, c_down, Val.ds, Val.d, v_nnT H])
    | int i =>
      by_cases h : i ≤ 0
      · exact (done_no H (n := n + 2) (w := "NoDown") ht (by show callN pg (n + 4) "down" _ = _; rw [cN H.l_down]; simp [runD, argsD, entE, exs, ex, evT, ev, evs, evo, evc, evi, bor, getO, getF, sndR, intR, Res.bind, onR, Fl.seq, fz, usT, us, ub, uss, uso, usc, usi, isiD, okB, D.tru, negD, cmpD, opD, idxD, slcD, biD, okF, endR, setE, bindT, itemsD, tb_fn, tb_gl, tb_ar, tb_ki, tb_sub, tb_hot, f_down, c_down, Val.ds, Val.d, v_nn H, h])).trans (by simp [Op.do, An.run, h])
      · have hi := isV_ok (hv _ (by simp) : (Val.int i).isV = true)
        have hf : (Val.int (i - 1)).isV = true := by
          simp [Val.isV, Val.ok, Val.wt] at hi ⊢
          omega
        refine (done_ok H (n := n + 2) (v := .int (i - 1)) ht (wtn _) ?_).trans (by rw [fit_of hf]; simp [Op.do, h])
        show callN pg (n + 4) "down" _ = _
        rw [cN H.l_down]
        simp [runD, argsD, entE, exs, ex, evT, ev, evs, evo, evc, evi, bor, getO, getF, sndR, intR, Res.bind, onR, Fl.seq, fz, usT, us, ub, uss, uso, usc, usi, isiD, okB, D.tru, negD, cmpD, opD, idxD, slcD, biD, okF, endR, setE, bindT, itemsD, tb_fn, tb_gl, tb_ar, tb_ki, tb_sub, tb_hot, f_down, c_down, Val.ds, Val.d, v_nn H, h]
  | first =>
    obtain ⟨a, rfl⟩ := one_of (by simpa [Op.takes] using ht)
    cases a with
    | int i => exact done_no H (n := n + 2) ht (by show callN pg (n + 4) "first" _ = _; rw [cN H.l_first]; simp [runD, argsD, entE, exs, ex, evT, ev, evs, evo, evc, evi, bor, getO, getF, sndR, intR, Res.bind, onR, Fl.seq, fz, usT, us, ub, uss, uso, usc, usi, isiD, okB, D.tru, negD, cmpD, opD, idxD, slcD, biD, okF, endR, setE, bindT, itemsD, tb_fn, tb_gl, tb_ar, tb_ki, tb_sub, tb_hot, f_first, c_first, Val.ds, Val.d, v_npI H])
    | tup xs =>
      cases xs with
      | nil => exact done_no H (n := n + 2) ht (by show callN pg (n + 4) "first" _ = _; rw [cN H.l_first]; simp [runD, argsD, entE, exs, ex, evT, ev, evs, evo, evc, evi, bor, getO, getF, sndR, intR, Res.bind, onR, Fl.seq, fz, usT, us, ub, uss, uso, usc, usi, isiD, okB, D.tru, negD, cmpD, opD, idxD, slcD, biD, okF, endR, setE, bindT, itemsD, tb_fn, tb_gl, tb_ar, tb_ki, tb_sub, tb_hot, f_first, c_first, Val.ds, Val.d, v_np0 H])
      | cons x r =>
        have hx := (isV_tail (hv _ (by simp) : (Val.tup (x :: r)).isV = true)).1
        refine (done_ok H (n := n + 2) (v := x) ht (by have := (isV_ok hx).2; omega) ?_).trans (by rw [fit_of hx]; rfl)
        show callN pg (n + 4) "first" _ = _
        rw [cN H.l_first]
        simp [runD, argsD, entE, exs, ex, evT, ev, evs, evo, evc, evi, bor, getO, getF, sndR, intR, Res.bind, onR, Fl.seq, fz, usT, us, ub, uss, uso, usc, usi, isiD, okB, D.tru, negD, cmpD, opD, idxD, slcD, biD, okF, endR, setE, bindT, itemsD, tb_fn, tb_gl, tb_ar, tb_ki, tb_sub, tb_hot, f_first, c_first, Val.ds, Val.d, v_np H, atI, ix0]
  | rest =>
    obtain ⟨a, rfl⟩ := one_of (by simpa [Op.takes] using ht)
    cases a with
    | int i => exact done_no H (n := n + 2) ht (by show callN pg (n + 4) "rest" _ = _; rw [cN H.l_rest]; simp [runD, argsD, entE, exs, ex, evT, ev, evs, evo, evc, evi, bor, getO, getF, sndR, intR, Res.bind, onR, Fl.seq, fz, usT, us, ub, uss, uso, usc, usi, isiD, okB, D.tru, negD, cmpD, opD, idxD, slcD, biD, okF, endR, setE, bindT, itemsD, tb_fn, tb_gl, tb_ar, tb_ki, tb_sub, tb_hot, f_rest, c_rest, Val.ds, Val.d, v_npI H])
    | tup xs =>
      cases xs with
      | nil => exact done_no H (n := n + 2) ht (by show callN pg (n + 4) "rest" _ = _; rw [cN H.l_rest]; simp [runD, argsD, entE, exs, ex, evT, ev, evs, evo, evc, evi, bor, getO, getF, sndR, intR, Res.bind, onR, Fl.seq, fz, usT, us, ub, uss, uso, usc, usi, isiD, okB, D.tru, negD, cmpD, opD, idxD, slcD, biD, okF, endR, setE, bindT, itemsD, tb_fn, tb_gl, tb_ar, tb_ki, tb_sub, tb_hot, f_rest, c_rest, Val.ds, Val.d, v_np0 H])
      | cons x r =>
        have hx := (isV_tail (hv _ (by simp) : (Val.tup (x :: r)).isV = true)).2
        refine (done_ok H (n := n + 2) (v := .tup r) ht (by have := (isV_ok hx).2; omega) ?_).trans (by rw [fit_of hx]; rfl)
        show callN pg (n + 4) "rest" _ = _
        rw [cN H.l_rest]
        have e : Hf.cutD (x.d :: Val.ds r) (some 1) none = Val.ds r := by
          have e1 : HT.sIx ((Val.ds r).length + 1) 0 (some 1) = 1 := (HT.sIx_nat _ _ 1).trans (by omega)
          simp [Hf.cutD, HT.sIx_none, e1]
        simp [runD, argsD, entE, exs, ex, evT, ev, evs, evo, evc, evi, bor, getO, getF, sndR, intR, Res.bind, onR, Fl.seq, fz, usT, us, ub, uss, uso, usc, usi, isiD, okB, D.tru, negD, cmpD, opD, idxD, slcD, biD, okF, endR, setE, bindT, itemsD, tb_fn, tb_gl, tb_ar, tb_ki, tb_sub, tb_hot, f_rest, c_rest, Val.ds, Val.d, v_np H, e]
  | empty =>
    obtain ⟨a, rfl⟩ := one_of (by simpa [Op.takes] using ht)
    cases a with
    | int i => exact done_no H (n := n + 2) ht (by show callN pg (n + 4) "empty" _ = _; rw [cN H.l_empty]; simp [runD, argsD, entE, exs, ex, evT, ev, evs, evo, evc, evi, bor, getO, getF, sndR, intR, Res.bind, onR, Fl.seq, fz, usT, us, ub, uss, uso, usc, usi, isiD, okB, D.tru, negD, cmpD, opD, idxD, slcD, biD, okF, endR, setE, bindT, itemsD, tb_fn, tb_gl, tb_ar, tb_ki, tb_sub, tb_hot, f_empty, c_empty, Val.ds, Val.d, v_nlI H])
    | tup xs =>
      refine (done_ok H (n := n + 2) (v := .int (if xs = [] then 1 else 0)) ht (wtn _) ?_).trans (by have := bit_isV (decide (xs = [])); simp only [decide_eq_true_eq] at this; rw [fit_of this]; simp [Op.do])
      show callN pg (n + 4) "empty" _ = _
      rw [cN H.l_empty]
      cases xs <;> simp [runD, argsD, entE, exs, ex, evT, ev, evs, evo, evc, evi, bor, getO, getF, sndR, intR, Res.bind, onR, Fl.seq, fz, usT, us, ub, uss, uso, usc, usi, isiD, okB, D.tru, negD, cmpD, opD, idxD, slcD, biD, okF, endR, setE, bindT, itemsD, tb_fn, tb_gl, tb_ar, tb_ki, tb_sub, tb_hot, f_empty, c_empty, Val.ds, Val.d, v_nl H]
  | same =>
    obtain ⟨a, b, rfl⟩ := pair_of (by simpa [Op.takes] using ht)
    have ha := isV_ok (hv a (by simp))
    refine (done_ok H (n := n + 2) (v := .int (if a = b then 1 else 0)) ht (wtn _) ?_).trans (by have := bit_isV (decide (a = b)); simp only [decide_eq_true_eq] at this; rw [fit_of this]; simp [Op.do])
    show callN pg (n + 4) "same" _ = _
    rw [cN H.l_same]
    have e := eq_val a b (by omega)
    by_cases h : a = b
    · subst h; simp [runD, argsD, entE, exs, ex, evT, ev, evs, evo, evc, evi, bor, getO, getF, sndR, intR, Res.bind, onR, Fl.seq, fz, usT, us, ub, uss, uso, usc, usi, isiD, okB, D.tru, negD, cmpD, opD, idxD, slcD, biD, okF, endR, setE, bindT, itemsD, tb_fn, tb_gl, tb_ar, tb_ki, tb_sub, tb_hot, f_same, c_same, Val.ds, Val.d, e]
    · simp [runD, argsD, entE, exs, ex, evT, ev, evs, evo, evc, evi, bor, getO, getF, sndR, intR, Res.bind, onR, Fl.seq, fz, usT, us, ub, uss, uso, usc, usi, isiD, okB, D.tru, negD, cmpD, opD, idxD, slcD, biD, okF, endR, setE, bindT, itemsD, tb_fn, tb_gl, tb_ar, tb_ki, tb_sub, tb_hot, f_same, c_same, Val.ds, Val.d, e, h]
  | join =>
    obtain ⟨a, b, rfl⟩ := pair_of (by simpa [Op.takes] using ht)
    cases b with
    | int i => exact (done_no H (n := n + 2) (w := "NoList") ht (by show callN pg (n + 4) "joined" _ = _; rw [cN H.l_joined]; simp [runD, argsD, entE, exs, ex, evT, ev, evs, evo, evc, evi, bor, getO, getF, sndR, intR, Res.bind, onR, Fl.seq, fz, usT, us, ub, uss, uso, usc, usi, isiD, okB, D.tru, negD, cmpD, opD, idxD, slcD, biD, okF, endR, setE, bindT, itemsD, tb_fn, tb_gl, tb_ar, tb_ki, tb_sub, tb_hot, f_joined, c_joined, Val.ds, Val.d, v_nlI H])).trans (by simp [Op.do, An.run])
    | tup xs =>
      have h1 := isV_ok (hv a (by simp))
      have h2 := isV_ok (hv (.tup xs) (by simp))
      have h3 := Val.wts_len xs
      simp only [Val.wt] at h2
      refine (done_ok H (n := n + 2) (v := .tup (a :: xs)) ht (by simp only [Val.wt, Val.wts]; omega) ?_).trans (by simp [Op.do])
      show callN pg (n + 4) "joined" _ = _
      rw [cN H.l_joined]
      have hs : (Val.ds xs).length + 1 ≤ sizeLine := by rw [ds_len, sizeLine_eq]; omega
      simp [runD, argsD, entE, exs, ex, evT, ev, evs, evo, evc, evi, bor, getO, getF, sndR, intR, Res.bind, onR, Fl.seq, fz, usT, us, ub, uss, uso, usc, usi, isiD, okB, D.tru, negD, cmpD, opD, idxD, slcD, biD, okF, endR, setE, bindT, itemsD, tb_fn, tb_gl, tb_ar, tb_ki, tb_sub, tb_hot, f_joined, c_joined, Val.ds, Val.d, v_nl H, hs]
  | list =>
    have hl : vs.length ≤ 8 := by simpa [Op.takes] using ht
    have hw : Val.wts vs ≤ 50 * vs.length := by
      clear hl ht
      induction vs with
      | nil => simp [Val.wts]
      | cons v r ih =>
        have := (isV_ok (hv v (by simp))).2
        have := ih fun x hx => hv x (by simp [hx])
        simp only [Val.wts, List.length_cons]; omega
    refine (done_ok H (n := n + 2) (v := .tup vs) ht (by simp only [Val.wt]; omega) ?_).trans (by simp [Op.do])
    show callN pg (n + 4) "listed" _ = _
    rw [cN H.l_listed]
    simp [runD, argsD, entE, exs, ex, evT, ev, evs, evo, evc, evi, bor, getO, getF, sndR, intR, Res.bind, onR, Fl.seq, fz, usT, us, ub, uss, uso, usc, usi, isiD, okB, D.tru, negD, cmpD, opD, idxD, slcD, biD, okF, endR, setE, bindT, itemsD, tb_fn, tb_gl, tb_ar, tb_ki, tb_sub, tb_hot, f_listed, c_listed, Val.d]
end

end Kv

namespace Kv
open PySem PySem.Spec PyProof.Rows L2 Hf
set_option autoImplicit false
theorem op_list (o : Op) : D.eqD (.str o.s) (.str "list") = .ok (decide (o = .list)) := by cases o <;> kernel_rfl
theorem op_same (o : Op) : D.eqD (.str o.s) (.str "same") = .ok (decide (o = .same)) := by cases o <;> kernel_rfl
theorem op_join (o : Op) : D.eqD (.str o.s) (.str "join") = .ok (decide (o = .join)) := by cases o <;> kernel_rfl
theorem op_over (o : Op) : D.eqD (.str o.s) (.str "over") = .ok (decide (o = .over)) := by cases o <;> kernel_rfl
theorem op_less (o : Op) : D.eqD (.str o.s) (.str "less") = .ok (decide (o = .less)) := by cases o <;> kernel_rfl
theorem op_down (o : Op) : D.eqD (.str o.s) (.str "down") = .ok (decide (o = .down)) := by cases o <;> kernel_rfl
theorem op_empty (o : Op) : D.eqD (.str o.s) (.str "empty") = .ok (decide (o = .empty)) := by cases o <;> kernel_rfl
theorem op_first (o : Op) : D.eqD (.str o.s) (.str "first") = .ok (decide (o = .first)) := by cases o <;> kernel_rfl
def Op.un (o : Op) : Bool := match o with
  | .first | .rest | .empty | .down => true
  | _ => false
theorem op_in (o : Op) : inD (.str o.s) (.tup [.str "first", .str "rest", .str "empty", .str "down"]) = .ok o.un := by cases o <;> kernel_rfl
theorem lk_p (x y z : D) : lkD ["plus", "minus", "times"] [x, y, z] Op.plus.s = some x := by kernel_rfl
theorem lk_m (x y z : D) : lkD ["plus", "minus", "times"] [x, y, z] Op.minus.s = some y := by kernel_rfl
theorem lk_t (x y z : D) : lkD ["plus", "minus", "times"] [x, y, z] Op.times.s = some z := by kernel_rfl
theorem pr_fit {v : Val} (b : Bool) (h : v.isV = b) : (fit v).pr = .tup [.bl b, if b = true then v.d else .str "TooGreat"] := by
  cases b <;> simp [fit, h, An.pr]
theorem ix_bit (b : Bool) : ixN 2 (if b = true then 1 else 0) = some (if b = true then 1 else 0) := by cases b <;> rfl
theorem ix01 : ixN 2 1 = some 1 := rfl
theorem ix00 : ixN 2 0 = some 0 := rfl
theorem p18 : (10 : Int) ^ (18 : Nat) = 1000000000000000000 := by decide
theorem wts_vs {vs : List Val} (hv : ∀ v ∈ vs, v.isV = true) : Val.wts vs ≤ 50 * vs.length ∧ Val.oks vs = true := by
  refine ⟨?_, oks_of fun v h => (isV_ok (hv v h)).1⟩
  induction vs with
  | nil => simp [Val.wts]
  | cons v r ih =>
    have := (isV_ok (hv v (by simp))).2
    have := ih fun x hx => hv x (by simp [hx])
    simp only [Val.wts, List.length_cons]; omega
theorem deps_vs {vs : List Val} (h : ∀ v ∈ vs, v.isV = true) : deps (Val.ds vs) ≤ 50 := by
  induction vs with
  | nil => simp [Val.ds, deps]
  | cons v r ih =>
    have h1 := v_dep v
    have h2 := (isV_ok (h v (by simp))).2
    have := ih fun x hx => h x (by simp [hx])
    simp only [Val.ds, deps]
    omega
theorem at0 (a : D) (r : List D) : atI (a :: r) 0 = some a := by simp [atI, ix0]
theorem at1 (a b : D) (r : List D) : atI (a :: b :: r) 1 = some b := by
  have : ixN (r.length + 2) 1 = some 1 := ixN_nat (n := r.length + 2) (k := 1) (by omega)
  simp [atI, this]
section
variable {pg : Pg} (H : HasA pg)
include H
theorem v_lfitI {n : Nat} (i : Int) : callN pg (n + 1) "_law_fit" [.int i] = .ok (false, (fit (.int i)).pr) := by
  rw [cN H.l__law_fit]
  have z := sz 2
  by_cases c : (Val.int i).isV = true
  · have h : -1000000000000000000 < i ∧ i < 1000000000000000000 := by simpa [Val.isV, Val.ok, Val.wt] using c
    have h1 : (if i < 0 then -i else i) < 1000000000000000000 := by split <;> omega
    have h2 : ¬ 1000000000000000000 ≤ (if i < 0 then -i else i) := by omega
    simp [runD, argsD, entE, exs, ex, evT, ev, evs, evo, evc, evi, bor, getO, getF, sndR, intR, Res.bind, onR, Fl.seq, fz, usT, us, ub, uss, uso, usc, usi, isiD, okB, D.tru, negD, cmpD, opD, idxD, slcD, biD, okF, endR, setE, bindT, itemsD, tb_fn, tb_gl, tb_ar, tb_ki, tb_sub, tb_hot, f__law_fit, c__law_fit, fit, c, An.pr, z, h1, atI, ix00, ix01, Val.d]
    rw [if_neg h2]; simp [ix00, z]
  · have h : ¬ (-1000000000000000000 < i ∧ i < 1000000000000000000) := by simpa [Val.isV, Val.ok, Val.wt] using c
    have h2 : 1000000000000000000 ≤ (if i < 0 then -i else i) := by split <;> omega
    have h1 : ¬ (if i < 0 then -i else i) < 1000000000000000000 := by omega
    simp [runD, argsD, entE, exs, ex, evT, ev, evs, evo, evc, evi, bor, getO, getF, sndR, intR, Res.bind, onR, Fl.seq, fz, usT, us, ub, uss, uso, usc, usi, isiD, okB, D.tru, negD, cmpD, opD, idxD, slcD, biD, okF, endR, setE, bindT, itemsD, tb_fn, tb_gl, tb_ar, tb_ki, tb_sub, tb_hot, f__law_fit, c__law_fit, fit, c, An.pr, z, h1, atI, ix00, ix01, Val.d]
    rw [if_pos h2]; simp [ix01, z]
theorem v_lfitT {n : Nat} (xs : List Val) (ho : Val.oks xs = true) (hd : deps (Val.ds xs) + 1 < n) (hw : Val.wts xs ≤ 100000) : callN pg (n + 1) "_law_fit" [.tup (Val.ds xs)] = .ok (false, (fit (.tup xs)).pr) := by
  rw [cN H.l__law_fit]
  have z := sz 2
  have hdp := v_dep (.tup xs)
  have e0 : (Val.tup xs).wt = 1 + Val.wts xs := by simp [Val.wt]
  have w := v_lweight H.toHasV n (Val.tup xs).d (v_tr _) (by show 1 + deps (Val.ds xs) < n; omega) (by rw [v_wt]; omega)
  rw [v_wt] at w
  simp only [Val.d] at w
  have hv : (Val.tup xs).isV = decide ((Val.tup xs).wt ≤ 50) := by simp [Val.isV, Val.ok, ho]
  by_cases c : (Val.tup xs).wt ≤ 50
  · have c2 : ¬ (50 : Int) < (Val.tup xs).wt := by omega
    have c1 : ((Val.tup xs).wt : Int) ≤ 50 := by omega
    simp [runD, argsD, entE, exs, ex, evT, ev, evs, evo, evc, evi, bor, getO, getF, sndR, intR, Res.bind, onR, Fl.seq, fz, usT, us, ub, uss, uso, usc, usi, isiD, okB, D.tru, negD, cmpD, opD, idxD, slcD, biD, okF, endR, setE, bindT, itemsD, tb_fn, tb_gl, tb_ar, tb_ki, tb_sub, tb_hot, f__law_fit, c__law_fit, w, fit, hv, c, c1, c2, An.pr, z, atI, ix00, ix01, Val.d]
  · have c2 : (50 : Int) < (Val.tup xs).wt := by omega
    have c1 : ¬ ((Val.tup xs).wt : Int) ≤ 50 := by omega
    simp [runD, argsD, entE, exs, ex, evT, ev, evs, evo, evc, evi, bor, getO, getF, sndR, intR, Res.bind, onR, Fl.seq, fz, usT, us, ub, uss, uso, usc, usi, isiD, okB, D.tru, negD, cmpD, opD, idxD, slcD, biD, okF, endR, setE, bindT, itemsD, tb_fn, tb_gl, tb_ar, tb_ki, tb_sub, tb_hot, f__law_fit, c__law_fit, w, fit, hv, c, c1, c2, An.pr, z, atI, ix00, ix01, Val.d]
theorem v_lcount {n : Nat} (o : Op) (h : o = .plus ∨ o = .minus ∨ o = .times ∨ o = .over ∨ o = .less) (a b : Val) (ha : a.isV = true) (hb : b.isV = true) : callN pg (n + 2) "_law_counted" [.str o.s, a.d, b.d] = .ok (false, (o.do [a, b]).pr) := by
  rw [cN H.l__law_counted]
  have z := sz 2
  cases a with
  | tup xs => rcases h with rfl | rfl | rfl | rfl | rfl <;> simp [runD, argsD, entE, exs, ex, evT, ev, evs, evo, evc, evi, bor, getO, getF, sndR, intR, Res.bind, onR, Fl.seq, fz, usT, us, ub, uss, uso, usc, usi, isiD, okB, D.tru, negD, cmpD, opD, idxD, slcD, biD, okF, endR, setE, bindT, itemsD, tb_fn, tb_gl, tb_ar, tb_ki, tb_sub, tb_hot, f__law_counted, c__law_counted, Val.d, z, Op.do, An.pr]
  | int i =>
    cases b with
    | tup xs => rcases h with rfl | rfl | rfl | rfl | rfl <;> simp [runD, argsD, entE, exs, ex, evT, ev, evs, evo, evc, evi, bor, getO, getF, sndR, intR, Res.bind, onR, Fl.seq, fz, usT, us, ub, uss, uso, usc, usi, isiD, okB, D.tru, negD, cmpD, opD, idxD, slcD, biD, okF, endR, setE, bindT, itemsD, tb_fn, tb_gl, tb_ar, tb_ki, tb_sub, tb_hot, f__law_counted, c__law_counted, Val.d, z, Op.do, An.pr]
    | int j =>
      obtain ⟨h1, h2, h3⟩ := num_log hb
      have f := fun i => v_lfitI H (n := n) i
      rcases h with rfl | rfl | rfl | rfl | rfl
      · simp [runD, argsD, entE, exs, ex, evT, ev, evs, evo, evc, evi, bor, getO, getF, sndR, intR, Res.bind, onR, Fl.seq, fz, usT, us, ub, uss, uso, usc, usi, isiD, okB, D.tru, negD, cmpD, opD, idxD, slcD, biD, okF, endR, setE, bindT, itemsD, tb_fn, tb_gl, tb_ar, tb_ki, tb_sub, tb_hot, f__law_counted, c__law_counted, Val.d, op_over, op_less, lk_p, lk_m, lk_t, Hf.MulOk, h2, h3, f, Op.do]
      · simp [runD, argsD, entE, exs, ex, evT, ev, evs, evo, evc, evi, bor, getO, getF, sndR, intR, Res.bind, onR, Fl.seq, fz, usT, us, ub, uss, uso, usc, usi, isiD, okB, D.tru, negD, cmpD, opD, idxD, slcD, biD, okF, endR, setE, bindT, itemsD, tb_fn, tb_gl, tb_ar, tb_ki, tb_sub, tb_hot, f__law_counted, c__law_counted, Val.d, op_over, op_less, lk_p, lk_m, lk_t, Hf.MulOk, h2, h3, f, Op.do]
      · simp [runD, argsD, entE, exs, ex, evT, ev, evs, evo, evc, evi, bor, getO, getF, sndR, intR, Res.bind, onR, Fl.seq, fz, usT, us, ub, uss, uso, usc, usi, isiD, okB, D.tru, negD, cmpD, opD, idxD, slcD, biD, okF, endR, setE, bindT, itemsD, tb_fn, tb_gl, tb_ar, tb_ki, tb_sub, tb_hot, f__law_counted, c__law_counted, Val.d, op_over, op_less, lk_p, lk_m, lk_t, Hf.MulOk, h2, h3, f, Op.do]
      · by_cases h0 : j = 0
        · subst h0
          simp [runD, argsD, entE, exs, ex, evT, ev, evs, evo, evc, evi, bor, getO, getF, sndR, intR, Res.bind, onR, Fl.seq, fz, usT, us, ub, uss, uso, usc, usi, isiD, okB, D.tru, negD, cmpD, opD, idxD, slcD, biD, okF, endR, setE, bindT, itemsD, tb_fn, tb_gl, tb_ar, tb_ki, tb_sub, tb_hot, f__law_counted, c__law_counted, Val.d, op_over, op_less, Op.do, eqI, z, An.pr]
        · by_cases hp : 0 < j
          · simp [runD, argsD, entE, exs, ex, evT, ev, evs, evo, evc, evi, bor, getO, getF, sndR, intR, Res.bind, onR, Fl.seq, fz, usT, us, ub, uss, uso, usc, usi, isiD, okB, D.tru, negD, cmpD, opD, idxD, slcD, biD, okF, endR, setE, bindT, itemsD, tb_fn, tb_gl, tb_ar, tb_ki, tb_sub, tb_hot, f__law_counted, c__law_counted, Val.d, op_over, op_less, Op.do, eqI, h0, hp, h1, f, fdiv_pos]
          · have hn : j < 0 := by omega
            simp [runD, argsD, entE, exs, ex, evT, ev, evs, evo, evc, evi, bor, getO, getF, sndR, intR, Res.bind, onR, Fl.seq, fz, usT, us, ub, uss, uso, usc, usi, isiD, okB, D.tru, negD, cmpD, opD, idxD, slcD, biD, okF, endR, setE, bindT, itemsD, tb_fn, tb_gl, tb_ar, tb_ki, tb_sub, tb_hot, f__law_counted, c__law_counted, Val.d, op_over, op_less, Op.do, eqI, h0, hp, hn, h1, f]
      · by_cases h0 : i < j <;> simp [runD, argsD, entE, exs, ex, evT, ev, evs, evo, evc, evi, bor, getO, getF, sndR, intR, Res.bind, onR, Fl.seq, fz, usT, us, ub, uss, uso, usc, usi, isiD, okB, D.tru, negD, cmpD, opD, idxD, slcD, biD, okF, endR, setE, bindT, itemsD, tb_fn, tb_gl, tb_ar, tb_ki, tb_sub, tb_hot, f__law_counted, c__law_counted, Val.d, op_over, op_less, Op.do, z, h0, An.pr]
theorem v_ltaken {n : Nat} (o : Op) (h : o.un = true) (a : Val) : callN pg (n + 1) "_law_taken" [.str o.s, a.d] = .ok (false, (o.do [a]).pr) := by
  rw [cN H.l__law_taken]
  have z := sz 2
  cases o <;> simp only [Op.un] at h <;> try (cases h)
  · cases a with
    | tup xs => simp [runD, argsD, entE, exs, ex, evT, ev, evs, evo, evc, evi, bor, getO, getF, sndR, intR, Res.bind, onR, Fl.seq, fz, usT, us, ub, uss, uso, usc, usi, isiD, okB, D.tru, negD, cmpD, opD, idxD, slcD, biD, okF, endR, setE, bindT, itemsD, tb_fn, tb_gl, tb_ar, tb_ki, tb_sub, tb_hot, f__law_taken, c__law_taken, Val.d, op_down, z, Op.do, An.pr]
    | int i =>
      by_cases c : i ≤ 0
      · have c2 : ¬ 0 < i := by omega
        simp [runD, argsD, entE, exs, ex, evT, ev, evs, evo, evc, evi, bor, getO, getF, sndR, intR, Res.bind, onR, Fl.seq, fz, usT, us, ub, uss, uso, usc, usi, isiD, okB, D.tru, negD, cmpD, opD, idxD, slcD, biD, okF, endR, setE, bindT, itemsD, tb_fn, tb_gl, tb_ar, tb_ki, tb_sub, tb_hot, f__law_taken, c__law_taken, Val.d, op_down, z, Op.do, c, c2, An.pr, atI, ix01]
      · have c2 : 0 < i := by omega
        simp [runD, argsD, entE, exs, ex, evT, ev, evs, evo, evc, evi, bor, getO, getF, sndR, intR, Res.bind, onR, Fl.seq, fz, usT, us, ub, uss, uso, usc, usi, isiD, okB, D.tru, negD, cmpD, opD, idxD, slcD, biD, okF, endR, setE, bindT, itemsD, tb_fn, tb_gl, tb_ar, tb_ki, tb_sub, tb_hot, f__law_taken, c__law_taken, Val.d, op_down, z, Op.do, c, c2, An.pr, atI, ix00]
  · cases a with
    | int i => simp [runD, argsD, entE, exs, ex, evT, ev, evs, evo, evc, evi, bor, getO, getF, sndR, intR, Res.bind, onR, Fl.seq, fz, usT, us, ub, uss, uso, usc, usi, isiD, okB, D.tru, negD, cmpD, opD, idxD, slcD, biD, okF, endR, setE, bindT, itemsD, tb_fn, tb_gl, tb_ar, tb_ki, tb_sub, tb_hot, f__law_taken, c__law_taken, Val.d, op_down, z, Op.do, An.pr]
    | tup xs =>
      cases xs with
      | nil => simp [runD, argsD, entE, exs, ex, evT, ev, evs, evo, evc, evi, bor, getO, getF, sndR, intR, Res.bind, onR, Fl.seq, fz, usT, us, ub, uss, uso, usc, usi, isiD, okB, D.tru, negD, cmpD, opD, idxD, slcD, biD, okF, endR, setE, bindT, itemsD, tb_fn, tb_gl, tb_ar, tb_ki, tb_sub, tb_hot, f__law_taken, c__law_taken, Val.d, Val.ds, op_down, op_empty, op_first, z, Op.do, eqI, An.pr]
      | cons x r =>
        have e : ¬ ((Val.ds r).length : Int) + 1 = 0 := by omega
        simp [runD, argsD, entE, exs, ex, evT, ev, evs, evo, evc, evi, bor, getO, getF, sndR, intR, Res.bind, onR, Fl.seq, fz, usT, us, ub, uss, uso, usc, usi, isiD, okB, D.tru, negD, cmpD, opD, idxD, slcD, biD, okF, endR, setE, bindT, itemsD, tb_fn, tb_gl, tb_ar, tb_ki, tb_sub, tb_hot, f__law_taken, c__law_taken, Val.d, Val.ds, op_down, op_empty, op_first, z, Op.do, eqI, e, An.pr, atI, ix0]
  · cases a with
    | int i => simp [runD, argsD, entE, exs, ex, evT, ev, evs, evo, evc, evi, bor, getO, getF, sndR, intR, Res.bind, onR, Fl.seq, fz, usT, us, ub, uss, uso, usc, usi, isiD, okB, D.tru, negD, cmpD, opD, idxD, slcD, biD, okF, endR, setE, bindT, itemsD, tb_fn, tb_gl, tb_ar, tb_ki, tb_sub, tb_hot, f__law_taken, c__law_taken, Val.d, op_down, z, Op.do, An.pr]
    | tup xs =>
      cases xs with
      | nil => simp [runD, argsD, entE, exs, ex, evT, ev, evs, evo, evc, evi, bor, getO, getF, sndR, intR, Res.bind, onR, Fl.seq, fz, usT, us, ub, uss, uso, usc, usi, isiD, okB, D.tru, negD, cmpD, opD, idxD, slcD, biD, okF, endR, setE, bindT, itemsD, tb_fn, tb_gl, tb_ar, tb_ki, tb_sub, tb_hot, f__law_taken, c__law_taken, Val.d, Val.ds, op_down, op_empty, op_first, z, Op.do, eqI, An.pr]
      | cons x r =>
        have e : ¬ ((Val.ds r).length : Int) + 1 = 0 := by omega
        have e2 : Hf.cutD (x.d :: Val.ds r) (some 1) none = Val.ds r := by
          have e1 : HT.sIx ((Val.ds r).length + 1) 0 (some 1) = 1 := (HT.sIx_nat _ _ 1).trans (by omega)
          simp [Hf.cutD, HT.sIx_none, e1]
        simp [runD, argsD, entE, exs, ex, evT, ev, evs, evo, evc, evi, bor, getO, getF, sndR, intR, Res.bind, onR, Fl.seq, fz, usT, us, ub, uss, uso, usc, usi, isiD, okB, D.tru, negD, cmpD, opD, idxD, slcD, biD, okF, endR, setE, bindT, itemsD, tb_fn, tb_gl, tb_ar, tb_ki, tb_sub, tb_hot, f__law_taken, c__law_taken, Val.d, Val.ds, op_down, op_empty, op_first, z, Op.do, eqI, e, e2, An.pr]
  · cases a with
    | int i => simp [runD, argsD, entE, exs, ex, evT, ev, evs, evo, evc, evi, bor, getO, getF, sndR, intR, Res.bind, onR, Fl.seq, fz, usT, us, ub, uss, uso, usc, usi, isiD, okB, D.tru, negD, cmpD, opD, idxD, slcD, biD, okF, endR, setE, bindT, itemsD, tb_fn, tb_gl, tb_ar, tb_ki, tb_sub, tb_hot, f__law_taken, c__law_taken, Val.d, op_down, z, Op.do, An.pr]
    | tup xs =>
      cases xs with
      | nil => simp [runD, argsD, entE, exs, ex, evT, ev, evs, evo, evc, evi, bor, getO, getF, sndR, intR, Res.bind, onR, Fl.seq, fz, usT, us, ub, uss, uso, usc, usi, isiD, okB, D.tru, negD, cmpD, opD, idxD, slcD, biD, okF, endR, setE, bindT, itemsD, tb_fn, tb_gl, tb_ar, tb_ki, tb_sub, tb_hot, f__law_taken, c__law_taken, Val.d, Val.ds, op_down, op_empty, op_first, z, Op.do, eqI, An.pr]
      | cons x r =>
        have e : ¬ ((Val.ds r).length : Int) + 1 = 0 := by omega
        simp [runD, argsD, entE, exs, ex, evT, ev, evs, evo, evc, evi, bor, getO, getF, sndR, intR, Res.bind, onR, Fl.seq, fz, usT, us, ub, uss, uso, usc, usi, isiD, okB, D.tru, negD, cmpD, opD, idxD, slcD, biD, okF, endR, setE, bindT, itemsD, tb_fn, tb_gl, tb_ar, tb_ki, tb_sub, tb_hot, f__law_taken, c__law_taken, Val.d, Val.ds, op_down, op_empty, op_first, z, Op.do, eqI, e, An.pr]
theorem v_ldone {n : Nat} (hn : 60 ≤ n) {o : Op} {vs : List Val} (ht : o.takes vs.length = true) (hv : ∀ v ∈ vs, v.isV = true) : callN pg (n + 3) "_law_done" [.str o.s, .lst (Val.ds vs)] = .ok (false, (o.do vs).pr) := by
  rw [cN H.l__law_done]
  have z := sz 2
  have z1 := sz 1
  have z4 := sz 4
  obtain ⟨w1, w2⟩ := wts_vs hv
  by_cases hl : o = .list
  · subst hl
    have hk : vs.length ≤ 8 := by simpa [Op.takes] using ht
    have f := v_lfitT H (n := n + 1) vs w2 (by have := deps_vs hv; omega) (by omega)
    simp [runD, argsD, entE, exs, ex, evT, ev, evs, evo, evc, evi, bor, getO, getF, sndR, intR, Res.bind, onR, Fl.seq, fz, usT, us, ub, uss, uso, usc, usi, isiD, okB, D.tru, negD, cmpD, opD, idxD, slcD, biD, okF, endR, setE, bindT, itemsD, tb_fn, tb_gl, tb_ar, tb_ki, tb_sub, tb_hot, f__law_done, c__law_done, op_list, f, Op.do]
  by_cases hs : o = .same
  · subst hs
    obtain ⟨a, b, rfl⟩ := pair_of (by simpa [Op.takes] using ht)
    have e := eq_val a b (by have := (isV_ok (hv a (by simp))).2; omega)
    by_cases h : a = b
    · subst h
      simp [runD, argsD, entE, exs, ex, evT, ev, evs, evo, evc, evi, bor, getO, getF, sndR, intR, Res.bind, onR, Fl.seq, fz, usT, us, ub, uss, uso, usc, usi, isiD, okB, D.tru, negD, cmpD, opD, idxD, slcD, biD, okF, endR, setE, bindT, itemsD, tb_fn, tb_gl, tb_ar, tb_ki, tb_sub, tb_hot, f__law_done, c__law_done, op_list, op_same, Val.ds, at0, at1, e, z, Op.do, An.pr, Val.d]
    · simp [runD, argsD, entE, exs, ex, evT, ev, evs, evo, evc, evi, bor, getO, getF, sndR, intR, Res.bind, onR, Fl.seq, fz, usT, us, ub, uss, uso, usc, usi, isiD, okB, D.tru, negD, cmpD, opD, idxD, slcD, biD, okF, endR, setE, bindT, itemsD, tb_fn, tb_gl, tb_ar, tb_ki, tb_sub, tb_hot, f__law_done, c__law_done, op_list, op_same, Val.ds, at0, at1, e, h, z, Op.do, An.pr, Val.d]
  by_cases hu : o.un = true
  · obtain ⟨a, rfl⟩ := one_of (by cases o <;> simp [Op.un] at hu <;> simpa [Op.takes] using ht)
    have f := v_ltaken H (n := n + 1) o hu a
    simp [runD, argsD, entE, exs, ex, evT, ev, evs, evo, evc, evi, bor, getO, getF, sndR, intR, Res.bind, onR, Fl.seq, fz, usT, us, ub, uss, uso, usc, usi, isiD, okB, D.tru, negD, cmpD, opD, idxD, slcD, biD, okF, endR, setE, bindT, itemsD, tb_fn, tb_gl, tb_ar, tb_ki, tb_sub, tb_hot, f__law_done, c__law_done, op_list, op_same, op_in, hl, hs, hu, Val.ds, at0, f, z4]
  by_cases hj : o = .join
  · subst hj
    obtain ⟨a, b, rfl⟩ := pair_of (by simpa [Op.takes] using ht)
    cases b with
    | int i => simp [runD, argsD, entE, exs, ex, evT, ev, evs, evo, evc, evi, bor, getO, getF, sndR, intR, Res.bind, onR, Fl.seq, fz, usT, us, ub, uss, uso, usc, usi, isiD, okB, D.tru, negD, cmpD, opD, idxD, slcD, biD, okF, endR, setE, bindT, itemsD, tb_fn, tb_gl, tb_ar, tb_ki, tb_sub, tb_hot, f__law_done, c__law_done, op_list, op_same, op_in, op_join, Op.un, Val.ds, Val.d, at0, at1, z, z4, Op.do, An.pr]
    | tup xs =>
      have h1 := isV_ok (hv a (by simp))
      have h2 := isV_ok (hv (.tup xs) (by simp))
      have h3 := Val.wts_len xs
      simp only [Val.wt, Val.ok] at h2
      have f := v_lfitT H (n := n + 1) (a :: xs) (by simp [Val.oks, h1.1, h2.1]) (by have e1 := v_dep a; have e2 := v_dep (.tup xs); simp only [Val.d, dep, Val.wt] at e2; simp only [Val.ds, deps]; omega) (by simp only [Val.wts]; omega)
      simp only [Val.ds] at f
      have hz : 1 + (Val.ds xs).length ≤ sizeLine := by rw [ds_len, sizeLine_eq]; omega
      simp [runD, argsD, entE, exs, ex, evT, ev, evs, evo, evc, evi, bor, getO, getF, sndR, intR, Res.bind, onR, Fl.seq, fz, usT, us, ub, uss, uso, usc, usi, isiD, okB, D.tru, negD, cmpD, opD, idxD, slcD, biD, okF, endR, setE, bindT, itemsD, tb_fn, tb_gl, tb_ar, tb_ki, tb_sub, tb_hot, f__law_done, c__law_done, op_list, op_same, op_in, op_join, Op.un, Val.ds, Val.d, at0, at1, z1, z4, hz, f, Op.do]
  obtain ⟨a, b, rfl⟩ := pair_of (by cases o <;> simp [Op.un] at hu hl hs hj <;> simpa [Op.takes] using ht)
  have f := v_lcount H (n := n) o (by cases o <;> simp [Op.un] at hu hl hs hj <;> simp) a b (hv a (by simp)) (hv b (by simp))
  simp [runD, argsD, entE, exs, ex, evT, ev, evs, evo, evc, evi, bor, getO, getF, sndR, intR, Res.bind, onR, Fl.seq, fz, usT, us, ub, uss, uso, usc, usi, isiD, okB, D.tru, negD, cmpD, opD, idxD, slcD, biD, okF, endR, setE, bindT, itemsD, tb_fn, tb_gl, tb_ar, tb_ki, tb_sub, tb_hot, f__law_done, c__law_done, op_list, op_same, op_in, op_join, hl, hs, hu, hj, Val.ds, at0, at1, f, z4]
end

end Kv

namespace Kv
open PySem PySem.Spec PyProof.Rows L2 Hf
set_option autoImplicit false
/-! ### steps -/
section
variable {T : Tb} {wf : Nat} {ρ ρ' ρ1 : En} {R : Fl} {ss a b : Sts} {c : Te} {e : Ex} {i : Nat}
theorem g_t (h : evT T c ρ = .ok true) (h2 : (exs T wf a ρ).seq (exs T wf ss) = R) (hz : fz (usT c) ρ = ρ := by rfl) : exs T wf (.cons (.ifs c a b) ss) ρ = R := by
  rw [exs, ex, hz, h]; simpa [onR] using h2
theorem g_f (h : evT T c ρ = .ok false) (h2 : (exs T wf b ρ).seq (exs T wf ss) = R) (hz : fz (usT c) ρ = ρ := by rfl) : exs T wf (.cons (.ifs c a b) ss) ρ = R := by
  rw [exs, ex, hz, h]; simpa [onR] using h2
/-- an if without another way, not taken -/
theorem g_fn (h : evT T c ρ = .ok false) (h2 : exs T wf ss ρ = R) (hz : fz (usT c) ρ = ρ := by rfl) : exs T wf (.cons (.ifs c a .nil) ss) ρ = R := by
  rw [exs, ex, hz, h]; simpa [onR, exs, Fl.seq] using h2
theorem g_set {x : Bool × D} (ρ' : En) (h : ev T e ρ = .ok x) (h2 : exs T wf ss ρ' = R) (hs : ρ.set i (some x) = ρ' := by rfl) (hz : fz (us e) ρ = ρ := by rfl) : exs T wf (.cons (.set i e) ss) ρ = R := by
  rw [exs, ex, hz, h]; simp only [onR, Fl.seq]; rw [hs]; exact h2
theorem g_st {s : Hf.St} (ρ' : En) (h : ex T wf s ρ = .nx ρ') (h2 : exs T wf ss ρ' = R) : exs T wf (.cons s ss) ρ = R := by
  rw [exs, h]; exact h2
theorem g_end {s : Hf.St} {b : Bool} {d : D} (h : ex T wf s ρ = .rt b d) : exs T wf (.cons s ss) ρ = .rt b d := by
  rw [exs, h]; rfl
theorem g_exc {s : Hf.St} {w : Str} (h : ex T wf s ρ = .ex w ρ') : exs T wf (.cons s ss) ρ = .ex w ρ' := by
  rw [exs, h]; rfl
theorem g_for {t : Tg} {it : Is} {ds : List D} (ρ1 : En) (h : evi T it ρ = .ok ds) (h1 : forN t (exs T wf b) ds ρ = .nx ρ1) (h2 : exs T wf ss ρ1 = R) (hz : fz (usi it) ρ = ρ := by rfl) : exs T wf (.cons (.for_ t it b) ss) ρ = R := by
  rw [exs, ex, hz, h]; simp only [onR]; rw [h1]; exact h2
theorem g_forS {t : Tg} {it : Is} {ds : List D} (h : evi T it ρ = .ok ds) (h2 : (forN t (exs T wf b) ds ρ).seq (exs T wf ss) = R) (hz : fz (usi it) ρ = ρ := by rfl) : exs T wf (.cons (.for_ t it b) ss) ρ = R := by
  rw [exs, ex, hz, h]; exact h2
theorem s_nx {r : Fl} {K : En → Fl} (h : r = .nx ρ') (h2 : K ρ' = R) : r.seq K = R := by rw [h]; exact h2
theorem s_rt {r : Fl} {K : En → Fl} {b : Bool} {d : D} (h : r = .rt b d) : r.seq K = .rt b d := by rw [h]; rfl
theorem s_ex {r : Fl} {K : En → Fl} {w : Str} (h : r = .ex w ρ') : r.seq K = .ex w ρ' := by rw [h]; rfl
theorem f_nil {t : Tg} {k : En → Fl} : forN t k [] ρ = .nx ρ := rfl
theorem f_nx {t : Tg} {k : En → Fl} {d : D} {ds : List D} {ρ2 : En} (h : bindT t d ρ = .ok ρ1) (h1 : k ρ1 = .nx ρ2) (h2 : forN t k ds ρ2 = R) : forN t k (d :: ds) ρ = R := by
  rw [forN, h]; simp only []; rw [h1]; exact h2
theorem f_rt {t : Tg} {k : En → Fl} {d : D} {ds : List D} {b : Bool} {r : D} (h : bindT t d ρ = .ok ρ1) (h1 : k ρ1 = .rt b r) : forN t k (d :: ds) ρ = .rt b r := by
  rw [forN, h]; simp only []; rw [h1]
theorem f_ex {t : Tg} {k : En → Fl} {d : D} {ds : List D} {w : Str} (h : bindT t d ρ = .ok ρ1) (h1 : k ρ1 = .ex w ρ') : forN t k (d :: ds) ρ = .ex w ρ' := by
  rw [forN, h]; simp only []; rw [h1]
theorem c_run {pg : Pg} {n : Nat} {f : Str} {df : Df} {ds : List D} (ρ : En) (h : pg.fs.lookup f = some df) {r : Res (Bool × D)} (h2 : exs (pg.tb n) pg.wf df.code ρ = R) (h3 : endR R = r) (hρ : entE df.N (argsD df ds) = ρ := by rfl) : callN pg (n + 1) f ds = r := by
  rw [cN h, runD, hρ, h2, h3]
end
/-- a for loop by an invariant of what is left -/
theorem forN_inv {t : Tg} {b : En → Fl} (I : List D → En → Prop) (h : ∀ d ds ρ, I (d :: ds) ρ → ∃ ρ1 ρ2, bindT t d ρ = .ok ρ1 ∧ b ρ1 = .nx ρ2 ∧ I ds ρ2) : ∀ (ds : List D) (ρ : En), I ds ρ → ∃ ρ', forN t b ds ρ = .nx ρ' ∧ I [] ρ'
  | [], ρ, i => ⟨ρ, rfl, i⟩
  | d :: ds, ρ, i => by
    obtain ⟨ρ1, ρ2, e1, e2, i2⟩ := h d ds ρ i
    obtain ⟨ρ', e3, i3⟩ := forN_inv I h ds ρ2 i2
    exact ⟨ρ', f_nx e1 e2 e3, i3⟩
theorem rng0 (k : Nat) (h : k < 2 ^ 62) : rngD 0 (k : Int) = .ok ((List.range k).map fun (i : Nat) => D.int (i : Int)) := by
  unfold rngD
  have h2 : (k : Int) < 2 ^ 62 := by omega
  rw [if_pos ⟨by decide, by decide, by omega, h2⟩]
  congr 1
  have : ((k : Int) - 0).toNat = k := by omega
  rw [this]
  apply List.map_congr_left
  intro i _
  simp
theorem evi_rng1 {T : Tb} {hi : Ex} {ρ : En} {k : Int} {r : Res (List D)} (h : bor hi ρ (ev T hi ρ) = .ok (.int k)) (h2 : rngD 0 k = r) : evi T (.rng1 hi) ρ = r := by
  rw [evi, h, ← h2]; rfl
theorem evi_rng2 {T : Tb} {lo hi : Ex} {ρ : En} {j k : Int} {r : Res (List D)} (h1 : bor lo ρ (ev T lo ρ) = .ok (.int j)) (h : bor hi ρ (ev T hi ρ) = .ok (.int k)) (h2 : rngD j k = r) : evi T (.rng2 lo hi) ρ = r := by
  rw [evi, h1, h, ← h2]; rfl
/-- a comprehension, item by item -/
def cF (T : Tb) (t : Tg) (vs : List Nat) (c : Tes) (e : Ex) (ρ : En) (d : D) : Res (Option D) := noX ((bindT t d (wipeE ρ vs)).bind fun ρ' => (evc T c ρ').bind fun k =>
      if k = true then (ev T e ρ').bind fun y => .ok (some y.2) else .ok none)
theorem ev_comp {T : Tb} {t : Tg} {vs : List Nat} {it : Is} {c : Tes} {e : Ex} {ρ : En} {ds ys : List D} (h : evi T it ρ = .ok ds) (hz : ds.length ≤ sizeLine) (hc : compL (cF T t vs c e ρ) ds = .ok ys) : ev T (.comp t vs it c e) ρ = .ok (true, .lst ys) := by
  have e1 : ev T (.comp t vs it c e) ρ = ((evi T it ρ).bind fun ds => if ds.length ≤ sizeLine then (compL (cF T t vs c e ρ) ds).bind fun ys => .ok (true, .lst ys) else .fail) := by rw [ev]; rfl
  rw [e1, h]
  simp only [Res.bind]
  rw [if_pos hz, hc]
theorem comp_ex {f : D → Res (Option D)} {α : Type} {g : α → D} {P : α → Prop} : ∀ {ds : List D}, (∀ d ∈ ds, ∃ v : α, P v ∧ f d = .ok (some (g v))) → ∃ vs : List α, vs.length = ds.length ∧ (∀ v ∈ vs, P v) ∧ compL f ds = .ok (vs.map g)
  | [], _ => ⟨[], rfl, by simp, rfl⟩
  | d :: ds, h => by
    obtain ⟨v, h1, h2⟩ := h d (by simp)
    obtain ⟨vs, h3, h4, h5⟩ := comp_ex (ds := ds) fun x hx => h x (by simp [hx])
    exact ⟨v :: vs, by simp [h3], fun u hu => (List.mem_cons.mp hu).elim (fun e => e ▸ h1) (h4 u), by rw [compL, h2, h5]; rfl⟩

end Kv

namespace Kv
open PySem PySem.Spec PyProof.Rows L2 Hf
set_option autoImplicit false
def bS : Sts := (.cons (.ifs (.not (.val (.call "_law_same" (.cons (.idx (.var 0) (.var 2)) (.cons (.idx (.var 1) (.var 2)) .nil))))) (.cons (.ret (.lit (.bl false)))
    .nil) .nil)
    .nil)
theorem loopS {T : Tb} {wf : Nat} {xs : List D} (h : ∀ x ∈ xs, T.fn "_law_same" [x, x] = .ok (false, .bl true)) : ∀ (ks : List Nat) (x2 : Option (Bool × D)), (∀ k ∈ ks, k < xs.length) → ∃ x3, forN (.one 2) (exs T wf bS) (ks.map fun (i : Nat) => D.int (i : Int)) [some (false, .tup xs), some (false, .tup xs), x2] = .nx [some (false, .tup xs), some (false, .tup xs), x3]
  | [], x2, _ => ⟨x2, rfl⟩
  | k :: ks, x2, hk => by
    obtain ⟨x3, e⟩ := loopS h ks (some (false, .int k)) fun i hi => hk i (by simp [hi])
    have hk0 := hk k (by simp)
    have h0 := h xs[k] (List.getElem_mem _)
    have e2 : exs T wf bS [some (false, .tup xs), some (false, .tup xs), some (false, .int k)] = .nx [some (false, .tup xs), some (false, .tup xs), some (false, .int k)] := by
      simp [runD, argsD, entE, exs, ex, evT, ev, evs, evo, evc, evi, bor, getO, getF, sndR, intR, Res.bind, onR, Fl.seq, fz, usT, us, ub, uss, uso, usc, usi, isiD, okB, D.tru, negD, cmpD, opD, idxD, slcD, biD, okF, endR, setE, bindT, itemsD, tb_fn, tb_gl, tb_ar, tb_ki, tb_sub, tb_hot, bS, atI_nat hk0, h0]
    exact ⟨x3, f_nx rfl e2 e⟩
theorem atI_ds {vs : List Val} {k : Nat} (h : k < vs.length) : atI (Val.ds vs) (k : Int) = some vs[k].d := by
  have h2 : k < (Val.ds vs).length := by rw [ds_len]; exact h
  rw [atI_nat h2]
  congr 1
  have : ∀ (xs : List D) (e : xs = vs.map Val.d) (q : k < xs.length), xs[k] = vs[k].d := by
    intro xs e q
    subst e
    simp
  exact this _ (ds_map vs) h2
theorem wtsI (xs : List Int) : Val.wts (xs.map Val.int) = xs.length := by
  induction xs with
  | nil => rfl
  | cons x r ih => simp only [List.map_cons, Val.wts, Val.wt, ih, List.length_cons]; omega
theorem dsI (xs : List Int) : Val.ds (xs.map Val.int) = xs.map D.int := by
  induction xs with
  | nil => rfl
  | cons x r ih => simp only [List.map_cons, Val.ds, Val.d, ih]
theorem isV_ints {xs : List Int} (h : ∀ x ∈ xs, -1000000000000000000 < x ∧ x < 1000000000000000000) (hl : xs.length ≤ 49) : (Val.tup (xs.map Val.int)).isV = true := by
  simp only [Val.isV, Bool.and_eq_true, decide_eq_true_eq, Val.ok, Val.wt, wtsI]
  refine ⟨oks_of fun v hv => ?_, by omega⟩
  obtain ⟨x, hx, rfl⟩ := List.mem_map.mp hv
  simpa [Val.ok] using h x hx
def vSome : List Val := [.int 0, .int 1, .int 2, .int 3, .int 5, .int (-1), .int (-4), .tup [], .tup [.int 1], .tup [.int 2, .int 0], .tup [.int 1, .int 2, .int 3], .tup [.tup [], .int 1], .tup [.tup [.int 1, .int 2], .tup [.int 3]], .tup [.int 4, .tup [.int 5, .tup [.int 6]]]]
theorem vSome_ok : ∀ v ∈ vSome, v.isV = true := by decide +kernel
def nextI (p : Int) : Int := (p * 48271 + 11) % 2147483647 * ((p * 48271 + 11) % 2147483647) % 2147483629
theorem nextI_lt (p : Int) : 0 ≤ nextI p ∧ nextI p < 2147483629 := ⟨Int.emod_nonneg _ (by decide), Int.emod_lt_of_pos _ (by decide)⟩
section
variable {pg : Pg} (H : HasV pg)
include H
theorem v_sameT {n : Nat} {xs : List D} (hw : xs.length < 2 ^ 62) (hi : ∀ d ∈ xs, (pg.tb n).fn "_law_same" [d, d] = .ok (false, .bl true)) : callN pg (n + 1) "_law_same" [.tup xs, .tup xs] = .ok (false, .bl true) := by
  obtain ⟨x3, e⟩ := loopS (wf := pg.wf) hi (List.range xs.length) none (fun k hk => by simpa using hk)
  have r := rng0 xs.length hw
  refine c_run [some (false, .tup xs), some (false, .tup xs), none] H.l__law_same (R := .rt false (.bl true)) (g_t (by simp [runD, argsD, entE, exs, ex, evT, ev, evs, evo, evc, evi, bor, getO, getF, sndR, intR, Res.bind, onR, Fl.seq, fz, usT, us, ub, uss, uso, usc, usi, isiD, okB, D.tru, negD, cmpD, opD, idxD, slcD, biD, okF, endR, setE, bindT, itemsD, tb_fn, tb_gl, tb_ar, tb_ki, tb_sub, tb_hot]) (s_rt ?_)) rfl
  exact g_fn (by simp [runD, argsD, entE, exs, ex, evT, ev, evs, evo, evc, evi, bor, getO, getF, sndR, intR, Res.bind, onR, Fl.seq, fz, usT, us, ub, uss, uso, usc, usi, isiD, okB, D.tru, negD, cmpD, opD, idxD, slcD, biD, okF, endR, setE, bindT, itemsD, tb_fn, tb_gl, tb_ar, tb_ki, tb_sub, tb_hot, eqI]) (g_for _ (evi_rng1 (by simp [runD, argsD, entE, exs, ex, evT, ev, evs, evo, evc, evi, bor, getO, getF, sndR, intR, Res.bind, onR, Fl.seq, fz, usT, us, ub, uss, uso, usc, usi, isiD, okB, D.tru, negD, cmpD, opD, idxD, slcD, biD, okF, endR, setE, bindT, itemsD, tb_fn, tb_gl, tb_ar, tb_ki, tb_sub, tb_hot]) r) e (by simp [runD, argsD, entE, exs, ex, evT, ev, evs, evo, evc, evi, bor, getO, getF, sndR, intR, Res.bind, onR, Fl.seq, fz, usT, us, ub, uss, uso, usc, usi, isiD, okB, D.tru, negD, cmpD, opD, idxD, slcD, biD, okF, endR, setE, bindT, itemsD, tb_fn, tb_gl, tb_ar, tb_ki, tb_sub, tb_hot]))
theorem v_same (n : Nat) : ∀ (d : D), Sm d → dep d < n → wt d ≤ 1000000 → callN pg n "_law_same" [d, d] = .ok (false, .bl true) := by
  induction n with
  | zero => intro d _ h _; omega
  | succ n ih =>
    intro d hs h hw
    cases hs with
    | int i => rw [cN H.l__law_same]; simp [runD, argsD, entE, exs, ex, evT, ev, evs, evo, evc, evi, bor, getO, getF, sndR, intR, Res.bind, onR, Fl.seq, fz, usT, us, ub, uss, uso, usc, usi, isiD, okB, D.tru, negD, cmpD, opD, idxD, slcD, biD, okF, endR, setE, bindT, itemsD, tb_fn, tb_gl, tb_ar, tb_ki, tb_sub, tb_hot, f__law_same, c__law_same, eqI]
    | str x hx => rw [cN H.l__law_same]; simp [runD, argsD, entE, exs, ex, evT, ev, evs, evo, evc, evi, bor, getO, getF, sndR, intR, Res.bind, onR, Fl.seq, fz, usT, us, ub, uss, uso, usc, usi, isiD, okB, D.tru, negD, cmpD, opD, idxD, slcD, biD, okF, endR, setE, bindT, itemsD, tb_fn, tb_gl, tb_ar, tb_ki, tb_sub, tb_hot, f__law_same, c__law_same, eq_str x x hx hx]
    | @tup xs hx =>
      have e2 : wt (.tup xs) = 1 + wts xs := by simp [wt]
      have e3 : dep (.tup xs) = 1 + deps xs := by simp [dep]
      have hl := wts_len xs
      exact v_sameT H (Nat.lt_of_le_of_lt (m := 1000000) (by omega) (by decide)) fun d hd => by
        have := wts_mem hd
        exact ih d (hx d hd) (by have := deps_mem hd; omega) (by omega)
theorem v_cell (ns : List Int) (k : Nat) : ∃ c : Int, ∀ n, callN pg (n + 1) "_law_cell_at" [.lst (ns.map D.int), .int k] = .ok (false, .int c) := by
  by_cases h : k < ns.length
  · refine ⟨ns[k], fun n => ?_⟩
    rw [cN H.l__law_cell_at]
    have h2 : k < (ns.map D.int).length := by simpa using h
    have h3 : (k : Int) < (ns.length : Int) := by omega
    have e := atI_nat h2
    simp only [List.getElem_map] at e
    simp [runD, argsD, entE, exs, ex, evT, ev, evs, evo, evc, evi, bor, getO, getF, sndR, intR, Res.bind, onR, Fl.seq, fz, usT, us, ub, uss, uso, usc, usi, isiD, okB, D.tru, negD, cmpD, opD, idxD, slcD, biD, okF, endR, setE, bindT, itemsD, tb_fn, tb_gl, tb_ar, tb_ki, tb_sub, tb_hot, f__law_cell_at, c__law_cell_at, h3, e]
  · refine ⟨0, fun n => ?_⟩
    rw [cN H.l__law_cell_at]
    have h3 : ¬ (k : Int) < (ns.length : Int) := by omega
    simp [runD, argsD, entE, exs, ex, evT, ev, evs, evo, evc, evi, bor, getO, getF, sndR, intR, Res.bind, onR, Fl.seq, fz, usT, us, ub, uss, uso, usc, usi, isiD, okB, D.tru, negD, cmpD, opD, idxD, slcD, biD, okF, endR, setE, bindT, itemsD, tb_fn, tb_gl, tb_ar, tb_ki, tb_sub, tb_hot, f__law_cell_at, c__law_cell_at, h3]
theorem v_next (n : Nat) (p : Int) : callN pg (n + 1) "_law_next" [.int p] = .ok (false, .int (nextI p)) := by
  rw [cN H.l__law_next]
  have h1 := Int.emod_nonneg (p * 48271 + 11) (b := 2147483647) (by decide)
  have h2 := Int.emod_lt_of_pos (p * 48271 + 11) (b := 2147483647) (by decide)
  have m : Hf.MulOk ((p * 48271 + 11) % 2147483647) ((p * 48271 + 11) % 2147483647) := .inl (by omega)
  have m2 : Hf.MulOk p 48271 := .inl ⟨by decide, by decide⟩
  simp [runD, argsD, entE, exs, ex, evT, ev, evs, evo, evc, evi, bor, getO, getF, sndR, intR, Res.bind, onR, Fl.seq, fz, usT, us, ub, uss, uso, usc, usi, isiD, okB, D.tru, negD, cmpD, opD, idxD, slcD, biD, okF, endR, setE, bindT, itemsD, tb_fn, tb_gl, tb_ar, tb_ki, tb_sub, tb_hot, f__law_next, c__law_next, m, m2, nextI]
theorem v_lvalue (c : Int) : ∃ v : Val, v.isV = true ∧ ∀ n, callN pg (n + 1) "_law_value" [.int c] = .ok (false, v.d) := by
  have z := sz 14
  have z0 := sz 0
  have z1 := sz 1
  have z2 := sz 2
  have z3 := sz 3
  have l16 := lg 16
  have l9 := lg 9
  by_cases h14 : c % 16 = 14
  · refine ⟨.int (c / 16 % 1999999999999999999 - 1000000000000000000 + 1), ?_, fun n => ?_⟩
    · have := Int.emod_nonneg (c / 16) (b := 1999999999999999999) (by decide)
      have := Int.emod_lt_of_pos (c / 16) (b := 1999999999999999999) (by decide)
      have : (Val.int (c / 16 % 1999999999999999999 - 1000000000000000000 + 1)).wt = 1 := by simp [Val.wt]
      simp only [Val.isV, Val.ok, this, Bool.and_eq_true, decide_eq_true_eq]
      omega
    · rw [cN H.l__law_value]
      simp [runD, argsD, entE, exs, ex, evT, ev, evs, evo, evc, evi, bor, getO, getF, sndR, intR, Res.bind, onR, Fl.seq, fz, usT, us, ub, uss, uso, usc, usi, isiD, okB, D.tru, negD, cmpD, opD, idxD, slcD, biD, okF, endR, setE, bindT, itemsD, tb_fn, tb_gl, tb_ar, tb_ki, tb_sub, tb_hot, f__law_value, c__law_value, z, z0, z1, z2, z3, l16, eqI, h14, Hf.MulOk, Val.d]
  by_cases h15 : c % 16 = 15
  · obtain ⟨m, hm⟩ : ∃ m : Nat, c / 16 % 9 = m := ⟨(c / 16 % 9).toNat, by omega⟩
    have hm9 : m < 9 := by omega
    refine ⟨.tup (((List.range m).map fun (k : Nat) => c / 16 % ((k : Int) + 2)).map Val.int), isV_ints (fun x hx => ?_) (by simp; omega), fun n => ?_⟩
    · obtain ⟨k, hk, rfl⟩ := List.mem_map.mp hx
      have := List.mem_range.mp hk
      have := Int.emod_nonneg (c / 16) (b := (k : Int) + 2) (by omega)
      have := Int.emod_lt_of_pos (c / 16) (b := (k : Int) + 2) (by omega)
      omega
    · rw [cN H.l__law_value]
      have r := rng0 m (by omega)
      have hz : m ≤ sizeLine := by rw [sizeLine_eq]; omega
      simp [runD, argsD, entE, exs, ex, evT, ev, evs, evo, evc, evi, bor, getO, getF, sndR, intR, Res.bind, onR, Fl.seq, fz, usT, us, ub, uss, uso, usc, usi, isiD, okB, D.tru, negD, cmpD, opD, idxD, slcD, biD, okF, endR, setE, bindT, itemsD, tb_fn, tb_gl, tb_ar, tb_ki, tb_sub, tb_hot, f__law_value, c__law_value, z, z0, z1, z2, z3, l16, eqI, h14, h15, Hf.MulOk, Val.d, hm, r, hz]
      rw [compL_map (g := fun d => match d with | .int k => .int (c / 16 % (k + 2)) | d => d)]
      · simp only [dsI]
        simp [runD, argsD, entE, exs, ex, evT, ev, evs, evo, evc, evi, bor, getO, getF, sndR, intR, Res.bind, onR, Fl.seq, fz, usT, us, ub, uss, uso, usc, usi, isiD, okB, D.tru, negD, cmpD, opD, idxD, slcD, biD, okF, endR, setE, bindT, itemsD, tb_fn, tb_gl, tb_ar, tb_ki, tb_sub, tb_hot]
        rw [ds_map, List.map_map]
        exact List.map_congr_left fun _ _ => rfl
      · intro d hd
        obtain ⟨k, hk, rfl⟩ := List.mem_map.mp hd
        have : (0 : Int) < (k : Int) + 2 := by omega
        simp [runD, argsD, entE, exs, ex, evT, ev, evs, evo, evc, evi, bor, getO, getF, sndR, intR, Res.bind, onR, Fl.seq, fz, usT, us, ub, uss, uso, usc, usi, isiD, okB, D.tru, negD, cmpD, opD, idxD, slcD, biD, okF, endR, setE, bindT, itemsD, tb_fn, tb_gl, tb_ar, tb_ki, tb_sub, tb_hot, wipeE, noX, l16, this]
  · obtain ⟨k, hk⟩ : ∃ k : Nat, c % 16 = k := ⟨(c % 16).toNat, by omega⟩
    have hk2 : k < vSome.length := by show k < 14; omega
    refine ⟨vSome[k], vSome_ok _ (List.getElem_mem _), fun n => ?_⟩
    rw [cN H.l__law_value]
    have e := atI_ds hk2
    rw [← hk] at e
    simp only [vSome, Val.ds, Val.d] at e
    simp [runD, argsD, entE, exs, ex, evT, ev, evs, evo, evc, evi, bor, getO, getF, sndR, intR, Res.bind, onR, Fl.seq, fz, usT, us, ub, uss, uso, usc, usi, isiD, okB, D.tru, negD, cmpD, opD, idxD, slcD, biD, okF, endR, setE, bindT, itemsD, tb_fn, tb_gl, tb_ar, tb_ki, tb_sub, tb_hot, f__law_value, c__law_value, z, z0, z1, z2, z3, l16, eqI, h14, h15]
    rw [e]
    simp only [vSome]
end

end Kv

namespace Kv
open PySem PySem.Spec PyProof.Rows L2 Hf
set_option autoImplicit false
def six : List Str := ["NoNumber", "NoList", "NoFirst", "NoDown", "ByNought", "TooGreat"]
theorem six_fit {v : Val} {w : Str} (h : fit v = .no w) : w ∈ six := by
  unfold fit at h
  split at h
  · cases h
  · cases h; decide +kernel
theorem six_no {x w : Str} (h : An.no x = .no w) (hx : x ∈ six) : w ∈ six := by cases h; exact hx
theorem An_ne {v : Val} {w : Str} {P : Prop} (h : An.ok v = .no w) : P := by cases h
theorem six_of {o : Op} {vs : List Val} (ht : o.takes vs.length = true) {w : Str} (h : o.do vs = .no w) : w ∈ six := by
  have s1 : ("NoNumber" : Str) ∈ six := by decide +kernel
  have s2 : ("NoList" : Str) ∈ six := by decide +kernel
  have s3 : ("NoFirst" : Str) ∈ six := by decide +kernel
  have s4 : ("NoDown" : Str) ∈ six := by decide +kernel
  have s5 : ("ByNought" : Str) ∈ six := by decide +kernel
  cases o with
  | plus => obtain ⟨a, b, rfl⟩ := pair_of (by simpa [Op.takes] using ht); cases a <;> cases b <;> first | exact six_fit h | exact six_no h s1
  | minus => obtain ⟨a, b, rfl⟩ := pair_of (by simpa [Op.takes] using ht); cases a <;> cases b <;> first | exact six_fit h | exact six_no h s1
  | times => obtain ⟨a, b, rfl⟩ := pair_of (by simpa [Op.takes] using ht); cases a <;> cases b <;> first | exact six_fit h | exact six_no h s1
  | less => obtain ⟨a, b, rfl⟩ := pair_of (by simpa [Op.takes] using ht); cases a <;> cases b <;> first | exact An_ne h | exact six_no h s1
  | over =>
    obtain ⟨a, b, rfl⟩ := pair_of (by simpa [Op.takes] using ht)
    cases a with
    | tup _ => cases b <;> exact six_no h s1
    | int i =>
      cases b with
      | tup _ => exact six_no h s1
      | int j =>
        simp only [Op.do] at h
        split at h
        · exact six_no h s5
        · exact six_fit h
  | down =>
    obtain ⟨a, rfl⟩ := one_of (by simpa [Op.takes] using ht)
    cases a with
    | tup _ => exact six_no h s1
    | int i =>
      simp only [Op.do] at h
      split at h
      · exact six_no h s4
      · exact An_ne h
  | first =>
    obtain ⟨a, rfl⟩ := one_of (by simpa [Op.takes] using ht)
    cases a with
    | int _ => exact six_no h s2
    | tup xs => cases xs <;> first | exact six_no h s3 | exact An_ne h
  | rest =>
    obtain ⟨a, rfl⟩ := one_of (by simpa [Op.takes] using ht)
    cases a with
    | int _ => exact six_no h s2
    | tup xs => cases xs <;> first | exact six_no h s3 | exact An_ne h
  | empty =>
    obtain ⟨a, rfl⟩ := one_of (by simpa [Op.takes] using ht)
    cases a <;> first | exact six_no h s2 | exact An_ne h
  | same => obtain ⟨a, b, rfl⟩ := pair_of (by simpa [Op.takes] using ht); exact An_ne h
  | join => obtain ⟨a, b, rfl⟩ := pair_of (by simpa [Op.takes] using ht); cases b <;> first | exact six_fit h | exact six_no h s2
  | list => exact six_fit h
/-- a value told is a value -/
theorem do_isV {o : Op} {vs : List Val} (hv : ∀ v ∈ vs, v.isV = true) (ht : o.takes vs.length = true) {v : Val} (h : o.do vs = .ok v) : v.isV = true := by
  have ff : ∀ u, fit u = .ok v → v.isV = true := fun u h => by
    unfold fit at h
    split at h
    · cases h; assumption
    · cases h
  have nn : ∀ w, An.no w = .ok v → v.isV = true := fun w h => by cases h
  have bb : ∀ (c : Prop) [Decidable c], An.ok (.int (if c then 1 else 0)) = .ok v → v.isV = true := fun c _ h => by
    cases h
    split <;> decide
  cases o with
  | plus => obtain ⟨a, b, rfl⟩ := pair_of (by simpa [Op.takes] using ht); cases a <;> cases b <;> first | exact ff _ h | exact nn _ h
  | minus => obtain ⟨a, b, rfl⟩ := pair_of (by simpa [Op.takes] using ht); cases a <;> cases b <;> first | exact ff _ h | exact nn _ h
  | times => obtain ⟨a, b, rfl⟩ := pair_of (by simpa [Op.takes] using ht); cases a <;> cases b <;> first | exact ff _ h | exact nn _ h
  | less => obtain ⟨a, b, rfl⟩ := pair_of (by simpa [Op.takes] using ht); cases a <;> cases b <;> first | exact bb _ h | exact nn _ h
  | over =>
    obtain ⟨a, b, rfl⟩ := pair_of (by simpa [Op.takes] using ht)
    cases a with
    | tup _ => cases b <;> exact nn _ h
    | int i =>
      cases b with
      | tup _ => exact nn _ h
      | int j =>
        simp only [Op.do] at h
        split at h
        · exact nn _ h
        · exact ff _ h
  | down =>
    obtain ⟨a, rfl⟩ := one_of (by simpa [Op.takes] using ht)
    cases a with
    | tup _ => exact nn _ h
    | int i =>
      simp only [Op.do] at h
      split at h
      · exact nn _ h
      · cases h
        have hi := isV_ok (hv _ (by simp) : (Val.int i).isV = true)
        simp [Val.isV, Val.ok, Val.wt] at hi ⊢
        omega
  | first =>
    obtain ⟨a, rfl⟩ := one_of (by simpa [Op.takes] using ht)
    cases a with
    | int _ => exact nn _ h
    | tup xs =>
      cases xs with
      | nil => exact nn _ h
      | cons x r => cases h; exact (isV_tail (hv (.tup (_ :: r)) (by simp))).1
  | rest =>
    obtain ⟨a, rfl⟩ := one_of (by simpa [Op.takes] using ht)
    cases a with
    | int _ => exact nn _ h
    | tup xs =>
      cases xs with
      | nil => exact nn _ h
      | cons x r => cases h; exact (isV_tail (hv (.tup (x :: r)) (by simp))).2
  | empty =>
    obtain ⟨a, rfl⟩ := one_of (by simpa [Op.takes] using ht)
    cases a <;> first | exact nn _ h | exact bb _ h
  | same => obtain ⟨a, b, rfl⟩ := pair_of (by simpa [Op.takes] using ht); exact bb _ h
  | join => obtain ⟨a, b, rfl⟩ := pair_of (by simpa [Op.takes] using ht); cases b <;> first | exact ff _ h | exact nn _ h
  | list => exact ff _ h
def opL : List Op := [.plus, .minus, .times, .over, .less, .same, .join, .first, .rest, .empty, .down, .list]
def opD12 : List D := opL.map fun o => D.str o.s
theorem op_at (c : Int) : ∃ o : Op, atI opD12 (c % 12) = some (.str o.s) := by
  obtain ⟨k, hk⟩ : ∃ k : Nat, c % 12 = k := ⟨(c % 12).toNat, by omega⟩
  have hk2 : k < opD12.length := by show k < 12; omega
  rw [hk, atI_nat hk2]
  exact ⟨opL[k]'hk2, by simp only [opD12, List.getElem_map]; rfl⟩

end Kv

namespace K02
open PySem PySem.Spec PyProof.Rows L2 Hf
set_option autoImplicit false
def wf : Nat := 1000000
def c_is_number : Sts :=
    (.cons (.ifs (.or (.val (.isi (.var 0) .bool)) (.not (.val (.isi (.var 0) .int)))) (.cons (.ret (.lit (.bl false)))
    .nil) .nil)
    (.cons (.ret (.chn .Lt .Lt (.neg (.gl "BOUND")) (.var 0) (.gl "BOUND")))
    .nil))
def f_is_number : Df := ⟨["thing"], 1, c_is_number, false⟩
def c_is_value : Sts :=
    (.cons (.set 1 (.lst (.cons (.var 0) .nil)))
    (.cons (.set 2 (.lit (.int 0)))
    (.cons (.whl (.and (.val (.var 1)) (.val (.cmp .LtE (.var 2) (.gl "MOST_WEIGHT")))) (.cons (.pop (.one 3) 1)
    (.cons (.aug 2 .Add (.lit (.int 1)))
    (.cons (.ifs (.val (.isi (.var 3) .tuple)) (.cons (.ext 1 (.var 3))
    .nil) (.cons (.ifs (.not (.val (.call "is_number" (.cons (.var 3) .nil)))) (.cons (.ret (.lit (.bl false)))
    .nil) .nil)
    .nil))
    .nil))))
    (.cons (.ret (.cmp .LtE (.var 2) (.gl "MOST_WEIGHT")))
    .nil))))
def f_is_value : Df := ⟨["thing", "waiting", "weighed", "part"], 1, c_is_value, false⟩
def c_need_number : Sts :=
    (.cons (.ifs (.val (.isi (.var 0) .tuple)) (.cons (.raise "NoNumber")
    .nil) .nil)
    .nil)
def f_need_number : Df := ⟨["value"], 1, c_need_number, false⟩
def c_need_numbers : Sts :=
    (.cons (.expr (.call "need_number" (.cons (.var 0) .nil)))
    (.cons (.expr (.call "need_number" (.cons (.var 1) .nil)))
    .nil))
def f_need_numbers : Df := ⟨["one", "other"], 2, c_need_numbers, false⟩
def c_need_list : Sts :=
    (.cons (.ifs (.not (.val (.isi (.var 0) .tuple))) (.cons (.raise "NoList")
    .nil) .nil)
    .nil)
def f_need_list : Df := ⟨["value"], 1, c_need_list, false⟩
def c_need_parts : Sts :=
    (.cons (.expr (.call "need_list" (.cons (.var 0) .nil)))
    (.cons (.ifs (.not (.val (.var 0))) (.cons (.raise "NoFirst")
    .nil) .nil)
    .nil))
def f_need_parts : Df := ⟨["value"], 1, c_need_parts, false⟩
def c_plus : Sts :=
    (.cons (.expr (.call "need_numbers" (.cons (.var 0) (.cons (.var 1) .nil))))
    (.cons (.ret (.bin .Add (.var 0) (.var 1)))
    .nil))
def f_plus : Df := ⟨["one", "other"], 2, c_plus, false⟩
def c_minus : Sts :=
    (.cons (.expr (.call "need_numbers" (.cons (.var 0) (.cons (.var 1) .nil))))
    (.cons (.ret (.bin .Sub (.var 0) (.var 1)))
    .nil))
def f_minus : Df := ⟨["one", "other"], 2, c_minus, false⟩
def c_times : Sts :=
    (.cons (.expr (.call "need_numbers" (.cons (.var 0) (.cons (.var 1) .nil))))
    (.cons (.ret (.bin .Mult (.var 0) (.var 1)))
    .nil))
def f_times : Df := ⟨["one", "other"], 2, c_times, false⟩
def c_over : Sts :=
    (.cons (.expr (.call "need_numbers" (.cons (.var 0) (.cons (.var 1) .nil))))
    (.cons (.ifs (.val (.cmp .Eq (.var 1) (.lit (.int 0)))) (.cons (.raise "ByNought")
    .nil) .nil)
    (.cons (.ret (.bin .FloorDiv (.var 0) (.var 1)))
    .nil)))
def f_over : Df := ⟨["one", "other"], 2, c_over, false⟩
def c_less : Sts :=
    (.cons (.expr (.call "need_numbers" (.cons (.var 0) (.cons (.var 1) .nil))))
    (.cons (.ret (.ite (.val (.cmp .Lt (.var 0) (.var 1))) (.lit (.int 1)) (.lit (.int 0))))
    .nil))
def f_less : Df := ⟨["one", "other"], 2, c_less, false⟩
def c_down : Sts :=
    (.cons (.expr (.call "need_number" (.cons (.var 0) .nil)))
    (.cons (.ifs (.val (.cmp .LtE (.var 0) (.lit (.int 0)))) (.cons (.raise "NoDown")
    .nil) .nil)
    (.cons (.ret (.bin .Sub (.var 0) (.lit (.int 1))))
    .nil)))
def f_down : Df := ⟨["number"], 1, c_down, false⟩
def c_first : Sts :=
    (.cons (.expr (.call "need_parts" (.cons (.var 0) .nil)))
    (.cons (.ret (.idx (.var 0) (.lit (.int 0))))
    .nil))
def f_first : Df := ⟨["parts"], 1, c_first, false⟩
def c_rest : Sts :=
    (.cons (.expr (.call "need_parts" (.cons (.var 0) .nil)))
    (.cons (.ret (.slc (.var 0) (.some (.lit (.int 1))) .none))
    .nil))
def f_rest : Df := ⟨["parts"], 1, c_rest, false⟩
def c_empty : Sts :=
    (.cons (.expr (.call "need_list" (.cons (.var 0) .nil)))
    (.cons (.ret (.ite (.val (.var 0)) (.lit (.int 0)) (.lit (.int 1))))
    .nil))
def f_empty : Df := ⟨["parts"], 1, c_empty, false⟩
def c_same : Sts :=
    (.cons (.ret (.ite (.val (.cmp .Eq (.var 0) (.var 1))) (.lit (.int 1)) (.lit (.int 0))))
    .nil)
def f_same : Df := ⟨["one", "other"], 2, c_same, false⟩
def c_joined : Sts :=
    (.cons (.expr (.call "need_list" (.cons (.var 1) .nil)))
    (.cons (.ret (.tup (.cons (.var 0) (.star (.var 1) .nil))))
    .nil))
def f_joined : Df := ⟨["value", "parts"], 2, c_joined, false⟩
def c_listed : Sts :=
    (.cons (.ret (.var 0))
    .nil)
def f_listed : Df := ⟨["parts"], 0, c_listed, true⟩
def c_done : Sts :=
    (.cons (.set 2 (.idx (.gl "ACTIONS") (.var 0)))
    (.cons (.set 3 (.star 2 (.var 1)))
    (.cons (.ifs (.not (.val (.call "is_value" (.cons (.var 3) .nil)))) (.cons (.raise "TooGreat")
    .nil) .nil)
    (.cons (.ret (.var 3))
    .nil))))
def f_done : Df := ⟨["operation", "values", "action", "told"], 2, c_done, false⟩
def c__law_cell_at : Sts :=
    (.cons (.ifs (.val (.cmp .Lt (.var 1) (.bi .len (.var 0)))) (.cons (.ret (.idx (.var 0) (.var 1)))
    .nil) .nil)
    (.cons (.ret (.lit (.int 0)))
    .nil))
def f__law_cell_at : Df := ⟨["_law_script", "_law_k"], 2, c__law_cell_at, false⟩
def c__law_next : Sts :=
    (.cons (.set 1 (.bin .Mod (.bin .Add (.bin .Mult (.var 0) (.lit (.int 48271))) (.lit (.int 11))) (.lit (.int 2147483647))))
    (.cons (.ret (.bin .Mod (.bin .Mult (.var 1) (.var 1)) (.lit (.int 2147483629))))
    .nil))
def f__law_next : Df := ⟨["_law_pick", "_law_more"], 1, c__law_next, false⟩
def c__law_value : Sts :=
    (.cons (.set 1 (.lst (.cons (.lit (.int 0)) (.cons (.lit (.int 1)) (.cons (.lit (.int 2)) (.cons (.lit (.int 3)) (.cons (.lit (.int 5)) (.cons (.neg (.lit (.int 1))) (.cons (.neg (.lit (.int 4))) (.cons (.tup .nil) (.cons (.tup (.cons (.lit (.int 1)) .nil)) (.cons (.tup (.cons (.lit (.int 2)) (.cons (.lit (.int 0)) .nil))) (.cons (.tup (.cons (.lit (.int 1)) (.cons (.lit (.int 2)) (.cons (.lit (.int 3)) .nil)))) (.cons (.tup (.cons (.tup .nil) (.cons (.lit (.int 1)) .nil))) (.cons (.tup (.cons (.tup (.cons (.lit (.int 1)) (.cons (.lit (.int 2)) .nil))) (.cons (.tup (.cons (.lit (.int 3)) .nil)) .nil))) (.cons (.tup (.cons (.lit (.int 4)) (.cons (.tup (.cons (.lit (.int 5)) (.cons (.tup (.cons (.lit (.int 6)) .nil)) .nil))) .nil))) .nil))))))))))))))))
    (.cons (.ifs (.val (.cmp .Eq (.bin .Mod (.var 0) (.lit (.int 16))) (.lit (.int 14)))) (.cons (.ret (.bin .Add (.bin .Sub (.bin .Mod (.bin .FloorDiv (.var 0) (.lit (.int 16))) (.bin .Sub (.bin .Mult (.lit (.int 2)) (.bin .Pow (.lit (.int 10)) (.lit (.int 18)))) (.lit (.int 1)))) (.bin .Pow (.lit (.int 10)) (.lit (.int 18)))) (.lit (.int 1))))
    .nil) .nil)
    (.cons (.ifs (.val (.cmp .Eq (.bin .Mod (.var 0) (.lit (.int 16))) (.lit (.int 15)))) (.cons (.ret (.bi .tuple (.comp (.one 2) [2] (.rng1 (.bin .Mod (.bin .FloorDiv (.var 0) (.lit (.int 16))) (.lit (.int 9)))) .nil (.bin .Mod (.bin .FloorDiv (.var 0) (.lit (.int 16))) (.bin .Add (.var 2) (.lit (.int 2)))))))
    .nil) .nil)
    (.cons (.ret (.idx (.var 1) (.bin .Mod (.var 0) (.lit (.int 16)))))
    .nil))))
def f__law_value : Df := ⟨["_law_pick", "_law_some", "_law_k"], 1, c__law_value, false⟩
def c__law_same : Sts :=
    (.cons (.ifs (.val (.isi (.var 1) .tuple)) (.cons (.ifs (.or (.not (.val (.isi (.var 0) .tuple))) (.val (.cmp .NotEq (.bi .len (.var 0)) (.bi .len (.var 1))))) (.cons (.ret (.lit (.bl false)))
    .nil) .nil)
    (.cons (.for_ (.one 2) (.rng1 (.bi .len (.var 1))) (.cons (.ifs (.not (.val (.call "_law_same" (.cons (.idx (.var 0) (.var 2)) (.cons (.idx (.var 1) (.var 2)) .nil))))) (.cons (.ret (.lit (.bl false)))
    .nil) .nil)
    .nil))
    (.cons (.ret (.lit (.bl true)))
    .nil))) .nil)
    (.cons (.ifs (.val (.isi (.var 1) .str)) (.cons (.ret (.and (.isi (.var 0) .str) (.cmp .Eq (.var 0) (.var 1))))
    .nil) .nil)
    (.cons (.ret (.and (.isi (.var 0) .int) (.and (.not (.isi (.var 0) .bool)) (.cmp .Eq (.var 0) (.var 1)))))
    .nil)))
def f__law_same : Df := ⟨["_law_found", "_law_due", "_law_k"], 2, c__law_same, false⟩
def c__law_weight : Sts :=
    (.cons (.ifs (.val (.isi (.var 0) .tuple)) (.cons (.ret (.bin .Add (.lit (.int 1)) (.bi .sum (.comp (.one 1) [1] (.seq (.var 0)) .nil (.call "_law_weight" (.cons (.var 1) .nil))))))
    .nil) .nil)
    (.cons (.ret (.lit (.int 1)))
    .nil))
def f__law_weight : Df := ⟨["_law_value_here", "_law_one"], 1, c__law_weight, false⟩
def c__law_fit : Sts :=
    (.cons (.ifs (.val (.isi (.var 0) .tuple)) (.cons (.ret (.tup (.cons (.cmp .LtE (.call "_law_weight" (.cons (.var 0) .nil)) (.lit (.int 50))) (.cons (.idx (.lst (.cons (.var 0) (.cons (.lit (.str "TooGreat")) .nil))) (.bi .int (.cmp .Gt (.call "_law_weight" (.cons (.var 0) .nil)) (.lit (.int 50))))) .nil))))
    .nil) .nil)
    (.cons (.ret (.tup (.cons (.cmp .Lt (.bi .abs (.var 0)) (.bin .Pow (.lit (.int 10)) (.lit (.int 18)))) (.cons (.idx (.lst (.cons (.var 0) (.cons (.lit (.str "TooGreat")) .nil))) (.bi .int (.cmp .GtE (.bi .abs (.var 0)) (.bin .Pow (.lit (.int 10)) (.lit (.int 18)))))) .nil))))
    .nil))
def f__law_fit : Df := ⟨["_law_value_here"], 1, c__law_fit, false⟩
def c__law_counted : Sts :=
    (.cons (.ifs (.or (.val (.isi (.var 1) .tuple)) (.val (.isi (.var 2) .tuple))) (.cons (.ret (.tup (.cons (.lit (.bl false)) (.cons (.lit (.str "NoNumber")) .nil))))
    .nil) .nil)
    (.cons (.ifs (.val (.cmp .Eq (.var 0) (.lit (.str "over")))) (.cons (.ifs (.val (.cmp .Eq (.var 2) (.lit (.int 0)))) (.cons (.ret (.tup (.cons (.lit (.bl false)) (.cons (.lit (.str "ByNought")) .nil))))
    .nil) .nil)
    (.cons (.ret (.call "_law_fit" (.cons (.bin .FloorDiv (.var 1) (.var 2)) .nil)))
    .nil)) .nil)
    (.cons (.ifs (.val (.cmp .Eq (.var 0) (.lit (.str "less")))) (.cons (.ret (.tup (.cons (.lit (.bl true)) (.cons (.bi .int (.cmp .Lt (.var 1) (.var 2))) .nil))))
    .nil) .nil)
    (.cons (.ret (.call "_law_fit" (.cons (.idx (.dict ["plus", "minus", "times"] (.cons (.bin .Add (.var 1) (.var 2)) (.cons (.bin .Sub (.var 1) (.var 2)) (.cons (.bin .Mult (.var 1) (.var 2)) .nil)))) (.var 0)) .nil)))
    .nil))))
def f__law_counted : Df := ⟨["_law_operation", "_law_one", "_law_other"], 3, c__law_counted, false⟩
def c__law_taken : Sts :=
    (.cons (.ifs (.val (.cmp .Eq (.var 0) (.lit (.str "down")))) (.cons (.ifs (.val (.isi (.var 1) .tuple)) (.cons (.ret (.tup (.cons (.lit (.bl false)) (.cons (.lit (.str "NoNumber")) .nil))))
    .nil) .nil)
    (.cons (.ret (.tup (.cons (.cmp .Gt (.var 1) (.lit (.int 0))) (.cons (.idx (.lst (.cons (.bin .Sub (.var 1) (.lit (.int 1))) (.cons (.lit (.str "NoDown")) .nil))) (.bi .int (.cmp .LtE (.var 1) (.lit (.int 0))))) .nil))))
    .nil)) .nil)
    (.cons (.ifs (.not (.val (.isi (.var 1) .tuple))) (.cons (.ret (.tup (.cons (.lit (.bl false)) (.cons (.lit (.str "NoList")) .nil))))
    .nil) .nil)
    (.cons (.ifs (.val (.cmp .Eq (.var 0) (.lit (.str "empty")))) (.cons (.ret (.tup (.cons (.lit (.bl true)) (.cons (.bi .int (.cmp .Eq (.bi .len (.var 1)) (.lit (.int 0)))) .nil))))
    .nil) .nil)
    (.cons (.ifs (.val (.cmp .Eq (.bi .len (.var 1)) (.lit (.int 0)))) (.cons (.ret (.tup (.cons (.lit (.bl false)) (.cons (.lit (.str "NoFirst")) .nil))))
    .nil) .nil)
    (.cons (.ifs (.val (.cmp .Eq (.var 0) (.lit (.str "first")))) (.cons (.ret (.tup (.cons (.lit (.bl true)) (.cons (.idx (.var 1) (.lit (.int 0))) .nil))))
    .nil) .nil)
    (.cons (.ret (.tup (.cons (.lit (.bl true)) (.cons (.slc (.var 1) (.some (.lit (.int 1))) .none) .nil))))
    .nil))))))
def f__law_taken : Df := ⟨["_law_operation", "_law_value_here"], 2, c__law_taken, false⟩
def c__law_done : Sts :=
    (.cons (.ifs (.val (.cmp .Eq (.var 0) (.lit (.str "list")))) (.cons (.ret (.call "_law_fit" (.cons (.bi .tuple (.var 1)) .nil)))
    .nil) .nil)
    (.cons (.ifs (.val (.cmp .Eq (.var 0) (.lit (.str "same")))) (.cons (.ret (.tup (.cons (.lit (.bl true)) (.cons (.bi .int (.cmp .Eq (.idx (.var 1) (.lit (.int 0))) (.idx (.var 1) (.lit (.int 1))))) .nil))))
    .nil) .nil)
    (.cons (.ifs (.val (.cmp .In (.var 0) (.tup (.cons (.lit (.str "first")) (.cons (.lit (.str "rest")) (.cons (.lit (.str "empty")) (.cons (.lit (.str "down")) .nil))))))) (.cons (.ret (.call "_law_taken" (.cons (.var 0) (.cons (.idx (.var 1) (.lit (.int 0))) .nil))))
    .nil) .nil)
    (.cons (.ifs (.val (.cmp .NotEq (.var 0) (.lit (.str "join")))) (.cons (.ret (.call "_law_counted" (.cons (.var 0) (.cons (.idx (.var 1) (.lit (.int 0))) (.cons (.idx (.var 1) (.lit (.int 1))) .nil)))))
    .nil) .nil)
    (.cons (.ifs (.not (.val (.isi (.idx (.var 1) (.lit (.int 1))) .tuple))) (.cons (.ret (.tup (.cons (.lit (.bl false)) (.cons (.lit (.str "NoList")) .nil))))
    .nil) .nil)
    (.cons (.ret (.call "_law_fit" (.cons (.bin .Add (.tup (.cons (.idx (.var 1) (.lit (.int 0))) .nil)) (.idx (.var 1) (.lit (.int 1)))) .nil)))
    .nil))))))
def f__law_done : Df := ⟨["_law_operation", "_law_values"], 2, c__law_done, false⟩
def c__law_word : Sts :=
    (.cons (.set 1 (.bin .Add (.bin .Mult (.lst (.cons (.lit (.str "NoNumber")) .nil)) (.bi .int (.isx 0 ["NoNumber"] false))) (.bin .Mult (.lst (.cons (.lit (.str "NoList")) .nil)) (.bi .int (.isx 0 ["NoList"] false)))))
    (.cons (.set 1 (.bin .Add (.bin .Add (.var 1) (.bin .Mult (.lst (.cons (.lit (.str "NoFirst")) .nil)) (.bi .int (.isx 0 ["NoFirst"] false)))) (.bin .Mult (.lst (.cons (.lit (.str "NoDown")) .nil)) (.bi .int (.isx 0 ["NoDown"] false)))))
    (.cons (.set 1 (.bin .Add (.bin .Add (.var 1) (.bin .Mult (.lst (.cons (.lit (.str "ByNought")) .nil)) (.bi .int (.isx 0 ["ByNought"] false)))) (.bin .Mult (.lst (.cons (.lit (.str "TooGreat")) .nil)) (.bi .int (.isx 0 ["TooGreat"] false)))))
    (.cons (.set 1 (.bin .Add (.var 1) (.bin .Mult (.lst (.cons (.lit (.str "other")) .nil)) (.bi .int (.isx 0 ["TooLong", "NotKept", "NoText"] true)))))
    (.cons (.ifs (.or (.val (.cmp .NotEq (.bi .len (.var 1)) (.lit (.int 1)))) (.not (.val (.isx 0 ["ValueError"] false)))) (.cons (.ret (.lit (.str "other")))
    .nil) .nil)
    (.cons (.ret (.idx (.var 1) (.lit (.int 0))))
    .nil))))))
def f__law_word : Df := ⟨["_law_e", "_law_words"], 1, c__law_word, false⟩
def c__law_answer : Sts :=
    (.cons (.tryW (.cons (.ret (.tup (.cons (.lit (.bl true)) (.cons (.call "done" (.cons (.var 0) (.cons (.var 1) .nil))) .nil))))
    .nil) "HalfError" 2 "_law_word")
    .nil)
def f__law_answer : Df := ⟨["_law_operation", "_law_values", "_law_e"], 2, c__law_answer, false⟩
def c__law_given : Sts :=
    (.cons (.set 2 (.call "_law_cell_at" (.cons (.var 0) (.cons (.bin .Add (.lit (.int 2)) (.var 1)) .nil))))
    (.cons (.ifs (.val (.cmp .Eq (.bin .Mod (.call "_law_cell_at" (.cons (.var 0) (.cons (.lit (.int 1)) .nil))) (.lit (.int 4))) (.lit (.int 1)))) (.cons (.ret (.bi .tuple (.bin .Mult (.lst (.cons (.bin .Mod (.bin .FloorDiv (.var 2) (.lit (.int 9))) (.lit (.int 100))) .nil)) (.bin .Add (.lit (.int 40)) (.bin .Mod (.var 2) (.lit (.int 10)))))))
    .nil) .nil)
    (.cons (.ifs (.and (.val (.cmp .Eq (.bin .Mod (.call "_law_cell_at" (.cons (.var 0) (.cons (.lit (.int 1)) .nil))) (.lit (.int 4))) (.lit (.int 3)))) (.val (.cmp .Gt (.bin .Mod (.var 2) (.lit (.int 5))) (.lit (.int 0))))) (.cons (.ret (.bin .Mult (.bin .Sub (.bin .Sub (.bin .Pow (.lit (.int 10)) (.lit (.int 18))) (.lit (.int 1))) (.bin .Mult (.bin .Mod (.bin .FloorDiv (.var 2) (.lit (.int 10))) (.lit (.int 3))) (.bin .Mod (.bin .FloorDiv (.var 2) (.lit (.int 30))) (.lit (.int 5))))) (.idx (.lst (.cons (.lit (.int 1)) (.cons (.neg (.lit (.int 1))) .nil))) (.bin .Mod (.bin .FloorDiv (.var 2) (.lit (.int 5))) (.lit (.int 2))))))
    .nil) .nil)
    (.cons (.ifs (.and (.val (.cmp .Eq (.bin .Mod (.call "_law_cell_at" (.cons (.var 0) (.cons (.lit (.int 1)) .nil))) (.lit (.int 4))) (.lit (.int 2)))) (.val (.cmp .Gt (.bin .Mod (.var 2) (.lit (.int 3))) (.lit (.int 0))))) (.cons (.ret (.bin .Mult (.bin .Sub (.bin .Add (.bin .Pow (.lit (.int 10)) (.lit (.int 9))) (.bin .Mod (.bin .FloorDiv (.var 2) (.lit (.int 6))) (.lit (.int 5)))) (.lit (.int 2))) (.idx (.lst (.cons (.lit (.int 1)) (.cons (.neg (.lit (.int 1))) .nil))) (.bin .Mod (.bin .FloorDiv (.var 2) (.lit (.int 3))) (.lit (.int 2))))))
    .nil) .nil)
    (.cons (.ret (.call "_law_value" (.cons (.var 2) .nil)))
    .nil)))))
def f__law_given : Df := ⟨["_law_script", "_law_k", "_law_cell"], 2, c__law_given, false⟩
def c__law_ends_good : Sts :=
    (.cons (.set 0 (.bin .Sub (.bin .Pow (.lit (.int 10)) (.lit (.int 18))) (.lit (.int 1))))
    (.cons (.set 1 (.lst (.cons (.tup (.cons (.lit (.str "plus")) (.cons (.lst (.cons (.var 0) (.cons (.lit (.int 1)) .nil))) .nil))) (.cons (.tup (.cons (.lit (.str "plus")) (.cons (.lst (.cons (.bin .Sub (.lit (.int 0)) (.var 0)) (.cons (.neg (.lit (.int 1))) .nil))) .nil))) (.cons (.tup (.cons (.lit (.str "minus")) (.cons (.lst (.cons (.bin .Sub (.lit (.int 0)) (.var 0)) (.cons (.lit (.int 1)) .nil))) .nil))) (.cons (.tup (.cons (.lit (.str "minus")) (.cons (.lst (.cons (.lit (.int 0)) (.cons (.var 0) .nil))) .nil))) .nil))))))
    (.cons (.set 1 (.bin .Add (.var 1) (.lst (.cons (.tup (.cons (.lit (.str "times")) (.cons (.lst (.cons (.bin .Pow (.lit (.int 10)) (.lit (.int 9))) (.cons (.bin .Pow (.lit (.int 10)) (.lit (.int 9))) .nil))) .nil))) (.cons (.tup (.cons (.lit (.str "times")) (.cons (.lst (.cons (.bin .Pow (.lit (.int 10)) (.lit (.int 9))) (.cons (.bin .Sub (.bin .Pow (.lit (.int 10)) (.lit (.int 9))) (.lit (.int 1))) .nil))) .nil))) .nil)))))
    (.cons (.set 1 (.bin .Add (.var 1) (.lst (.cons (.tup (.cons (.lit (.str "over")) (.cons (.lst (.cons (.neg (.lit (.int 7))) (.cons (.lit (.int 2)) .nil))) .nil))) (.cons (.tup (.cons (.lit (.str "over")) (.cons (.lst (.cons (.lit (.int 0)) (.cons (.lit (.int 0)) .nil))) .nil))) .nil)))))
    (.cons (.set 1 (.bin .Add (.var 1) (.lst (.cons (.tup (.cons (.lit (.str "over")) (.cons (.lst (.cons (.tup .nil) (.cons (.lit (.int 0)) .nil))) .nil))) (.cons (.tup (.cons (.lit (.str "less")) (.cons (.lst (.cons (.lit (.int 3)) (.cons (.lit (.int 3)) .nil))) .nil))) (.cons (.tup (.cons (.lit (.str "down")) (.cons (.lst (.cons (.lit (.int 0)) .nil)) .nil))) (.cons (.tup (.cons (.lit (.str "down")) (.cons (.lst (.cons (.lit (.int 1)) .nil)) .nil))) (.cons (.tup (.cons (.lit (.str "join")) (.cons (.lst (.cons (.lit (.int 1)) (.cons (.bin .Mult (.tup (.cons (.lit (.int 0)) .nil)) (.lit (.int 48))) .nil))) .nil))) .nil))))))))
    (.cons (.set 1 (.bin .Add (.var 1) (.lst (.cons (.tup (.cons (.lit (.str "join")) (.cons (.lst (.cons (.lit (.int 1)) (.cons (.bin .Mult (.tup (.cons (.lit (.int 0)) .nil)) (.lit (.int 49))) .nil))) .nil))) (.cons (.tup (.cons (.lit (.str "list")) (.cons (.lst (.cons (.bin .Mult (.tup (.cons (.lit (.int 0)) .nil)) (.lit (.int 24))) (.cons (.bin .Mult (.tup (.cons (.lit (.int 0)) .nil)) (.lit (.int 24))) .nil))) .nil))) (.cons (.tup (.cons (.lit (.str "first")) (.cons (.lst (.cons (.tup .nil) .nil)) .nil))) (.cons (.tup (.cons (.lit (.str "rest")) (.cons (.lst (.cons (.tup (.cons (.lit (.int 1)) .nil)) .nil)) .nil))) .nil)))))))
    (.cons (.for_ (.tup [2, 3]) (.seq (.var 1)) (.cons (.set 4 (.call "_law_answer" (.cons (.var 2) (.cons (.var 3) .nil))))
    (.cons (.set 5 (.call "_law_done" (.cons (.var 2) (.cons (.var 3) .nil))))
    (.cons (.ifs (.or (.val (.cmp .NotEq (.idx (.var 4) (.lit (.int 0))) (.idx (.var 5) (.lit (.int 0))))) (.not (.val (.call "_law_same" (.cons (.idx (.var 4) (.lit (.int 1))) (.cons (.idx (.var 5) (.lit (.int 1))) .nil)))))) (.cons (.ret (.lit (.bl false)))
    .nil) .nil)
    .nil))))
    (.cons (.ret (.lit (.bl true)))
    .nil))))))))
def f__law_ends_good : Df := ⟨["_law_most", "_law_some", "_law_operation", "_law_values", "_law_found", "_law_due"], 0, c__law_ends_good, false⟩
def c_law : Sts :=
    (.cons (.set 1 (.lst (.cons (.lit (.str "plus")) (.cons (.lit (.str "minus")) (.cons (.lit (.str "times")) (.cons (.lit (.str "over")) (.cons (.lit (.str "less")) (.cons (.lit (.str "same")) (.cons (.lit (.str "join")) (.cons (.lit (.str "first")) (.cons (.lit (.str "rest")) (.cons (.lit (.str "empty")) (.cons (.lit (.str "down")) (.cons (.lit (.str "list")) .nil))))))))))))))
    (.cons (.set 1 (.idx (.var 1) (.bin .Mod (.call "_law_cell_at" (.cons (.var 0) (.cons (.lit (.int 0)) .nil))) (.lit (.int 12)))))
    (.cons (.set 2 (.lit (.int 2)))
    (.cons (.ifs (.val (.cmp .In (.var 1) (.tup (.cons (.lit (.str "first")) (.cons (.lit (.str "rest")) (.cons (.lit (.str "empty")) (.cons (.lit (.str "down")) .nil))))))) (.cons (.set 2 (.lit (.int 1)))
    .nil) .nil)
    (.cons (.ifs (.val (.cmp .Eq (.var 1) (.lit (.str "list")))) (.cons (.set 2 (.bin .Mod (.bin .FloorDiv (.call "_law_cell_at" (.cons (.var 0) (.cons (.lit (.int 0)) .nil))) (.lit (.int 12))) (.lit (.int 9))))
    .nil) .nil)
    (.cons (.set 3 (.comp (.one 8) [8] (.rng1 (.var 2)) .nil (.call "_law_given" (.cons (.var 0) (.cons (.var 8) .nil)))))
    (.cons (.set 4 (.call "_law_done" (.cons (.var 1) (.cons (.var 3) .nil))))
    (.cons (.for_ (.one 5) (.rng1 (.lit (.int 2))) (.cons (.set 6 (.bi .list (.var 3)))
    (.cons (.set 7 (.call "_law_answer" (.cons (.var 1) (.cons (.var 6) .nil))))
    (.cons (.ifs (.or (.val (.cmp .NotEq (.idx (.var 7) (.lit (.int 0))) (.idx (.var 4) (.lit (.int 0))))) (.or (.not (.val (.call "_law_same" (.cons (.idx (.var 7) (.lit (.int 1))) (.cons (.idx (.var 4) (.lit (.int 1))) .nil))))) (.val (.cmp .NotEq (.var 6) (.var 3))))) (.cons (.ret (.lit (.bl false)))
    .nil) .nil)
    (.cons (.ifs (.val (.cmp .NotEq (.call "_law_answer" (.cons (.lit (.str "join")) (.cons (.lst (.cons (.lit (.int 1)) (.cons (.tup .nil) .nil))) .nil))) (.tup (.cons (.lit (.bl true)) (.cons (.tup (.cons (.lit (.int 1)) .nil)) .nil))))) (.cons (.ret (.lit (.bl false)))
    .nil) .nil)
    .nil)))))
    (.cons (.ret (.call "_law_ends_good" .nil))
    .nil)))))))))
def f_law : Df := ⟨["_law_script", "_law_word_here", "_law_many", "_law_values", "_law_due", "_law_turn", "_law_handed", "_law_found", "_law_k"], 1, c_law, false⟩
def fs : Dfs := [(("is_number" : Str), f_is_number), (("is_value" : Str), f_is_value), (("need_number" : Str), f_need_number), (("need_numbers" : Str), f_need_numbers), (("need_list" : Str), f_need_list), (("need_parts" : Str), f_need_parts), (("plus" : Str), f_plus), (("minus" : Str), f_minus), (("times" : Str), f_times), (("over" : Str), f_over), (("less" : Str), f_less), (("down" : Str), f_down), (("first" : Str), f_first), (("rest" : Str), f_rest), (("empty" : Str), f_empty), (("same" : Str), f_same), (("joined" : Str), f_joined), (("listed" : Str), f_listed), (("done" : Str), f_done), (("_law_cell_at" : Str), f__law_cell_at), (("_law_next" : Str), f__law_next), (("_law_value" : Str), f__law_value), (("_law_same" : Str), f__law_same), (("_law_weight" : Str), f__law_weight), (("_law_fit" : Str), f__law_fit), (("_law_counted" : Str), f__law_counted), (("_law_taken" : Str), f__law_taken), (("_law_done" : Str), f__law_done), (("_law_word" : Str), f__law_word), (("_law_answer" : Str), f__law_answer), (("_law_given" : Str), f__law_given), (("_law_ends_good" : Str), f__law_ends_good), (("law" : Str), f_law)]
-- top: 14 is_number, 15 is_value, 17 need_number, 18 need_numbers, 19 need_list, 20 need_parts, 21 plus, 22 minus, 23 times, 24 over, 25 less, 26 down, 27 first, 28 rest, 29 empty, 30 same, 31 joined, 32 listed, 34 done, 36 _law_cell_at, 37 _law_next, 38 _law_value, 39 _law_same, 40 _law_weight, 41 _law_fit, 42 _law_counted, 43 _law_taken, 44 _law_done, 45 _law_word, 46 _law_answer, 47 _law_given, 48 _law_ends_good, 49 law

def top (i : Nat) : Stmt := PySem.Challenge.pw_halfrun_k02_operations.main.body.getD i (.Pass ⟨0, 0, 0, 0⟩)
def hd : Hd where
  consts := [("BOUND", (.int (1000000000000000000))), ("MOST_WEIGHT", (.int (50)))]
  tabs := [("ACTIONS", ["plus", "minus", "times", "over", "less", "down", "first", "rest", "empty", "same", "join", "list"], [.fn "plus", .fn "minus", .fn "times", .fn "over", .fn "less", .fn "down", .fn "first", .fn "rest", .fn "empty", .fn "same", .fn "joined", .fn "listed"])]
  cls := ["HalfError", "NoNumber", "NoList", "NoFirst", "NoDown", "ByNought", "TooGreat", "TooLong", "NotKept", "NoText"]
  es := ["HalfError", "NoNumber", "NoList", "NoFirst", "NoDown", "ByNought", "TooGreat"]
  kiT := [((("NoNumber" : Str), ("ValueError" : Str)), true), ((("NoNumber" : Str), ("NoNumber" : Str)), true), ((("NoNumber" : Str), ("NoList" : Str)), false), ((("NoNumber" : Str), ("NoDown" : Str)), false), ((("NoNumber" : Str), ("TooGreat" : Str)), false), ((("NoNumber" : Str), ("TooLong" : Str)), false), ((("NoNumber" : Str), ("NotKept" : Str)), false), ((("NoNumber" : Str), ("NoText" : Str)), false), ((("NoNumber" : Str), ("NoFirst" : Str)), false), ((("NoNumber" : Str), ("ByNought" : Str)), false), ((("NoList" : Str), ("ValueError" : Str)), true), ((("NoList" : Str), ("NoNumber" : Str)), false), ((("NoList" : Str), ("NoList" : Str)), true), ((("NoList" : Str), ("NoDown" : Str)), false), ((("NoList" : Str), ("TooGreat" : Str)), false), ((("NoList" : Str), ("TooLong" : Str)), false), ((("NoList" : Str), ("NotKept" : Str)), false), ((("NoList" : Str), ("NoText" : Str)), false), ((("NoList" : Str), ("NoFirst" : Str)), false), ((("NoList" : Str), ("ByNought" : Str)), false), ((("NoFirst" : Str), ("ValueError" : Str)), true), ((("NoFirst" : Str), ("NoNumber" : Str)), false), ((("NoFirst" : Str), ("NoList" : Str)), false), ((("NoFirst" : Str), ("NoDown" : Str)), false), ((("NoFirst" : Str), ("TooGreat" : Str)), false), ((("NoFirst" : Str), ("TooLong" : Str)), false), ((("NoFirst" : Str), ("NotKept" : Str)), false), ((("NoFirst" : Str), ("NoText" : Str)), false), ((("NoFirst" : Str), ("NoFirst" : Str)), true), ((("NoFirst" : Str), ("ByNought" : Str)), false), ((("NoDown" : Str), ("ValueError" : Str)), true), ((("NoDown" : Str), ("NoNumber" : Str)), false), ((("NoDown" : Str), ("NoList" : Str)), false), ((("NoDown" : Str), ("NoDown" : Str)), true), ((("NoDown" : Str), ("TooGreat" : Str)), false), ((("NoDown" : Str), ("TooLong" : Str)), false), ((("NoDown" : Str), ("NotKept" : Str)), false), ((("NoDown" : Str), ("NoText" : Str)), false), ((("NoDown" : Str), ("NoFirst" : Str)), false), ((("NoDown" : Str), ("ByNought" : Str)), false), ((("ByNought" : Str), ("ValueError" : Str)), true), ((("ByNought" : Str), ("NoNumber" : Str)), false), ((("ByNought" : Str), ("NoList" : Str)), false), ((("ByNought" : Str), ("NoDown" : Str)), false), ((("ByNought" : Str), ("TooGreat" : Str)), false), ((("ByNought" : Str), ("TooLong" : Str)), false), ((("ByNought" : Str), ("NotKept" : Str)), false), ((("ByNought" : Str), ("NoText" : Str)), false), ((("ByNought" : Str), ("NoFirst" : Str)), false), ((("ByNought" : Str), ("ByNought" : Str)), true), ((("TooGreat" : Str), ("ValueError" : Str)), true), ((("TooGreat" : Str), ("NoNumber" : Str)), false), ((("TooGreat" : Str), ("NoList" : Str)), false), ((("TooGreat" : Str), ("NoDown" : Str)), false), ((("TooGreat" : Str), ("TooGreat" : Str)), true), ((("TooGreat" : Str), ("TooLong" : Str)), false), ((("TooGreat" : Str), ("NotKept" : Str)), false), ((("TooGreat" : Str), ("NoText" : Str)), false), ((("TooGreat" : Str), ("NoFirst" : Str)), false), ((("TooGreat" : Str), ("ByNought" : Str)), false)]
  sbT := [((("NoNumber" : Str), ("HalfError" : Str)), true), ((("NoList" : Str), ("HalfError" : Str)), true), ((("NoFirst" : Str), ("HalfError" : Str)), true), ((("NoDown" : Str), ("HalfError" : Str)), true), ((("ByNought" : Str), ("HalfError" : Str)), true), ((("TooGreat" : Str), ("HalfError" : Str)), true)]
  hs := ["_law_word"]
def mo : Mo := hd.mo
def pg : Pg := ⟨wf, fs, mo⟩
theorem cc_is_number : cSs (cS 60 ⟨f_is_number.N, defScope (top 14), true, arity fs, mo, false⟩) (defBody (top 14)) = some f_is_number.code := by kernel_rfl
theorem sc_is_number : FnScope f_is_number.N ["thing"] (defScope (top 14)) := ⟨rfl, rfl, rfl, by decide +kernel, rfl, by decide +kernel, by decide +kernel⟩
def d_is_number : He.DefD := ⟨("is_number", none), "is_number", "is_number", defArgs (top 14), defBody (top 14), defScope (top 14), [], []⟩
theorem cc_is_value : cSs (cS 60 ⟨f_is_value.N, defScope (top 15), true, arity fs, mo, false⟩) (defBody (top 15)) = some f_is_value.code := by kernel_rfl
theorem sc_is_value : FnScope f_is_value.N ["thing"] (defScope (top 15)) := ⟨rfl, rfl, rfl, by decide +kernel, rfl, by decide +kernel, by decide +kernel⟩
def d_is_value : He.DefD := ⟨("is_value", none), "is_value", "is_value", defArgs (top 15), defBody (top 15), defScope (top 15), [], []⟩
theorem cc_need_number : cSs (cS 60 ⟨f_need_number.N, defScope (top 17), true, arity fs, mo, false⟩) (defBody (top 17)) = some f_need_number.code := by kernel_rfl
theorem sc_need_number : FnScope f_need_number.N ["value"] (defScope (top 17)) := ⟨rfl, rfl, rfl, by decide +kernel, rfl, by decide +kernel, by decide +kernel⟩
def d_need_number : He.DefD := ⟨("need_number", none), "need_number", "need_number", defArgs (top 17), defBody (top 17), defScope (top 17), [], []⟩
theorem cc_need_numbers : cSs (cS 60 ⟨f_need_numbers.N, defScope (top 18), true, arity fs, mo, false⟩) (defBody (top 18)) = some f_need_numbers.code := by kernel_rfl
theorem sc_need_numbers : FnScope f_need_numbers.N ["one", "other"] (defScope (top 18)) := ⟨rfl, rfl, rfl, by decide +kernel, rfl, by decide +kernel, by decide +kernel⟩
def d_need_numbers : He.DefD := ⟨("need_numbers", none), "need_numbers", "need_numbers", defArgs (top 18), defBody (top 18), defScope (top 18), [], []⟩
theorem cc_need_list : cSs (cS 60 ⟨f_need_list.N, defScope (top 19), true, arity fs, mo, false⟩) (defBody (top 19)) = some f_need_list.code := by kernel_rfl
theorem sc_need_list : FnScope f_need_list.N ["value"] (defScope (top 19)) := ⟨rfl, rfl, rfl, by decide +kernel, rfl, by decide +kernel, by decide +kernel⟩
def d_need_list : He.DefD := ⟨("need_list", none), "need_list", "need_list", defArgs (top 19), defBody (top 19), defScope (top 19), [], []⟩
theorem cc_need_parts : cSs (cS 60 ⟨f_need_parts.N, defScope (top 20), true, arity fs, mo, false⟩) (defBody (top 20)) = some f_need_parts.code := by kernel_rfl
theorem sc_need_parts : FnScope f_need_parts.N ["value"] (defScope (top 20)) := ⟨rfl, rfl, rfl, by decide +kernel, rfl, by decide +kernel, by decide +kernel⟩
def d_need_parts : He.DefD := ⟨("need_parts", none), "need_parts", "need_parts", defArgs (top 20), defBody (top 20), defScope (top 20), [], []⟩
theorem cc_plus : cSs (cS 60 ⟨f_plus.N, defScope (top 21), true, arity fs, mo, false⟩) (defBody (top 21)) = some f_plus.code := by kernel_rfl
theorem sc_plus : FnScope f_plus.N ["one", "other"] (defScope (top 21)) := ⟨rfl, rfl, rfl, by decide +kernel, rfl, by decide +kernel, by decide +kernel⟩
def d_plus : He.DefD := ⟨("plus", none), "plus", "plus", defArgs (top 21), defBody (top 21), defScope (top 21), [], []⟩
theorem cc_minus : cSs (cS 60 ⟨f_minus.N, defScope (top 22), true, arity fs, mo, false⟩) (defBody (top 22)) = some f_minus.code := by kernel_rfl
theorem sc_minus : FnScope f_minus.N ["one", "other"] (defScope (top 22)) := ⟨rfl, rfl, rfl, by decide +kernel, rfl, by decide +kernel, by decide +kernel⟩
def d_minus : He.DefD := ⟨("minus", none), "minus", "minus", defArgs (top 22), defBody (top 22), defScope (top 22), [], []⟩
theorem cc_times : cSs (cS 60 ⟨f_times.N, defScope (top 23), true, arity fs, mo, false⟩) (defBody (top 23)) = some f_times.code := by kernel_rfl
theorem sc_times : FnScope f_times.N ["one", "other"] (defScope (top 23)) := ⟨rfl, rfl, rfl, by decide +kernel, rfl, by decide +kernel, by decide +kernel⟩
def d_times : He.DefD := ⟨("times", none), "times", "times", defArgs (top 23), defBody (top 23), defScope (top 23), [], []⟩
theorem cc_over : cSs (cS 60 ⟨f_over.N, defScope (top 24), true, arity fs, mo, false⟩) (defBody (top 24)) = some f_over.code := by kernel_rfl
theorem sc_over : FnScope f_over.N ["one", "other"] (defScope (top 24)) := ⟨rfl, rfl, rfl, by decide +kernel, rfl, by decide +kernel, by decide +kernel⟩
def d_over : He.DefD := ⟨("over", none), "over", "over", defArgs (top 24), defBody (top 24), defScope (top 24), [], []⟩
theorem cc_less : cSs (cS 60 ⟨f_less.N, defScope (top 25), true, arity fs, mo, false⟩) (defBody (top 25)) = some f_less.code := by kernel_rfl
theorem sc_less : FnScope f_less.N ["one", "other"] (defScope (top 25)) := ⟨rfl, rfl, rfl, by decide +kernel, rfl, by decide +kernel, by decide +kernel⟩
def d_less : He.DefD := ⟨("less", none), "less", "less", defArgs (top 25), defBody (top 25), defScope (top 25), [], []⟩
theorem cc_down : cSs (cS 60 ⟨f_down.N, defScope (top 26), true, arity fs, mo, false⟩) (defBody (top 26)) = some f_down.code := by kernel_rfl
theorem sc_down : FnScope f_down.N ["number"] (defScope (top 26)) := ⟨rfl, rfl, rfl, by decide +kernel, rfl, by decide +kernel, by decide +kernel⟩
def d_down : He.DefD := ⟨("down", none), "down", "down", defArgs (top 26), defBody (top 26), defScope (top 26), [], []⟩
theorem cc_first : cSs (cS 60 ⟨f_first.N, defScope (top 27), true, arity fs, mo, false⟩) (defBody (top 27)) = some f_first.code := by kernel_rfl
theorem sc_first : FnScope f_first.N ["parts"] (defScope (top 27)) := ⟨rfl, rfl, rfl, by decide +kernel, rfl, by decide +kernel, by decide +kernel⟩
def d_first : He.DefD := ⟨("first", none), "first", "first", defArgs (top 27), defBody (top 27), defScope (top 27), [], []⟩
theorem cc_rest : cSs (cS 60 ⟨f_rest.N, defScope (top 28), true, arity fs, mo, false⟩) (defBody (top 28)) = some f_rest.code := by kernel_rfl
theorem sc_rest : FnScope f_rest.N ["parts"] (defScope (top 28)) := ⟨rfl, rfl, rfl, by decide +kernel, rfl, by decide +kernel, by decide +kernel⟩
def d_rest : He.DefD := ⟨("rest", none), "rest", "rest", defArgs (top 28), defBody (top 28), defScope (top 28), [], []⟩
theorem cc_empty : cSs (cS 60 ⟨f_empty.N, defScope (top 29), true, arity fs, mo, false⟩) (defBody (top 29)) = some f_empty.code := by kernel_rfl
theorem sc_empty : FnScope f_empty.N ["parts"] (defScope (top 29)) := ⟨rfl, rfl, rfl, by decide +kernel, rfl, by decide +kernel, by decide +kernel⟩
def d_empty : He.DefD := ⟨("empty", none), "empty", "empty", defArgs (top 29), defBody (top 29), defScope (top 29), [], []⟩
theorem cc_same : cSs (cS 60 ⟨f_same.N, defScope (top 30), true, arity fs, mo, false⟩) (defBody (top 30)) = some f_same.code := by kernel_rfl
theorem sc_same : FnScope f_same.N ["one", "other"] (defScope (top 30)) := ⟨rfl, rfl, rfl, by decide +kernel, rfl, by decide +kernel, by decide +kernel⟩
def d_same : He.DefD := ⟨("same", none), "same", "same", defArgs (top 30), defBody (top 30), defScope (top 30), [], []⟩
theorem cc_joined : cSs (cS 60 ⟨f_joined.N, defScope (top 31), true, arity fs, mo, false⟩) (defBody (top 31)) = some f_joined.code := by kernel_rfl
theorem sc_joined : FnScope f_joined.N ["value", "parts"] (defScope (top 31)) := ⟨rfl, rfl, rfl, by decide +kernel, rfl, by decide +kernel, by decide +kernel⟩
def d_joined : He.DefD := ⟨("joined", none), "joined", "joined", defArgs (top 31), defBody (top 31), defScope (top 31), [], []⟩
theorem cc_listed : cSs (cS 60 ⟨f_listed.N, defScope (top 32), true, arity fs, mo, false⟩) (defBody (top 32)) = some f_listed.code := by kernel_rfl
theorem sc_listed : FnScope f_listed.N ["parts"] (defScope (top 32)) := ⟨rfl, rfl, rfl, by decide +kernel, rfl, by decide +kernel, by decide +kernel⟩
def d_listed : He.DefD := ⟨("listed", none), "listed", "listed", defArgs (top 32), defBody (top 32), defScope (top 32), [], []⟩
theorem cc_done : cSs (cS 60 ⟨f_done.N, defScope (top 34), true, arity fs, mo, false⟩) (defBody (top 34)) = some f_done.code := by kernel_rfl
theorem sc_done : FnScope f_done.N ["operation", "values"] (defScope (top 34)) := ⟨rfl, rfl, rfl, by decide +kernel, rfl, by decide +kernel, by decide +kernel⟩
def d_done : He.DefD := ⟨("done", none), "done", "done", defArgs (top 34), defBody (top 34), defScope (top 34), [], []⟩
theorem cc__law_cell_at : cSs (cS 60 ⟨f__law_cell_at.N, defScope (top 36), true, arity fs, mo, false⟩) (defBody (top 36)) = some f__law_cell_at.code := by kernel_rfl
theorem sc__law_cell_at : FnScope f__law_cell_at.N ["_law_script", "_law_k"] (defScope (top 36)) := ⟨rfl, rfl, rfl, by decide +kernel, rfl, by decide +kernel, by decide +kernel⟩
def d__law_cell_at : He.DefD := ⟨("_law_cell_at", none), "_law_cell_at", "_law_cell_at", defArgs (top 36), defBody (top 36), defScope (top 36), [], []⟩
theorem cc__law_next : cSs (cS 60 ⟨f__law_next.N, defScope (top 37), true, arity fs, mo, false⟩) (defBody (top 37)) = some f__law_next.code := by kernel_rfl
theorem sc__law_next : FnScope f__law_next.N ["_law_pick"] (defScope (top 37)) := ⟨rfl, rfl, rfl, by decide +kernel, rfl, by decide +kernel, by decide +kernel⟩
def d__law_next : He.DefD := ⟨("_law_next", none), "_law_next", "_law_next", defArgs (top 37), defBody (top 37), defScope (top 37), [], []⟩
theorem cc__law_value : cSs (cS 60 ⟨f__law_value.N, defScope (top 38), true, arity fs, mo, false⟩) (defBody (top 38)) = some f__law_value.code := by kernel_rfl
theorem sc__law_value : FnScope f__law_value.N ["_law_pick"] (defScope (top 38)) := ⟨rfl, rfl, rfl, by decide +kernel, rfl, by decide +kernel, by decide +kernel⟩
def d__law_value : He.DefD := ⟨("_law_value", none), "_law_value", "_law_value", defArgs (top 38), defBody (top 38), defScope (top 38), [], []⟩
theorem cc__law_same : cSs (cS 60 ⟨f__law_same.N, defScope (top 39), true, arity fs, mo, false⟩) (defBody (top 39)) = some f__law_same.code := by kernel_rfl
theorem sc__law_same : FnScope f__law_same.N ["_law_found", "_law_due"] (defScope (top 39)) := ⟨rfl, rfl, rfl, by decide +kernel, rfl, by decide +kernel, by decide +kernel⟩
def d__law_same : He.DefD := ⟨("_law_same", none), "_law_same", "_law_same", defArgs (top 39), defBody (top 39), defScope (top 39), [], []⟩
theorem cc__law_weight : cSs (cS 60 ⟨f__law_weight.N, defScope (top 40), true, arity fs, mo, false⟩) (defBody (top 40)) = some f__law_weight.code := by kernel_rfl
theorem sc__law_weight : FnScope f__law_weight.N ["_law_value_here"] (defScope (top 40)) := ⟨rfl, rfl, rfl, by decide +kernel, rfl, by decide +kernel, by decide +kernel⟩
def d__law_weight : He.DefD := ⟨("_law_weight", none), "_law_weight", "_law_weight", defArgs (top 40), defBody (top 40), defScope (top 40), [], []⟩
theorem cc__law_fit : cSs (cS 60 ⟨f__law_fit.N, defScope (top 41), true, arity fs, mo, false⟩) (defBody (top 41)) = some f__law_fit.code := by kernel_rfl
theorem sc__law_fit : FnScope f__law_fit.N ["_law_value_here"] (defScope (top 41)) := ⟨rfl, rfl, rfl, by decide +kernel, rfl, by decide +kernel, by decide +kernel⟩
def d__law_fit : He.DefD := ⟨("_law_fit", none), "_law_fit", "_law_fit", defArgs (top 41), defBody (top 41), defScope (top 41), [], []⟩
theorem cc__law_counted : cSs (cS 60 ⟨f__law_counted.N, defScope (top 42), true, arity fs, mo, false⟩) (defBody (top 42)) = some f__law_counted.code := by kernel_rfl
theorem sc__law_counted : FnScope f__law_counted.N ["_law_operation", "_law_one", "_law_other"] (defScope (top 42)) := ⟨rfl, rfl, rfl, by decide +kernel, rfl, by decide +kernel, by decide +kernel⟩
def d__law_counted : He.DefD := ⟨("_law_counted", none), "_law_counted", "_law_counted", defArgs (top 42), defBody (top 42), defScope (top 42), [], []⟩
theorem cc__law_taken : cSs (cS 60 ⟨f__law_taken.N, defScope (top 43), true, arity fs, mo, false⟩) (defBody (top 43)) = some f__law_taken.code := by kernel_rfl
theorem sc__law_taken : FnScope f__law_taken.N ["_law_operation", "_law_value_here"] (defScope (top 43)) := ⟨rfl, rfl, rfl, by decide +kernel, rfl, by decide +kernel, by decide +kernel⟩
def d__law_taken : He.DefD := ⟨("_law_taken", none), "_law_taken", "_law_taken", defArgs (top 43), defBody (top 43), defScope (top 43), [], []⟩
theorem cc__law_done : cSs (cS 60 ⟨f__law_done.N, defScope (top 44), true, arity fs, mo, false⟩) (defBody (top 44)) = some f__law_done.code := by kernel_rfl
theorem sc__law_done : FnScope f__law_done.N ["_law_operation", "_law_values"] (defScope (top 44)) := ⟨rfl, rfl, rfl, by decide +kernel, rfl, by decide +kernel, by decide +kernel⟩
def d__law_done : He.DefD := ⟨("_law_done", none), "_law_done", "_law_done", defArgs (top 44), defBody (top 44), defScope (top 44), [], []⟩
theorem cc__law_word : cSs (cS 60 ⟨f__law_word.N, defScope (top 45), true, arity fs, mo, false⟩) (defBody (top 45)) = some f__law_word.code := by kernel_rfl
theorem sc__law_word : FnScope f__law_word.N ["_law_e"] (defScope (top 45)) := ⟨rfl, rfl, rfl, by decide +kernel, rfl, by decide +kernel, by decide +kernel⟩
def d__law_word : He.DefD := ⟨("_law_word", none), "_law_word", "_law_word", defArgs (top 45), defBody (top 45), defScope (top 45), [], []⟩
theorem ch__law_word : cSs (cS 60 ⟨f__law_word.N, defScope (top 45), true, [], mo, true⟩) (defBody (top 45)) = some f__law_word.code := by kernel_rfl
theorem cc__law_answer : cSs (cS 60 ⟨f__law_answer.N, defScope (top 46), true, arity fs, mo, false⟩) (defBody (top 46)) = some f__law_answer.code := by kernel_rfl
theorem sc__law_answer : FnScope f__law_answer.N ["_law_operation", "_law_values"] (defScope (top 46)) := ⟨rfl, rfl, rfl, by decide +kernel, rfl, by decide +kernel, by decide +kernel⟩
def d__law_answer : He.DefD := ⟨("_law_answer", none), "_law_answer", "_law_answer", defArgs (top 46), defBody (top 46), defScope (top 46), [], []⟩
theorem cc__law_given : cSs (cS 60 ⟨f__law_given.N, defScope (top 47), true, arity fs, mo, false⟩) (defBody (top 47)) = some f__law_given.code := by kernel_rfl
theorem sc__law_given : FnScope f__law_given.N ["_law_script", "_law_k"] (defScope (top 47)) := ⟨rfl, rfl, rfl, by decide +kernel, rfl, by decide +kernel, by decide +kernel⟩
def d__law_given : He.DefD := ⟨("_law_given", none), "_law_given", "_law_given", defArgs (top 47), defBody (top 47), defScope (top 47), [], []⟩
theorem cc__law_ends_good : cSs (cS 60 ⟨f__law_ends_good.N, defScope (top 48), true, arity fs, mo, false⟩) (defBody (top 48)) = some f__law_ends_good.code := by kernel_rfl
theorem sc__law_ends_good : FnScope f__law_ends_good.N [] (defScope (top 48)) := ⟨rfl, rfl, rfl, by decide +kernel, rfl, by decide +kernel, by decide +kernel⟩
def d__law_ends_good : He.DefD := ⟨("_law_ends_good", none), "_law_ends_good", "_law_ends_good", defArgs (top 48), defBody (top 48), defScope (top 48), [], []⟩
theorem cc_law : cSs (cS 60 ⟨f_law.N, defScope (top 49), true, arity fs, mo, false⟩) (defBody (top 49)) = some f_law.code := by kernel_rfl
theorem sc_law : FnScope f_law.N ["_law_script"] (defScope (top 49)) := ⟨rfl, rfl, rfl, by decide +kernel, rfl, by decide +kernel, by decide +kernel⟩
def d_law : He.DefD := ⟨("law", none), "law", "law", defArgs (top 49), defBody (top 49), defScope (top 49), [], []⟩
def fn : List He.DefD := [d_is_number, d_is_value, d_need_number, d_need_numbers, d_need_list, d_need_parts, d_plus, d_minus, d_times, d_over, d_less, d_down, d_first, d_rest, d_empty, d_same, d_joined, d_listed, d_done, d__law_cell_at, d__law_next, d__law_value, d__law_same, d__law_weight, d__law_fit, d__law_counted, d__law_taken, d__law_done, d__law_word, d__law_answer, d__law_given, d__law_ends_good, d_law]
def fa : List He.Fa := (fs.map fun p => .glo p.1) ++ hd.fa
def ts : List He.Tab := hd.tabs.map fun t => ((fun K => He.ga K t.1), t.2.1)
abbrev R : PySem.W.OpenRow := PySem.W.OpenLaw.row PySem.Challenge.rw_halfrun_k02_operations
abbrev hk : PySem.W.Hook := He.hookX 4 fa fn ts [] hd.ex
def ob (s : PySem.W.SharedT) : He.AlX := He.obsX 4 fa fn ts [] hd.ex (HandSHeadRun.getT s)
theorem ob_eq (s : PySem.W.SharedT) : ob s = hk.obs s.abs := He.obsX_eq (HandSHeadRun.getT_eq s)
def others : List Str := [("is_number" : Str), ("is_value" : Str), ("need_number" : Str), ("need_numbers" : Str), ("need_list" : Str), ("need_parts" : Str), ("plus" : Str), ("minus" : Str), ("times" : Str), ("over" : Str), ("less" : Str), ("down" : Str), ("first" : Str), ("rest" : Str), ("empty" : Str), ("same" : Str), ("joined" : Str), ("listed" : Str), ("done" : Str), ("_law_cell_at" : Str), ("_law_next" : Str), ("_law_value" : Str), ("_law_same" : Str), ("_law_weight" : Str), ("_law_fit" : Str), ("_law_counted" : Str), ("_law_taken" : Str), ("_law_done" : Str), ("_law_word" : Str), ("_law_answer" : Str), ("_law_given" : Str), ("_law_ends_good" : Str), ("BOUND" : Str), ("MOST_WEIGHT" : Str), ("ACTIONS" : Str), ("HalfError" : Str), ("NoNumber" : Str), ("NoList" : Str), ("NoFirst" : Str), ("NoDown" : Str), ("ByNought" : Str), ("TooGreat" : Str), ("TooLong" : Str), ("NotKept" : Str), ("NoText" : Str)]
theorem run_f (w : World) : HandSHeadRun.RunEq R (PySem.W.view R.prog [49]) hk ob 30000 others (wf1 false w) := by
  intro os
  kernel_rfl
theorem run_t (w : World) : HandSHeadRun.RunEq R (PySem.W.view R.prog [49]) hk ob 30000 others (wf1 true w) := by
  intro os
  kernel_rfl
theorem run (w : World) : HandSHeadRun.RunEq R (PySem.W.view R.prog [49]) hk ob 30000 others w := world_of (M := fun w => HandSHeadRun.RunEq R (PySem.W.view R.prog [49]) hk ob 30000 others w) w fun b => match b with
  | false => run_f w
  | true => run_t w
section
variable {K : PySem.W.Frag} {h : Heap} {mg : Str → Option Value} {w : World}
theorem glo_at (X : K.In h) (G : h.Ns mainGlobals mg) (c : He.SaysX fa fn ts [] hd.ex w h K) {f : Str} {df : Df} (hf : (f, df) ∈ fs) : mg f = some (.ref (He.ga K f)) :=
  He.glo_ok X G (c.t.d.facts (f := .glo f) (List.mem_append_left _ (List.mem_map_of_mem (f := fun p : Str × Df => He.Fa.glo p.1) hf)))
theorem in_is_number : (("is_number" : Str), f_is_number) ∈ fs := List.mem_of_getElem? (i := 0) rfl
theorem at_is_number (X : K.In h) (G : h.Ns mainGlobals mg) (c : He.SaysX fa fn ts [] hd.ex w h K) : AnyAt ⟨K, mg, w, none⟩ pg "is_number" f_is_number := by
  obtain ⟨fd, F⟩ := c.t.d.def_ 0 (d := d_is_number) rfl
  exact ⟨_, _, _, _, _, fd, _, 60, glo_at X G c in_is_number, F, sc_is_number, cc_is_number, fun _ => ⟨rfl, F.bindsN fun _ _ _ _ _ _ us hl => match us, hl with | [_], _ => rfl⟩, fun h => (nomatch h)⟩
theorem in_is_value : (("is_value" : Str), f_is_value) ∈ fs := List.mem_of_getElem? (i := 1) rfl
theorem at_is_value (X : K.In h) (G : h.Ns mainGlobals mg) (c : He.SaysX fa fn ts [] hd.ex w h K) : AnyAt ⟨K, mg, w, none⟩ pg "is_value" f_is_value := by
  obtain ⟨fd, F⟩ := c.t.d.def_ 1 (d := d_is_value) rfl
  exact ⟨_, _, _, _, _, fd, _, 60, glo_at X G c in_is_value, F, sc_is_value, cc_is_value, fun _ => ⟨rfl, F.bindsN fun _ _ _ _ _ _ us hl => match us, hl with | [_], _ => rfl⟩, fun h => (nomatch h)⟩
theorem in_need_number : (("need_number" : Str), f_need_number) ∈ fs := List.mem_of_getElem? (i := 2) rfl
theorem at_need_number (X : K.In h) (G : h.Ns mainGlobals mg) (c : He.SaysX fa fn ts [] hd.ex w h K) : AnyAt ⟨K, mg, w, none⟩ pg "need_number" f_need_number := by
  obtain ⟨fd, F⟩ := c.t.d.def_ 2 (d := d_need_number) rfl
  exact ⟨_, _, _, _, _, fd, _, 60, glo_at X G c in_need_number, F, sc_need_number, cc_need_number, fun _ => ⟨rfl, F.bindsN fun _ _ _ _ _ _ us hl => match us, hl with | [_], _ => rfl⟩, fun h => (nomatch h)⟩
theorem in_need_numbers : (("need_numbers" : Str), f_need_numbers) ∈ fs := List.mem_of_getElem? (i := 3) rfl
theorem at_need_numbers (X : K.In h) (G : h.Ns mainGlobals mg) (c : He.SaysX fa fn ts [] hd.ex w h K) : AnyAt ⟨K, mg, w, none⟩ pg "need_numbers" f_need_numbers := by
  obtain ⟨fd, F⟩ := c.t.d.def_ 3 (d := d_need_numbers) rfl
  exact ⟨_, _, _, _, _, fd, _, 60, glo_at X G c in_need_numbers, F, sc_need_numbers, cc_need_numbers, fun _ => ⟨rfl, F.bindsN fun _ _ _ _ _ _ us hl => match us, hl with | [_, _], _ => rfl⟩, fun h => (nomatch h)⟩
theorem in_need_list : (("need_list" : Str), f_need_list) ∈ fs := List.mem_of_getElem? (i := 4) rfl
theorem at_need_list (X : K.In h) (G : h.Ns mainGlobals mg) (c : He.SaysX fa fn ts [] hd.ex w h K) : AnyAt ⟨K, mg, w, none⟩ pg "need_list" f_need_list := by
  obtain ⟨fd, F⟩ := c.t.d.def_ 4 (d := d_need_list) rfl
  exact ⟨_, _, _, _, _, fd, _, 60, glo_at X G c in_need_list, F, sc_need_list, cc_need_list, fun _ => ⟨rfl, F.bindsN fun _ _ _ _ _ _ us hl => match us, hl with | [_], _ => rfl⟩, fun h => (nomatch h)⟩
theorem in_need_parts : (("need_parts" : Str), f_need_parts) ∈ fs := List.mem_of_getElem? (i := 5) rfl
theorem at_need_parts (X : K.In h) (G : h.Ns mainGlobals mg) (c : He.SaysX fa fn ts [] hd.ex w h K) : AnyAt ⟨K, mg, w, none⟩ pg "need_parts" f_need_parts := by
  obtain ⟨fd, F⟩ := c.t.d.def_ 5 (d := d_need_parts) rfl
  exact ⟨_, _, _, _, _, fd, _, 60, glo_at X G c in_need_parts, F, sc_need_parts, cc_need_parts, fun _ => ⟨rfl, F.bindsN fun _ _ _ _ _ _ us hl => match us, hl with | [_], _ => rfl⟩, fun h => (nomatch h)⟩
theorem in_plus : (("plus" : Str), f_plus) ∈ fs := List.mem_of_getElem? (i := 6) rfl
theorem at_plus (X : K.In h) (G : h.Ns mainGlobals mg) (c : He.SaysX fa fn ts [] hd.ex w h K) : AnyAt ⟨K, mg, w, none⟩ pg "plus" f_plus := by
  obtain ⟨fd, F⟩ := c.t.d.def_ 6 (d := d_plus) rfl
  exact ⟨_, _, _, _, _, fd, _, 60, glo_at X G c in_plus, F, sc_plus, cc_plus, fun _ => ⟨rfl, F.bindsN fun _ _ _ _ _ _ us hl => match us, hl with | [_, _], _ => rfl⟩, fun h => (nomatch h)⟩
theorem in_minus : (("minus" : Str), f_minus) ∈ fs := List.mem_of_getElem? (i := 7) rfl
theorem at_minus (X : K.In h) (G : h.Ns mainGlobals mg) (c : He.SaysX fa fn ts [] hd.ex w h K) : AnyAt ⟨K, mg, w, none⟩ pg "minus" f_minus := by
  obtain ⟨fd, F⟩ := c.t.d.def_ 7 (d := d_minus) rfl
  exact ⟨_, _, _, _, _, fd, _, 60, glo_at X G c in_minus, F, sc_minus, cc_minus, fun _ => ⟨rfl, F.bindsN fun _ _ _ _ _ _ us hl => match us, hl with | [_, _], _ => rfl⟩, fun h => (nomatch h)⟩
theorem in_times : (("times" : Str), f_times) ∈ fs := List.mem_of_getElem? (i := 8) rfl
theorem at_times (X : K.In h) (G : h.Ns mainGlobals mg) (c : He.SaysX fa fn ts [] hd.ex w h K) : AnyAt ⟨K, mg, w, none⟩ pg "times" f_times := by
  obtain ⟨fd, F⟩ := c.t.d.def_ 8 (d := d_times) rfl
  exact ⟨_, _, _, _, _, fd, _, 60, glo_at X G c in_times, F, sc_times, cc_times, fun _ => ⟨rfl, F.bindsN fun _ _ _ _ _ _ us hl => match us, hl with | [_, _], _ => rfl⟩, fun h => (nomatch h)⟩
theorem in_over : (("over" : Str), f_over) ∈ fs := List.mem_of_getElem? (i := 9) rfl
theorem at_over (X : K.In h) (G : h.Ns mainGlobals mg) (c : He.SaysX fa fn ts [] hd.ex w h K) : AnyAt ⟨K, mg, w, none⟩ pg "over" f_over := by
  obtain ⟨fd, F⟩ := c.t.d.def_ 9 (d := d_over) rfl
  exact ⟨_, _, _, _, _, fd, _, 60, glo_at X G c in_over, F, sc_over, cc_over, fun _ => ⟨rfl, F.bindsN fun _ _ _ _ _ _ us hl => match us, hl with | [_, _], _ => rfl⟩, fun h => (nomatch h)⟩
theorem in_less : (("less" : Str), f_less) ∈ fs := List.mem_of_getElem? (i := 10) rfl
theorem at_less (X : K.In h) (G : h.Ns mainGlobals mg) (c : He.SaysX fa fn ts [] hd.ex w h K) : AnyAt ⟨K, mg, w, none⟩ pg "less" f_less := by
  obtain ⟨fd, F⟩ := c.t.d.def_ 10 (d := d_less) rfl
  exact ⟨_, _, _, _, _, fd, _, 60, glo_at X G c in_less, F, sc_less, cc_less, fun _ => ⟨rfl, F.bindsN fun _ _ _ _ _ _ us hl => match us, hl with | [_, _], _ => rfl⟩, fun h => (nomatch h)⟩
theorem in_down : (("down" : Str), f_down) ∈ fs := List.mem_of_getElem? (i := 11) rfl
theorem at_down (X : K.In h) (G : h.Ns mainGlobals mg) (c : He.SaysX fa fn ts [] hd.ex w h K) : AnyAt ⟨K, mg, w, none⟩ pg "down" f_down := by
  obtain ⟨fd, F⟩ := c.t.d.def_ 11 (d := d_down) rfl
  exact ⟨_, _, _, _, _, fd, _, 60, glo_at X G c in_down, F, sc_down, cc_down, fun _ => ⟨rfl, F.bindsN fun _ _ _ _ _ _ us hl => match us, hl with | [_], _ => rfl⟩, fun h => (nomatch h)⟩
theorem in_first : (("first" : Str), f_first) ∈ fs := List.mem_of_getElem? (i := 12) rfl
theorem at_first (X : K.In h) (G : h.Ns mainGlobals mg) (c : He.SaysX fa fn ts [] hd.ex w h K) : AnyAt ⟨K, mg, w, none⟩ pg "first" f_first := by
  obtain ⟨fd, F⟩ := c.t.d.def_ 12 (d := d_first) rfl
  exact ⟨_, _, _, _, _, fd, _, 60, glo_at X G c in_first, F, sc_first, cc_first, fun _ => ⟨rfl, F.bindsN fun _ _ _ _ _ _ us hl => match us, hl with | [_], _ => rfl⟩, fun h => (nomatch h)⟩
theorem in_rest : (("rest" : Str), f_rest) ∈ fs := List.mem_of_getElem? (i := 13) rfl
theorem at_rest (X : K.In h) (G : h.Ns mainGlobals mg) (c : He.SaysX fa fn ts [] hd.ex w h K) : AnyAt ⟨K, mg, w, none⟩ pg "rest" f_rest := by
  obtain ⟨fd, F⟩ := c.t.d.def_ 13 (d := d_rest) rfl
  exact ⟨_, _, _, _, _, fd, _, 60, glo_at X G c in_rest, F, sc_rest, cc_rest, fun _ => ⟨rfl, F.bindsN fun _ _ _ _ _ _ us hl => match us, hl with | [_], _ => rfl⟩, fun h => (nomatch h)⟩
theorem in_empty : (("empty" : Str), f_empty) ∈ fs := List.mem_of_getElem? (i := 14) rfl
theorem at_empty (X : K.In h) (G : h.Ns mainGlobals mg) (c : He.SaysX fa fn ts [] hd.ex w h K) : AnyAt ⟨K, mg, w, none⟩ pg "empty" f_empty := by
  obtain ⟨fd, F⟩ := c.t.d.def_ 14 (d := d_empty) rfl
  exact ⟨_, _, _, _, _, fd, _, 60, glo_at X G c in_empty, F, sc_empty, cc_empty, fun _ => ⟨rfl, F.bindsN fun _ _ _ _ _ _ us hl => match us, hl with | [_], _ => rfl⟩, fun h => (nomatch h)⟩
theorem in_same : (("same" : Str), f_same) ∈ fs := List.mem_of_getElem? (i := 15) rfl
theorem at_same (X : K.In h) (G : h.Ns mainGlobals mg) (c : He.SaysX fa fn ts [] hd.ex w h K) : AnyAt ⟨K, mg, w, none⟩ pg "same" f_same := by
  obtain ⟨fd, F⟩ := c.t.d.def_ 15 (d := d_same) rfl
  exact ⟨_, _, _, _, _, fd, _, 60, glo_at X G c in_same, F, sc_same, cc_same, fun _ => ⟨rfl, F.bindsN fun _ _ _ _ _ _ us hl => match us, hl with | [_, _], _ => rfl⟩, fun h => (nomatch h)⟩
theorem in_joined : (("joined" : Str), f_joined) ∈ fs := List.mem_of_getElem? (i := 16) rfl
theorem at_joined (X : K.In h) (G : h.Ns mainGlobals mg) (c : He.SaysX fa fn ts [] hd.ex w h K) : AnyAt ⟨K, mg, w, none⟩ pg "joined" f_joined := by
  obtain ⟨fd, F⟩ := c.t.d.def_ 16 (d := d_joined) rfl
  exact ⟨_, _, _, _, _, fd, _, 60, glo_at X G c in_joined, F, sc_joined, cc_joined, fun _ => ⟨rfl, F.bindsN fun _ _ _ _ _ _ us hl => match us, hl with | [_, _], _ => rfl⟩, fun h => (nomatch h)⟩
theorem in_listed : (("listed" : Str), f_listed) ∈ fs := List.mem_of_getElem? (i := 17) rfl
theorem at_listed (X : K.In h) (G : h.Ns mainGlobals mg) (c : He.SaysX fa fn ts [] hd.ex w h K) : AnyAt ⟨K, mg, w, none⟩ pg "listed" f_listed := by
  obtain ⟨fd, F⟩ := c.t.d.def_ 17 (d := d_listed) rfl
  refine ⟨_, _, _, _, _, fd, _, 60, glo_at X G c in_listed, F, sc_listed, cc_listed, fun h => (nomatch h), fun _ => ⟨[], "parts", rfl, rfl, fun us rest hl => ?_⟩⟩
  obtain ⟨oc, od, dV, kV, doc, pm, an, cdv, ct, osl, efd, _, _, hD, _⟩ := F.ex
  subst efd
  rcases hD with ⟨_, e⟩ | ⟨e, _⟩
  · subst e
    match us, hl, rest with
    | [], _, [] => rfl
    | [], _, _ :: _ => rfl
  · exact absurd rfl e
theorem in_done : (("done" : Str), f_done) ∈ fs := List.mem_of_getElem? (i := 18) rfl
theorem at_done (X : K.In h) (G : h.Ns mainGlobals mg) (c : He.SaysX fa fn ts [] hd.ex w h K) : AnyAt ⟨K, mg, w, none⟩ pg "done" f_done := by
  obtain ⟨fd, F⟩ := c.t.d.def_ 18 (d := d_done) rfl
  exact ⟨_, _, _, _, _, fd, _, 60, glo_at X G c in_done, F, sc_done, cc_done, fun _ => ⟨rfl, F.bindsN fun _ _ _ _ _ _ us hl => match us, hl with | [_, _], _ => rfl⟩, fun h => (nomatch h)⟩
theorem in__law_cell_at : (("_law_cell_at" : Str), f__law_cell_at) ∈ fs := List.mem_of_getElem? (i := 19) rfl
theorem at__law_cell_at (X : K.In h) (G : h.Ns mainGlobals mg) (c : He.SaysX fa fn ts [] hd.ex w h K) : AnyAt ⟨K, mg, w, none⟩ pg "_law_cell_at" f__law_cell_at := by
  obtain ⟨fd, F⟩ := c.t.d.def_ 19 (d := d__law_cell_at) rfl
  exact ⟨_, _, _, _, _, fd, _, 60, glo_at X G c in__law_cell_at, F, sc__law_cell_at, cc__law_cell_at, fun _ => ⟨rfl, F.bindsN fun _ _ _ _ _ _ us hl => match us, hl with | [_, _], _ => rfl⟩, fun h => (nomatch h)⟩
theorem in__law_next : (("_law_next" : Str), f__law_next) ∈ fs := List.mem_of_getElem? (i := 20) rfl
theorem at__law_next (X : K.In h) (G : h.Ns mainGlobals mg) (c : He.SaysX fa fn ts [] hd.ex w h K) : AnyAt ⟨K, mg, w, none⟩ pg "_law_next" f__law_next := by
  obtain ⟨fd, F⟩ := c.t.d.def_ 20 (d := d__law_next) rfl
  exact ⟨_, _, _, _, _, fd, _, 60, glo_at X G c in__law_next, F, sc__law_next, cc__law_next, fun _ => ⟨rfl, F.bindsN fun _ _ _ _ _ _ us hl => match us, hl with | [_], _ => rfl⟩, fun h => (nomatch h)⟩
theorem in__law_value : (("_law_value" : Str), f__law_value) ∈ fs := List.mem_of_getElem? (i := 21) rfl
theorem at__law_value (X : K.In h) (G : h.Ns mainGlobals mg) (c : He.SaysX fa fn ts [] hd.ex w h K) : AnyAt ⟨K, mg, w, none⟩ pg "_law_value" f__law_value := by
  obtain ⟨fd, F⟩ := c.t.d.def_ 21 (d := d__law_value) rfl
  exact ⟨_, _, _, _, _, fd, _, 60, glo_at X G c in__law_value, F, sc__law_value, cc__law_value, fun _ => ⟨rfl, F.bindsN fun _ _ _ _ _ _ us hl => match us, hl with | [_], _ => rfl⟩, fun h => (nomatch h)⟩
theorem in__law_same : (("_law_same" : Str), f__law_same) ∈ fs := List.mem_of_getElem? (i := 22) rfl
theorem at__law_same (X : K.In h) (G : h.Ns mainGlobals mg) (c : He.SaysX fa fn ts [] hd.ex w h K) : AnyAt ⟨K, mg, w, none⟩ pg "_law_same" f__law_same := by
  obtain ⟨fd, F⟩ := c.t.d.def_ 22 (d := d__law_same) rfl
  exact ⟨_, _, _, _, _, fd, _, 60, glo_at X G c in__law_same, F, sc__law_same, cc__law_same, fun _ => ⟨rfl, F.bindsN fun _ _ _ _ _ _ us hl => match us, hl with | [_, _], _ => rfl⟩, fun h => (nomatch h)⟩
theorem in__law_weight : (("_law_weight" : Str), f__law_weight) ∈ fs := List.mem_of_getElem? (i := 23) rfl
theorem at__law_weight (X : K.In h) (G : h.Ns mainGlobals mg) (c : He.SaysX fa fn ts [] hd.ex w h K) : AnyAt ⟨K, mg, w, none⟩ pg "_law_weight" f__law_weight := by
  obtain ⟨fd, F⟩ := c.t.d.def_ 23 (d := d__law_weight) rfl
  exact ⟨_, _, _, _, _, fd, _, 60, glo_at X G c in__law_weight, F, sc__law_weight, cc__law_weight, fun _ => ⟨rfl, F.bindsN fun _ _ _ _ _ _ us hl => match us, hl with | [_], _ => rfl⟩, fun h => (nomatch h)⟩
theorem in__law_fit : (("_law_fit" : Str), f__law_fit) ∈ fs := List.mem_of_getElem? (i := 24) rfl
theorem at__law_fit (X : K.In h) (G : h.Ns mainGlobals mg) (c : He.SaysX fa fn ts [] hd.ex w h K) : AnyAt ⟨K, mg, w, none⟩ pg "_law_fit" f__law_fit := by
  obtain ⟨fd, F⟩ := c.t.d.def_ 24 (d := d__law_fit) rfl
  exact ⟨_, _, _, _, _, fd, _, 60, glo_at X G c in__law_fit, F, sc__law_fit, cc__law_fit, fun _ => ⟨rfl, F.bindsN fun _ _ _ _ _ _ us hl => match us, hl with | [_], _ => rfl⟩, fun h => (nomatch h)⟩
theorem in__law_counted : (("_law_counted" : Str), f__law_counted) ∈ fs := List.mem_of_getElem? (i := 25) rfl
theorem at__law_counted (X : K.In h) (G : h.Ns mainGlobals mg) (c : He.SaysX fa fn ts [] hd.ex w h K) : AnyAt ⟨K, mg, w, none⟩ pg "_law_counted" f__law_counted := by
  obtain ⟨fd, F⟩ := c.t.d.def_ 25 (d := d__law_counted) rfl
  exact ⟨_, _, _, _, _, fd, _, 60, glo_at X G c in__law_counted, F, sc__law_counted, cc__law_counted, fun _ => ⟨rfl, F.bindsN fun _ _ _ _ _ _ us hl => match us, hl with | [_, _, _], _ => rfl⟩, fun h => (nomatch h)⟩
theorem in__law_taken : (("_law_taken" : Str), f__law_taken) ∈ fs := List.mem_of_getElem? (i := 26) rfl
theorem at__law_taken (X : K.In h) (G : h.Ns mainGlobals mg) (c : He.SaysX fa fn ts [] hd.ex w h K) : AnyAt ⟨K, mg, w, none⟩ pg "_law_taken" f__law_taken := by
  obtain ⟨fd, F⟩ := c.t.d.def_ 26 (d := d__law_taken) rfl
  exact ⟨_, _, _, _, _, fd, _, 60, glo_at X G c in__law_taken, F, sc__law_taken, cc__law_taken, fun _ => ⟨rfl, F.bindsN fun _ _ _ _ _ _ us hl => match us, hl with | [_, _], _ => rfl⟩, fun h => (nomatch h)⟩
theorem in__law_done : (("_law_done" : Str), f__law_done) ∈ fs := List.mem_of_getElem? (i := 27) rfl
theorem at__law_done (X : K.In h) (G : h.Ns mainGlobals mg) (c : He.SaysX fa fn ts [] hd.ex w h K) : AnyAt ⟨K, mg, w, none⟩ pg "_law_done" f__law_done := by
  obtain ⟨fd, F⟩ := c.t.d.def_ 27 (d := d__law_done) rfl
  exact ⟨_, _, _, _, _, fd, _, 60, glo_at X G c in__law_done, F, sc__law_done, cc__law_done, fun _ => ⟨rfl, F.bindsN fun _ _ _ _ _ _ us hl => match us, hl with | [_, _], _ => rfl⟩, fun h => (nomatch h)⟩
theorem in__law_word : (("_law_word" : Str), f__law_word) ∈ fs := List.mem_of_getElem? (i := 28) rfl
theorem at__law_word (X : K.In h) (G : h.Ns mainGlobals mg) (c : He.SaysX fa fn ts [] hd.ex w h K) : AnyAt ⟨K, mg, w, none⟩ pg "_law_word" f__law_word := by
  obtain ⟨fd, F⟩ := c.t.d.def_ 28 (d := d__law_word) rfl
  exact ⟨_, _, _, _, _, fd, _, 60, glo_at X G c in__law_word, F, sc__law_word, cc__law_word, fun _ => ⟨rfl, F.bindsN fun _ _ _ _ _ _ us hl => match us, hl with | [_], _ => rfl⟩, fun h => (nomatch h)⟩
theorem in__law_answer : (("_law_answer" : Str), f__law_answer) ∈ fs := List.mem_of_getElem? (i := 29) rfl
theorem at__law_answer (X : K.In h) (G : h.Ns mainGlobals mg) (c : He.SaysX fa fn ts [] hd.ex w h K) : AnyAt ⟨K, mg, w, none⟩ pg "_law_answer" f__law_answer := by
  obtain ⟨fd, F⟩ := c.t.d.def_ 29 (d := d__law_answer) rfl
  exact ⟨_, _, _, _, _, fd, _, 60, glo_at X G c in__law_answer, F, sc__law_answer, cc__law_answer, fun _ => ⟨rfl, F.bindsN fun _ _ _ _ _ _ us hl => match us, hl with | [_, _], _ => rfl⟩, fun h => (nomatch h)⟩
theorem in__law_given : (("_law_given" : Str), f__law_given) ∈ fs := List.mem_of_getElem? (i := 30) rfl
theorem at__law_given (X : K.In h) (G : h.Ns mainGlobals mg) (c : He.SaysX fa fn ts [] hd.ex w h K) : AnyAt ⟨K, mg, w, none⟩ pg "_law_given" f__law_given := by
  obtain ⟨fd, F⟩ := c.t.d.def_ 30 (d := d__law_given) rfl
  exact ⟨_, _, _, _, _, fd, _, 60, glo_at X G c in__law_given, F, sc__law_given, cc__law_given, fun _ => ⟨rfl, F.bindsN fun _ _ _ _ _ _ us hl => match us, hl with | [_, _], _ => rfl⟩, fun h => (nomatch h)⟩
theorem in__law_ends_good : (("_law_ends_good" : Str), f__law_ends_good) ∈ fs := List.mem_of_getElem? (i := 31) rfl
theorem at__law_ends_good (X : K.In h) (G : h.Ns mainGlobals mg) (c : He.SaysX fa fn ts [] hd.ex w h K) : AnyAt ⟨K, mg, w, none⟩ pg "_law_ends_good" f__law_ends_good := by
  obtain ⟨fd, F⟩ := c.t.d.def_ 31 (d := d__law_ends_good) rfl
  exact ⟨_, _, _, _, _, fd, _, 60, glo_at X G c in__law_ends_good, F, sc__law_ends_good, cc__law_ends_good, fun _ => ⟨rfl, F.bindsN fun _ _ _ _ _ _ us hl => match us, hl with | [], _ => rfl⟩, fun h => (nomatch h)⟩
theorem in_law : (("law" : Str), f_law) ∈ fs := List.mem_of_getElem? (i := 32) rfl
theorem at_law (X : K.In h) (G : h.Ns mainGlobals mg) (c : He.SaysX fa fn ts [] hd.ex w h K) : AnyAt ⟨K, mg, w, none⟩ pg "law" f_law := by
  obtain ⟨fd, F⟩ := c.t.d.def_ 32 (d := d_law) rfl
  exact ⟨_, _, _, _, _, fd, _, 60, glo_at X G c in_law, F, sc_law, cc_law, fun _ => ⟨rfl, F.bindsN fun _ _ _ _ _ _ us hl => match us, hl with | [_], _ => rfl⟩, fun h => (nomatch h)⟩
theorem all_at (X : K.In h) (G : h.Ns mainGlobals mg) (c : He.SaysX fa fn ts [] hd.ex w h K) (f : Str) (df : Df) (hf : pg.fs.lookup f = some df) : AnyAt ⟨K, mg, w, none⟩ pg f df := by
  have m : (f, df) ∈ fs := PySem.mem_of_lookup hf
  simp only [fs, List.mem_cons, List.not_mem_nil, or_false, Prod.mk.injEq] at m
  rcases m with ⟨rfl, rfl⟩ | ⟨rfl, rfl⟩ | ⟨rfl, rfl⟩ | ⟨rfl, rfl⟩ | ⟨rfl, rfl⟩ | ⟨rfl, rfl⟩ | ⟨rfl, rfl⟩ | ⟨rfl, rfl⟩ | ⟨rfl, rfl⟩ | ⟨rfl, rfl⟩ | ⟨rfl, rfl⟩ | ⟨rfl, rfl⟩ | ⟨rfl, rfl⟩ | ⟨rfl, rfl⟩ | ⟨rfl, rfl⟩ | ⟨rfl, rfl⟩ | ⟨rfl, rfl⟩ | ⟨rfl, rfl⟩ | ⟨rfl, rfl⟩ | ⟨rfl, rfl⟩ | ⟨rfl, rfl⟩ | ⟨rfl, rfl⟩ | ⟨rfl, rfl⟩ | ⟨rfl, rfl⟩ | ⟨rfl, rfl⟩ | ⟨rfl, rfl⟩ | ⟨rfl, rfl⟩ | ⟨rfl, rfl⟩ | ⟨rfl, rfl⟩ | ⟨rfl, rfl⟩ | ⟨rfl, rfl⟩ | ⟨rfl, rfl⟩ | ⟨rfl, rfl⟩
  · exact at_is_number X G c
  · exact at_is_value X G c
  · exact at_need_number X G c
  · exact at_need_numbers X G c
  · exact at_need_list X G c
  · exact at_need_parts X G c
  · exact at_plus X G c
  · exact at_minus X G c
  · exact at_times X G c
  · exact at_over X G c
  · exact at_less X G c
  · exact at_down X G c
  · exact at_first X G c
  · exact at_rest X G c
  · exact at_empty X G c
  · exact at_same X G c
  · exact at_joined X G c
  · exact at_listed X G c
  · exact at_done X G c
  · exact at__law_cell_at X G c
  · exact at__law_next X G c
  · exact at__law_value X G c
  · exact at__law_same X G c
  · exact at__law_weight X G c
  · exact at__law_fit X G c
  · exact at__law_counted X G c
  · exact at__law_taken X G c
  · exact at__law_done X G c
  · exact at__law_word X G c
  · exact at__law_answer X G c
  · exact at__law_given X G c
  · exact at__law_ends_good X G c
  · exact at_law X G c
theorem all_mo (X : K.In h) (G : h.Ns mainGlobals mg) (c : He.SaysX fa fn ts [] hd.ex w h K) : MoOk w ⟨K, mg, w, none⟩ pg.mo :=
  Hd.ok X G (by decide +kernel) (fun f hf => c.t.d.facts (List.mem_append_right _ hf)) c.more fun t ht => by
    obtain ⟨i, hi, e⟩ := List.mem_iff_getElem.mp ht
    exact c.t.tab i (t := ((fun K => He.ga K t.1), t.2.1)) (by show (hd.tabs.map _)[i]? = _; rw [List.getElem?_map, List.getElem?_eq_getElem hi, e]; rfl)
theorem nodup : (pg.fs.map (·.1)).Nodup := by decide +kernel
theorem exc_at (X : K.In h) (G : h.Ns mainGlobals mg) (c : He.SaysX fa fn ts [] hd.ex w h K) {k : Str} (hk : k ∈ hd.es) : ∃ C, mg k = some (.ref C) ∧ ExcC K C :=
  let ⟨C, h1, _, h2⟩ := (all_mo X G c).exs k hk; ⟨C, h1, h2⟩
def words : List (Str × Str) := [("_law_word", "NoNumber"), ("_law_word", "NoList"), ("_law_word", "NoFirst"), ("_law_word", "NoDown"), ("_law_word", "ByNought"), ("_law_word", "TooGreat")]
theorem all_hot {P : Program} {base : Heap} (X : K.In h) (G : h.Ns mainGlobals mg) (c : He.SaysX fa fn ts [] hd.ex w h K) (f k : Str) (d : D) (n : Nat) (hh : pg.hot f k = some d) : HotF P w ⟨K, mg, w, none⟩ base n f k d := by
  unfold Pg.hot at hh
  split at hh
  rotate_left
  · cases hh
  rename_i hq
  obtain ⟨hf, hk⟩ := hq
  have hf : f ∈ [("_law_word" : Str)] := hf
  simp only [List.mem_cons, List.not_mem_nil, or_false] at hf
  rcases hf with rfl
  · split at hh
    rotate_left
    · cases hh
    rename_i df hdf
    have e : pg.fs.lookup ("_law_word" : Str) = some f__law_word := by kernel_rfl
    rw [e] at hdf
    cases hdf
    split at hh
    rotate_left
    · cases hh
    rename_i z hr
    cases hh
    have hk : k ∈ hd.es := hk
    · obtain ⟨fd, F⟩ := c.t.d.def_ 28 (d := d__law_word) rfl
      have A : At ⟨K, mg, w, none⟩ pg "_law_word" f__law_word _ _ _ _ _ fd ["_law_e"] 60 := ⟨glo_at X G c in__law_word, F, sc__law_word, cc__law_word, fun _ => ⟨rfl, F.bindsN fun _ _ _ _ _ _ us hl => match us, hl with | [_], _ => rfl⟩, fun h => (nomatch h)⟩
      exact A.hot rfl rfl ch__law_word rfl rfl (all_mo X G c) hr (exc_at X G c hk) n
end
def depth : Nat := 200
theorem facts {P : Program} {w : World} {K : PySem.W.Frag} {h : Heap} {mg : Str → Option Value} {f : Addr} (X : K.In h) (G : h.Ns mainGlobals mg) (hfa : mg ("law" : Str) = some (.ref f)) (c : He.SaysX fa fn ts [] hd.ex w h K) :
    ∃ fd : FuncData, (∀ (s : Shared) (v : Value), BindsTo s fd ⟨[v], []⟩ [("_law_script", v)]) ∧ ∀ base : Heap, K.In base → base.Ns mainGlobals mg → FnOk P w K mg base CX0 (depth + 1) f fd ["_law_script"] (fun vs H Q _ => spD ⟨K, mg, w, none⟩ 1 (callN pg (depth + 1) "law") vs H Q E0) := by
  obtain ⟨fd, F⟩ := c.t.d.def_ 32 (d := d_law) rfl
  have e := hfa.symm.trans (glo_at X G c in_law)
  cases e
  have b := FunD.bindsA (ps := ["_law_script"]) F fun _ _ _ _ _ _ us hl => match us, hl with | [_], _ => rfl
  have bN : Binds K fd ["_law_script"] [] := F.bindsN fun _ _ _ _ _ _ us hl => match us, hl with | [_], _ => rfl
  refine ⟨fd, fun s v => b s [v] rfl, fun base _ _ => ?_⟩
  have A : At ⟨K, mg, w, none⟩ pg "law" f_law "law" (defArgs (top 49)) (defBody (top 49)) (defScope (top 49)) _ fd ["_law_script"] 60 := ⟨glo_at X G c in_law, F, sc_law, cc_law, fun _ => ⟨rfl, bN⟩, fun h => (nomatch h)⟩
  exact fn_no (G := ⟨K, mg, w, none⟩) (A.ok rfl nodup rfl rfl (all_mo X G c) (fun f k d n h => all_hot X G c f k d n h) (by kernel_rfl) depth (defs_ok (all_at X G c) nodup rfl rfl (all_mo X G c) (fun f k d n h => all_hot X G c f k d n h) depth))

/-! ### the law -/
theorem l_ops : Kv.HasA pg where
  l_is_number := by kernel_rfl
  l_is_value := by kernel_rfl
  l_need_number := by kernel_rfl
  l_need_numbers := by kernel_rfl
  l_need_list := by kernel_rfl
  l_need_parts := by kernel_rfl
  l_plus := by kernel_rfl
  l_minus := by kernel_rfl
  l_times := by kernel_rfl
  l_over := by kernel_rfl
  l_less := by kernel_rfl
  l_down := by kernel_rfl
  l_first := by kernel_rfl
  l_rest := by kernel_rfl
  l_empty := by kernel_rfl
  l_same := by kernel_rfl
  l_joined := by kernel_rfl
  l_listed := by kernel_rfl
  l_done := by kernel_rfl
  l__law_cell_at := by kernel_rfl
  l__law_next := by kernel_rfl
  l__law_value := by kernel_rfl
  l__law_same := by kernel_rfl
  l__law_weight := by kernel_rfl
  l__law_fit := by kernel_rfl
  l__law_counted := by kernel_rfl
  l__law_taken := by kernel_rfl
  l__law_done := by kernel_rfl
  wf := rfl
  g_B := by kernel_rfl
  g_M := by kernel_rfl
  g_A := by kernel_rfl


theorem l_answer : pg.fs.lookup ("_law_answer" : Str) = some f__law_answer := by kernel_rfl
theorem l_given : pg.fs.lookup ("_law_given" : Str) = some f__law_given := by kernel_rfl
theorem l_law : pg.fs.lookup ("law" : Str) = some f_law := by kernel_rfl
theorem ends : callN pg 60 "_law_ends_good" [] = .ok (false, .bl true) := by kernel_rfl
open Kv
theorem hots : ∀ w ∈ six, pg.hot "_law_word" w = some (.str w) ∧ pg.mo.sub w "HalfError" = some true := by
  intro w h
  simp only [six, List.mem_cons, List.not_mem_nil, or_false] at h
  rcases h with rfl | rfl | rfl | rfl | rfl | rfl <;> exact ⟨by kernel_rfl, by kernel_rfl⟩
theorem v_answer (n : Nat) {o : Op} {vs : List Val} (ht : o.takes vs.length = true) (hv : ∀ v ∈ vs, v.isV = true) : callN pg (n + 6) "_law_answer" [.str o.s, .lst (Val.ds vs)] = .ok (false, (o.do vs).pr) := by
  have d := v_done l_ops (n := n) ht hv
  rw [cN l_answer]
  have z := sz 2
  cases e : o.do vs with
  | ok v =>
    rw [e] at d
    simp [runD, argsD, entE, exs, ex, evT, ev, evs, evo, evc, evi, bor, getO, getF, sndR, intR, Res.bind, onR, Fl.seq, fz, usT, us, ub, uss, uso, usc, usi, isiD, okB, D.tru, negD, cmpD, opD, idxD, slcD, biD, okF, endR, setE, bindT, itemsD, tb_fn, tb_gl, tb_ar, tb_ki, tb_sub, tb_hot, f__law_answer, c__law_answer, d, An.run, z, An.pr]
  | no w =>
    rw [e] at d
    obtain ⟨h1, h2⟩ := hots w (six_of ht e)
    simp [runD, argsD, entE, exs, ex, evT, ev, evs, evo, evc, evi, bor, getO, getF, sndR, intR, Res.bind, onR, Fl.seq, fz, usT, us, ub, uss, uso, usc, usi, isiD, okB, D.tru, negD, cmpD, opD, idxD, slcD, biD, okF, endR, setE, bindT, itemsD, tb_fn, tb_gl, tb_ar, tb_ki, tb_sub, tb_hot, f__law_answer, c__law_answer, d, An.run, h1, h2, An.pr]
theorem sgn (c : Int) (h : c = 0 ∨ c = 1) : ∃ s : Int, (s = 1 ∨ s = -1) ∧ atI [D.int 1, D.int (-1)] c = some (.int s) := by
  rcases h with rfl | rfl
  · exact ⟨1, .inl rfl, rfl⟩
  · exact ⟨-1, .inr rfl, rfl⟩
theorem v_given (ns : List Int) (k : Nat) : ∃ v : Val, v.isV = true ∧ ∀ n, callN pg (n + 2) "_law_given" [.lst (ns.map D.int), .int k] = .ok (false, v.d) := by
  obtain ⟨c, hc⟩ := v_cell l_ops.toHasV ns (2 + k)
  obtain ⟨m, hm⟩ := v_cell l_ops.toHasV ns 1
  have hc' : ∀ n, callN pg (n + 1) "_law_cell_at" [.lst (ns.map D.int), .int (2 + (k : Int))] = .ok (false, .int c) := fun n => by
    have := hc n
    rwa [show ((2 + k : Nat) : Int) = 2 + (k : Int) by omega] at this
  have hm' : ∀ n, callN pg (n + 1) "_law_cell_at" [.lst (ns.map D.int), .int 1] = .ok (false, .int m) := hm
  have z := sz 1
  have z2 := sz 2
  obtain ⟨s5, hs5, e5⟩ := sgn (c / 5 % 2) (by omega)
  obtain ⟨s3, hs3, e3⟩ := sgn (c / 3 % 2) (by omega)
  have l4 := lg 4
  have l3 := lg 3
  have l5 := lg 5
  have l9 := lg 9
  have l10 := lg 10
  have l30 := lg 30
  have l6 := lg 6
  by_cases h1 : m % 4 = 1
  · obtain ⟨j, hj⟩ : ∃ j : Nat, c % 10 = j := ⟨(c % 10).toNat, by omega⟩
    have hj9 : j < 10 := by omega
    refine ⟨.tup ((List.replicate (40 + j) (c / 9 % 100)).map Val.int), isV_ints (fun x hx => ?_) (by simp; omega), fun n => ?_⟩
    · have := (List.mem_replicate.mp hx).2
      omega
    · have t : (40 + (j : Int)).toNat = 40 + j := by omega
      have h63 : 40 + (j : Int) < 9223372036854775808 := by omega
      have h64 : -9223372036854775808 ≤ 40 + (j : Int) := by omega
      have h65 : 40 + j ≤ sizeLine := by rw [sizeLine_eq]; omega
      rw [cN l_given]
      simp [runD, argsD, entE, exs, ex, evT, ev, evs, evo, evc, evi, bor, getO, getF, sndR, intR, Res.bind, onR, Fl.seq, fz, usT, us, ub, uss, uso, usc, usi, isiD, okB, D.tru, negD, cmpD, opD, idxD, slcD, biD, okF, endR, setE, bindT, itemsD, tb_fn, tb_gl, tb_ar, tb_ki, tb_sub, tb_hot, f__law_given, c__law_given, hc', hm', eqI, h1, z, hj, t, h63, h64, h65, Val.d, l9]
      rw [ds_map, List.map_replicate]
      rfl
  by_cases h3 : m % 4 = 3 ∧ 0 < c % 5
  · refine ⟨.int ((999999999999999999 - c / 10 % 3 * (c / 30 % 5)) * s5), ?_, fun n => ?_⟩
    · have a1 : 0 ≤ c / 10 % 3 * (c / 30 % 5) := Int.mul_nonneg (by omega) (by omega)
      have a2 : c / 10 % 3 * (c / 30 % 5) ≤ 2 * 4 := Int.mul_le_mul (by omega) (by omega) (by omega) (by omega)
      have w : (Val.int ((999999999999999999 - c / 10 % 3 * (c / 30 % 5)) * s5)).wt = 1 := by simp [Val.wt]
      simp only [Val.isV, Val.ok, w, Bool.and_eq_true, decide_eq_true_eq]
      rcases hs5 with rfl | rfl <;> omega
    · have mk : Hf.MulOk (c / 10 % 3) (c / 30 % 5) := .inl (by omega)
      have mk2 : Hf.MulOk (999999999999999999 - c / 10 % 3 * (c / 30 % 5)) s5 := .inl (by omega)
      rw [cN l_given]
      simp [runD, argsD, entE, exs, ex, evT, ev, evs, evo, evc, evi, bor, getO, getF, sndR, intR, Res.bind, onR, Fl.seq, fz, usT, us, ub, uss, uso, usc, usi, isiD, okB, D.tru, negD, cmpD, opD, idxD, slcD, biD, okF, endR, setE, bindT, itemsD, tb_fn, tb_gl, tb_ar, tb_ki, tb_sub, tb_hot, f__law_given, c__law_given, hc', hm', eqI, h1, h3, z, z2, mk, mk2, e5, Val.d, l5, l10, l30]
  by_cases h2 : m % 4 = 2 ∧ 0 < c % 3
  · refine ⟨.int ((1000000000 + c / 6 % 5 - 2) * s3), ?_, fun n => ?_⟩
    · have w : (Val.int ((1000000000 + c / 6 % 5 - 2) * s3)).wt = 1 := by simp [Val.wt]
      simp only [Val.isV, Val.ok, w, Bool.and_eq_true, decide_eq_true_eq]
      rcases hs3 with rfl | rfl <;> omega
    · have mk2 : Hf.MulOk (1000000000 + c / 6 % 5 - 2) s3 := .inl (by omega)
      rw [cN l_given]
      simp [runD, argsD, entE, exs, ex, evT, ev, evs, evo, evc, evi, bor, getO, getF, sndR, intR, Res.bind, onR, Fl.seq, fz, usT, us, ub, uss, uso, usc, usi, isiD, okB, D.tru, negD, cmpD, opD, idxD, slcD, biD, okF, endR, setE, bindT, itemsD, tb_fn, tb_gl, tb_ar, tb_ki, tb_sub, tb_hot, f__law_given, c__law_given, hc', hm', eqI, h1, h2, z, z2, mk2, e3, Val.d, l3, l6]
  · obtain ⟨v, hv, e⟩ := v_lvalue l_ops.toHasV c
    refine ⟨v, hv, fun n => ?_⟩
    rw [cN l_given]
    by_cases q3 : m % 4 = 3
    · have q5 : ¬ 0 < c % 5 := fun h => h3 ⟨q3, h⟩
      simp [runD, argsD, entE, exs, ex, evT, ev, evs, evo, evc, evi, bor, getO, getF, sndR, intR, Res.bind, onR, Fl.seq, fz, usT, us, ub, uss, uso, usc, usi, isiD, okB, D.tru, negD, cmpD, opD, idxD, slcD, biD, okF, endR, setE, bindT, itemsD, tb_fn, tb_gl, tb_ar, tb_ki, tb_sub, tb_hot, f__law_given, c__law_given, hc', hm', eqI, q3, q5, z, e]
    · by_cases q2 : m % 4 = 2
      · have q5 : ¬ 0 < c % 3 := fun h => h2 ⟨q2, h⟩
        simp [runD, argsD, entE, exs, ex, evT, ev, evs, evo, evc, evi, bor, getO, getF, sndR, intR, Res.bind, onR, Fl.seq, fz, usT, us, ub, uss, uso, usc, usi, isiD, okB, D.tru, negD, cmpD, opD, idxD, slcD, biD, okF, endR, setE, bindT, itemsD, tb_fn, tb_gl, tb_ar, tb_ki, tb_sub, tb_hot, f__law_given, c__law_given, hc', hm', eqI, q2, q5, z, e]
      · simp [runD, argsD, entE, exs, ex, evT, ev, evs, evo, evc, evi, bor, getO, getF, sndR, intR, Res.bind, onR, Fl.seq, fz, usT, us, ub, uss, uso, usc, usi, isiD, okB, D.tru, negD, cmpD, opD, idxD, slcD, biD, okF, endR, setE, bindT, itemsD, tb_fn, tb_gl, tb_ar, tb_ki, tb_sub, tb_hot, f__law_given, c__law_given, hc', hm', eqI, h1, q2, q3, z, e]


def bL : Sts := (.cons (.set 6 (.bi .list (.var 3)))
    (.cons (.set 7 (.call "_law_answer" (.cons (.var 1) (.cons (.var 6) .nil))))
    (.cons (.ifs (.or (.val (.cmp .NotEq (.idx (.var 7) (.lit (.int 0))) (.idx (.var 4) (.lit (.int 0))))) (.or (.not (.val (.call "_law_same" (.cons (.idx (.var 7) (.lit (.int 1))) (.cons (.idx (.var 4) (.lit (.int 1))) .nil))))) (.val (.cmp .NotEq (.var 6) (.var 3))))) (.cons (.ret (.lit (.bl false)))
    .nil) .nil)
    (.cons (.ifs (.val (.cmp .NotEq (.call "_law_answer" (.cons (.lit (.str "join")) (.cons (.lst (.cons (.lit (.int 1)) (.cons (.tup .nil) .nil))) .nil))) (.tup (.cons (.lit (.bl true)) (.cons (.tup (.cons (.lit (.int 1)) .nil)) .nil))))) (.cons (.ret (.lit (.bl false)))
    .nil) .nil)
    .nil))))
theorem joined1 (n : Nat) : callN pg (n + 6) "_law_answer" [.str "join", .lst [.int 1, .tup []]] = .ok (false, .tup [.bl true, .tup [.int 1]]) :=
  v_answer n (o := .join) (vs := [.int 1, .tup []]) rfl (by decide)
theorem an_pr (a : An) : ∃ b : Bool, ∃ d : D, a.pr = .tup [.bl b, d] := by
  cases a with
  | ok v => exact ⟨true, _, rfl⟩
  | no w => exact ⟨false, _, rfl⟩
theorem an_sm {o : Op} {vs : List Val} (ht : o.takes vs.length = true) (hv : ∀ v ∈ vs, v.isV = true) {b : Bool} {d : D} (h : (o.do vs).pr = .tup [.bl b, d]) : Sm d ∧ wt d ≤ 50 := by
  cases e : o.do vs with
  | ok v =>
    rw [e] at h
    cases h
    exact ⟨v_sm v, by rw [v_wt]; exact (isV_ok (do_isV hv ht e)).2⟩
  | no w =>
    rw [e] at h
    cases h
    have : ∀ w ∈ six, PyData.strOk w = true := by decide +kernel
    exact ⟨.str w (this w (six_of ht e)), by simp [wt]⟩
theorem bL_ok {n : Nat} (hn : 70 ≤ n) {s m x5 : D} {o : Op} {vs : List Val} {x6 x7 x8 : Option (Bool × D)} (ht : o.takes vs.length = true) (hv : ∀ v ∈ vs, v.isV = true) :
    ∃ y6 y7, exs (pg.tb n) pg.wf bL [some (false, s), some (false, .str o.s), some (false, m), some (false, .lst (Val.ds vs)), some (false, (o.do vs).pr), some (false, x5), x6, x7, x8] = .nx [some (false, s), some (false, .str o.s), some (false, m), some (false, .lst (Val.ds vs)), some (false, (o.do vs).pr), some (false, x5), y6, y7, x8] := by
  obtain ⟨k, rfl⟩ : ∃ k, n = k + 6 := ⟨n - 6, by omega⟩
  have a := v_answer k ht hv
  have j := joined1 k
  obtain ⟨b, d, e⟩ := an_pr (o.do vs)
  obtain ⟨d1, d2⟩ := an_sm ht hv e
  have w := v_same l_ops.toHasV (k + 6) d d1 (by have := dep_wt d; omega) (by omega)
  rw [e] at a
  obtain ⟨w1, w2⟩ := wts_vs hv
  have hl : vs.length ≤ 8 := by
    cases o <;> simp [Op.takes] at ht <;> omega
  have q := eq_selfL (vs_tr vs) (by have := deps_vs hv; omega)
  have q2 : D.eqD (.tup [.bl true, .tup [.int 1]]) (.tup [.bl true, .tup [.int 1]]) = .ok true := by kernel_rfl
  have z := sz 2
  have z1 := sz 1
  have z0 := sz 0
  refine ⟨some (false, .lst (Val.ds vs)), some (false, .tup [.bl b, d]), ?_⟩
  rw [e]
  simp [runD, argsD, entE, exs, ex, evT, ev, evs, evo, evc, evi, bor, getO, getF, sndR, intR, Res.bind, onR, Fl.seq, fz, usT, us, ub, uss, uso, usc, usi, isiD, okB, D.tru, negD, cmpD, opD, idxD, slcD, biD, okF, endR, setE, bindT, itemsD, tb_fn, tb_gl, tb_ar, tb_ki, tb_sub, tb_hot, bL, a, at0, at1, eq_bl, w, q, j, q2, z, z1, z0]
theorem d2 : opD12 = [.str "plus", .str "minus", .str "times", .str "over", .str "less", .str "same", .str "join", .str "first", .str "rest", .str "empty", .str "down", .str "list"] := rfl
theorem many (o : Op) (c : Int) : ∃ m : Nat, o.takes m = true ∧ m ≤ 8 ∧ (if o = .list then c / 12 % 9 else if o.un = true then 1 else 2) = (m : Int) := by
  by_cases h : o = .list
  · subst h
    exact ⟨(c / 12 % 9).toNat, by simp [Op.takes]; omega, by omega, by simp; omega⟩
  · by_cases u : o.un = true
    · exact ⟨1, by cases o <;> simp [Op.un] at u <;> rfl, by omega, by simp [h, u]⟩
    · exact ⟨2, by cases o <;> simp [Op.un] at u h <;> rfl, by omega, by simp [h, u]⟩
def sQ (o : Op) : Sts := .cons (.set 2 (.lit (.int 2)))
    (.cons (.ifs (.val (.cmp .In (.var 1) (.tup (.cons (.lit (.str "first")) (.cons (.lit (.str "rest")) (.cons (.lit (.str "empty")) (.cons (.lit (.str "down")) .nil))))))) (.cons (.set 2 (.lit (.int 1)))
    .nil) .nil)
    (.cons (.ifs (.val (.cmp .Eq (.var 1) (.lit (.str "list")))) (.cons (.set 2 (.bin .Mod (.bin .FloorDiv (.call "_law_cell_at" (.cons (.var 0) (.cons (.lit (.int 0)) .nil))) (.lit (.int 12))) (.lit (.int 9))))
    .nil) .nil) .nil))
theorem law_val (ns : List Int) (h : ns.length ≤ 63) : callN pg 201 "law" [.lst (ns.map D.int)] = .ok (false, .bl true) := by
  obtain ⟨c, hc⟩ := v_cell l_ops.toHasV ns 0
  have hc' : ∀ n, callN pg (n + 1) "_law_cell_at" [.lst (ns.map D.int), .int 0] = .ok (false, .int c) := hc
  obtain ⟨o, ho⟩ := op_at c
  obtain ⟨m, hm1, hm2, hm3⟩ := many o c
  have z := sz 12
  have z4 := sz 4
  have l12 := lg 12
  have r := rng0 m (by omega)
  have hz : ((List.range m).map fun (i : Nat) => D.int (i : Int)).length ≤ sizeLine := by simp; rw [sizeLine_eq]; omega
  obtain ⟨vs, v1, v2, v3⟩ := comp_ex (g := Val.d) (P := fun v => v.isV = true) (f := cF (pg.tb 200) (.one 8) [8] .nil (.call "_law_given" (.cons (.var 0) (.cons (.var 8) .nil))) [some (false, .lst (ns.map D.int)), some (false, .str o.s), some (false, .int m), none, none, none, none, none, none]) (ds := (List.range m).map fun (i : Nat) => D.int (i : Int)) (by
    intro d hd
    obtain ⟨k, hk, rfl⟩ := List.mem_map.mp hd
    obtain ⟨v, h1, h2⟩ := v_given ns k
    exact ⟨v, h1, by simp [runD, argsD, entE, exs, ex, evT, ev, evs, evo, evc, evi, bor, getO, getF, sndR, intR, Res.bind, onR, Fl.seq, fz, usT, us, ub, uss, uso, usc, usi, isiD, okB, D.tru, negD, cmpD, opD, idxD, slcD, biD, okF, endR, setE, bindT, itemsD, tb_fn, tb_gl, tb_ar, tb_ki, tb_sub, tb_hot, cF, wipeE, noX, h2]⟩)
  rw [← ds_map] at v3
  have hv1 : vs.length = m := by rw [v1]; simp
  have ht : o.takes vs.length = true := by rw [hv1]; exact hm1
  have dn := v_ldone l_ops (n := 197) (by omega) ht v2
  obtain ⟨y6, y7, b1⟩ := bL_ok (n := 200) (by omega) (s := .lst (ns.map D.int)) (m := .int m) (x5 := .int 0) (x6 := none) (x7 := none) (x8 := none) ht v2
  obtain ⟨z6, z7, b2⟩ := bL_ok (n := 200) (by omega) (s := .lst (ns.map D.int)) (m := .int m) (x5 := .int 1) (x6 := y6) (x7 := y7) (x8 := none) ht v2
  have en : callN pg 200 "_law_ends_good" [] = .ok (false, .bl true) := by kernel_rfl
  have r2 : rngD 0 2 = .ok [.int 0, .int 1] := by kernel_rfl
  have ho' := ho
  rw [d2] at ho'
  refine c_run [some (false, .lst (ns.map D.int)), none, none, none, none, none, none, none, none] l_law (R := .rt false (.bl true)) ?_ rfl
  refine g_st [some (false, .lst (ns.map D.int)), some (true, .lst opD12), none, none, none, none, none, none, none] (by simp [runD, argsD, entE, exs, ex, evT, ev, evs, evo, evc, evi, bor, getO, getF, sndR, intR, Res.bind, onR, Fl.seq, fz, usT, us, ub, uss, uso, usc, usi, isiD, okB, D.tru, negD, cmpD, opD, idxD, slcD, biD, okF, endR, setE, bindT, itemsD, tb_fn, tb_gl, tb_ar, tb_ki, tb_sub, tb_hot, d2, z]) ?_
  refine g_st [some (false, .lst (ns.map D.int)), some (false, .str o.s), none, none, none, none, none, none, none] (by simp [runD, argsD, entE, exs, ex, evT, ev, evs, evo, evc, evi, bor, getO, getF, sndR, intR, Res.bind, onR, Fl.seq, fz, usT, us, ub, uss, uso, usc, usi, isiD, okB, D.tru, negD, cmpD, opD, idxD, slcD, biD, okF, endR, setE, bindT, itemsD, tb_fn, tb_gl, tb_ar, tb_ki, tb_sub, tb_hot, hc', ho]) ?_
  refine g_st [some (false, .lst (ns.map D.int)), some (false, .str o.s), some (false, .int 2), none, none, none, none, none, none] (by simp [runD, argsD, entE, exs, ex, evT, ev, evs, evo, evc, evi, bor, getO, getF, sndR, intR, Res.bind, onR, Fl.seq, fz, usT, us, ub, uss, uso, usc, usi, isiD, okB, D.tru, negD, cmpD, opD, idxD, slcD, biD, okF, endR, setE, bindT, itemsD, tb_fn, tb_gl, tb_ar, tb_ki, tb_sub, tb_hot]) ?_
  refine g_st [some (false, .lst (ns.map D.int)), some (false, .str o.s), some (false, .int (if o.un = true then 1 else 2)), none, none, none, none, none, none] (by cases hu : o.un <;> simp [runD, argsD, entE, exs, ex, evT, ev, evs, evo, evc, evi, bor, getO, getF, sndR, intR, Res.bind, onR, Fl.seq, fz, usT, us, ub, uss, uso, usc, usi, isiD, okB, D.tru, negD, cmpD, opD, idxD, slcD, biD, okF, endR, setE, bindT, itemsD, tb_fn, tb_gl, tb_ar, tb_ki, tb_sub, tb_hot, z4, op_in, hu]) ?_
  refine g_st [some (false, .lst (ns.map D.int)), some (false, .str o.s), some (false, .int m), none, none, none, none, none, none] ?_ ?_
  · by_cases hl : o = .list
    · subst hl
      simp at hm3
      simp [runD, argsD, entE, exs, ex, evT, ev, evs, evo, evc, evi, bor, getO, getF, sndR, intR, Res.bind, onR, Fl.seq, fz, usT, us, ub, uss, uso, usc, usi, isiD, okB, D.tru, negD, cmpD, opD, idxD, slcD, biD, okF, endR, setE, bindT, itemsD, tb_fn, tb_gl, tb_ar, tb_ki, tb_sub, tb_hot, op_list, hc', l12, hm3]
    · simp [hl] at hm3
      simp [runD, argsD, entE, exs, ex, evT, ev, evs, evo, evc, evi, bor, getO, getF, sndR, intR, Res.bind, onR, Fl.seq, fz, usT, us, ub, uss, uso, usc, usi, isiD, okB, D.tru, negD, cmpD, opD, idxD, slcD, biD, okF, endR, setE, bindT, itemsD, tb_fn, tb_gl, tb_ar, tb_ki, tb_sub, tb_hot, op_list, hl, hm3]
  refine g_set [some (false, .lst (ns.map D.int)), some (false, .str o.s), some (false, .int m), some (true, .lst (Val.ds vs)), none, none, none, none, none] (ev_comp (evi_rng1 (k := (m : Int)) (by simp [runD, argsD, entE, exs, ex, evT, ev, evs, evo, evc, evi, bor, getO, getF, sndR, intR, Res.bind, onR, Fl.seq, fz, usT, us, ub, uss, uso, usc, usi, isiD, okB, D.tru, negD, cmpD, opD, idxD, slcD, biD, okF, endR, setE, bindT, itemsD, tb_fn, tb_gl, tb_ar, tb_ki, tb_sub, tb_hot]) r) hz v3) ?_
  refine g_st [some (false, .lst (ns.map D.int)), some (false, .str o.s), some (false, .int m), some (false, .lst (Val.ds vs)), some (false, (o.do vs).pr), none, none, none, none] (by simp [runD, argsD, entE, exs, ex, evT, ev, evs, evo, evc, evi, bor, getO, getF, sndR, intR, Res.bind, onR, Fl.seq, fz, usT, us, ub, uss, uso, usc, usi, isiD, okB, D.tru, negD, cmpD, opD, idxD, slcD, biD, okF, endR, setE, bindT, itemsD, tb_fn, tb_gl, tb_ar, tb_ki, tb_sub, tb_hot, dn]) ?_
  refine g_for [some (false, .lst (ns.map D.int)), some (false, .str o.s), some (false, .int m), some (false, .lst (Val.ds vs)), some (false, (o.do vs).pr), some (false, .int 1), z6, z7, none] (ds := [.int 0, .int 1]) (by simp [runD, argsD, entE, exs, ex, evT, ev, evs, evo, evc, evi, bor, getO, getF, sndR, intR, Res.bind, onR, Fl.seq, fz, usT, us, ub, uss, uso, usc, usi, isiD, okB, D.tru, negD, cmpD, opD, idxD, slcD, biD, okF, endR, setE, bindT, itemsD, tb_fn, tb_gl, tb_ar, tb_ki, tb_sub, tb_hot, r2]) (f_nx rfl b1 (f_nx rfl b2 rfl)) ?_
  simp [runD, argsD, entE, exs, ex, evT, ev, evs, evo, evc, evi, bor, getO, getF, sndR, intR, Res.bind, onR, Fl.seq, fz, usT, us, ub, uss, uso, usc, usi, isiD, okB, D.tru, negD, cmpD, opD, idxD, slcD, biD, okF, endR, setE, bindT, itemsD, tb_fn, tb_gl, tb_ar, tb_ki, tb_sub, tb_hot, en]



theorem law_holds (ns : List Int) (h : ns.length ≤ 63) : ∃ b, callN pg (depth + 1) "law" [.lst (ns.map D.int)] = .ok (b, .bl true) := ⟨_, law_val ns h⟩
end K02
open PySem PySem.W PySem.Calls PyProof.Rows
theorem PySem.Challenge.cw_halfrun_k02_operations_holds : PySem.Challenge.rw_halfrun_k02_operations.Holds := by
  w_on; o_law
  refine HandSHeadRun.head_any (r := OpenLaw.row PySem.Challenge.rw_halfrun_k02_operations) (q := view (OpenLaw.row PySem.Challenge.rw_halfrun_k02_operations).prog [49]) (H := K02.hk) (ob := K02.ob) (M := 30000) (loose := K02.others) (d := HandSHeadRun.topDef (OpenLaw.row PySem.Challenge.rw_halfrun_k02_operations).prog 49) (kwd := []) K02.ob_eq
    (by kernel_rfl) (fun s => by kernel_rfl) K02.run (by kernel_rfl) (by kernel_rfl) (by kernel_rfl) (by rfl) (by first | assumption | decide +kernel) (by decide +kernel) ⟨rfl, rfl, rfl, rfl, rfl, by decide +kernel⟩ ?hw ?hc
  case hw => w_witness2
  case hc =>
    refine L2.walk_ofE (l := PySem.Challenge.rw_halfrun_k02_operations) (n := 63) (k := K02.depth + 1) (x := "_law_script") (CX := L2.CX0) rfl (by decide) (by kernel_rfl) ⟨rfl, by decide, by decide⟩ ?F (fun _ _ _ _ z => z)
    intro w mg fa h Y G hmg0
    obtain ⟨K, KX, c⟩ := Y
    have hmg : mg ("law" : PySem.Str) = some (.ref fa) := by
      have e : (HandSHeadRun.topDef (OpenLaw.row PySem.Challenge.rw_halfrun_k02_operations).prog 49).name = ("law" : PySem.Str) := by kernel_rfl
      rw [← e]
      exact hmg0
    obtain ⟨fd, hb, hF⟩ := K02.facts (P := (PySem.Challenge.rw_halfrun_k02_operations).prog) (w := w) KX G hmg c
    exact ⟨K, fd, (fun vs H Q _ => Hf.spD ⟨K, mg, w, none⟩ 1 (Hf.callN K02.pg (K02.depth + 1) "law") vs H Q L2.E0), KX, hb, fun H a ns hl _ hS => Hf.law_sp (G := ⟨K, mg, w, none⟩) K02.law_holds H a ns hl hS, hF⟩

