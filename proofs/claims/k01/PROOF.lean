import PyProof.Rows.All
import PySem.Challenge.RW_halfrun_k01_values
import HandS.ForMost
import HandS.ForExc
import HandS.TupMul
import HandS.TupAny
import HandS.TupLe
import HandS.IsInst
import HandS.Wide
import HandS.Flow
import HandS.Defaults
import HandS.Head0
import HandS.Head1
import HandS.Head2
import HandS.HeadEnd
import HandS.HeadHook1
import HandS.HeadHook2
set_option Elab.async false
set_option linter.all false
set_option maxRecDepth 100000
set_option maxHeartbeats 0
/-! Hf0: data by value over the abstract heap; what is frozen, what is one's own; environments by slots. -/
namespace Hf
open PySem PySem.Spec PyProof.Rows L2
set_option autoImplicit false

/-- data by value -/
inductive D where
  | non | bl (b : Bool) | int (i : Int) | str (x : Str)
  | tup (xs : List D) | lst (xs : List D)
  | fn (x : Str) | exc (c : Str)
  deriving Inhabited

inductive Res (α : Type) where
  | ok (a : α) | exc (c : Str) | fail
def Res.bind {α β : Type} (r : Res α) (f : α → Res β) : Res β := match r with
  | .ok a => f a
  | .exc c => .exc c
  | .fail => .fail
instance : Monad Res where
  pure := .ok
  bind := Res.bind

abbrev Sy := Addr → Prop
def KL (K : PySem.W.Frag) (a : Addr) (xs : List V) : Prop := ∃ (o : Obj) (its : Array Value) (n : Nat), K.lookup a = some o ∧ o.cls = .type "list" ∧ o.dict = none ∧ o.data = .seq its n ∧ its.size ≤ sizeLine ∧ Vals xs its.toList
def KT (K : PySem.W.Frag) (a : Addr) (xs : List V) : Prop := ∃ (o : Obj) (its : Array Value) (n : Nat), K.lookup a = some o ∧ o.cls = .type "tuple" ∧ o.data = .seq its n ∧ its.size ≤ sizeLine ∧ Vals xs its.toList
def FzL (K : PySem.W.Frag) (H : Hp) (S : Sy) (a : Addr) (xs : List V) : Prop := (S a ∧ Rd H a (.lst xs)) ∨ KL K a xs
theorem FzL.sq {K : PySem.W.Frag} {H : Hp} {S : Sy} {a : Addr} {xs : List V} (h : FzL K H S a xs) : SqL K H a xs := h.imp (·.2) id
def FzT (K : PySem.W.Frag) (H : Hp) (S : Sy) (a : Addr) (xs : List V) : Prop := (S a ∧ Rd H a (.tup xs)) ∨ KT K a xs
theorem FzT.sq {K : PySem.W.Frag} {H : Hp} {S : Sy} {a : Addr} {xs : List V} (h : FzT K H S a xs) : SqT K H a xs := h.imp (·.2) id

/-- the world that a def runs in, as far as data speak of it -/
structure Gm where
  K : PySem.W.Frag
  mg : Str → Option Value

inductive Rep (G : Gm) (H : Hp) (S : Sy) : D → V → Prop
  | non : Rep G H S .non .non
  | bl (b : Bool) : Rep G H S (.bl b) (.bl b)
  | int (i : Int) : Rep G H S (.int i) (.int i)
  | str (x : Str) : Rep G H S (.str x) (.str x)
  | lst {a : Addr} {xs : List V} {ds : List D} : FzL G.K H S a xs → Paired (Rep G H S) ds xs → Rep G H S (.lst ds) (.ref a)
  | tup {a : Addr} {xs : List V} {ds : List D} : FzT G.K H S a xs → Paired (Rep G H S) ds xs → Rep G H S (.tup ds) (.ref a)
  | fn {x : Str} {a : Addr} : G.mg x = some (.ref a) → Rep G H S (.fn x) (.ref a)

/-- what is frozen here stands there -/
def Keep (H : Hp) (S : Sy) (H' : Hp) (S' : Sy) : Prop := ∀ a, S a → S' a ∧ ∀ o, H a = some o → H' a = some o
theorem Keep.rd {H H' : Hp} {S S' : Sy} (k : Keep H S H' S') {a : Addr} {o : HO} (s : S a) (r : Rd H a o) : S' a ∧ Rd H' a o :=
  ⟨(k a s).1, r.imp ((k a s).2 _) fun ⟨u, e⟩ => ⟨u, (k a s).2 _ e⟩⟩
theorem Keep.fzl {K : PySem.W.Frag} {H H' : Hp} {S S' : Sy} (k : Keep H S H' S') {a : Addr} {xs : List V} (h : FzL K H S a xs) : FzL K H' S' a xs := h.imp (fun z => k.rd z.1 z.2) id
theorem Keep.fzt {K : PySem.W.Frag} {H H' : Hp} {S S' : Sy} (k : Keep H S H' S') {a : Addr} {xs : List V} (h : FzT K H S a xs) : FzT K H' S' a xs := h.imp (fun z => k.rd z.1 z.2) id
mutual
theorem Rep.keep {G : Gm} {H H' : Hp} {S S' : Sy} (k : Keep H S H' S') : ∀ (d : D) (v : V), Rep G H S d v → Rep G H' S' d v
  | .non, _, .non => .non
  | .bl _, _, .bl b => .bl b
  | .int _, _, .int i => .int i
  | .str _, _, .str x => .str x
  | .lst ds, _, .lst h p => .lst (k.fzl h) (Rep.keepL k ds _ p)
  | .tup ds, _, .tup h p => .tup (k.fzt h) (Rep.keepL k ds _ p)
  | .fn _, _, .fn h => .fn h
theorem Rep.keepL {G : Gm} {H H' : Hp} {S S' : Sy} (k : Keep H S H' S') : ∀ (ds : List D) (xs : List V), Paired (Rep G H S) ds xs → Paired (Rep G H' S') ds xs
  | [], _, .nil => .nil
  | d :: ds, _, .cons h t => .cons (Rep.keep k d _ h) (Rep.keepL k ds _ t)
end

/-- later: nothing that was tracked has changed; what is frozen grows by new things alone -/
structure Gr (H : Hp) (S : Sy) (H' : Hp) (S' : Sy) : Prop where
  same : Same H H'
  sub : ∀ a, S a → S' a
  new : ∀ a, S' a → S a ∨ (H a = none ∧ ∃ o, H' a = some o)
theorem Gr.refl (H : Hp) (S : Sy) : Gr H S H S := ⟨Same.refl H, fun _ h => h, fun _ h => .inl h⟩
theorem Gr.trans {H H1 H2 : Hp} {S S1 S2 : Sy} (a : Gr H S H1 S1) (b : Gr H1 S1 H2 S2) : Gr H S H2 S2 :=
  ⟨a.same.trans b.same, fun x h => b.sub x (a.sub x h), fun x h => (b.new x h).elim (fun z => (a.new x z).imp id fun ⟨q, o, r⟩ => ⟨q, o, b.same _ _ r⟩) fun ⟨z, q⟩ => .inr ⟨a.same.free z, q⟩⟩
theorem Gr.keep {H H' : Hp} {S S' : Sy} (e : Gr H S H' S') : Keep H S H' S' := fun a s => ⟨e.sub a s, fun o h => e.same a o h⟩
theorem Gr.rep {G : Gm} {H H' : Hp} {S S' : Sy} (e : Gr H S H' S') {d : D} {v : V} (h : Rep G H S d v) : Rep G H' S' d v := h.keep e.keep
theorem Gr.reps {G : Gm} {H H' : Hp} {S S' : Sy} (e : Gr H S H' S') {ds : List D} {xs : List V} (h : Paired (Rep G H S) ds xs) : Paired (Rep G H' S') ds xs := Rep.keepL e.keep ds xs h
/-- a new object is laid -/
theorem Gr.laid {H : Hp} {S : Sy} {p : Addr} {o : HO} (h : H p = none) : Gr H S (upd H p o) S :=
  ⟨fun b x e => by rw [upd_ne (ne_of_none e h)]; exact e, fun _ h => h, fun _ h => .inl h⟩
/-- .. and frozen -/
theorem Gr.laidF {H : Hp} {S : Sy} {p : Addr} {o : HO} (h : H p = none) : Gr H S (upd H p o) (fun a => S a ∨ a = p) :=
  ⟨fun b x e => by rw [upd_ne (ne_of_none e h)]; exact e, fun _ h => .inl h, fun a z => z.elim .inl fun e => .inr (by subst e; exact ⟨h, _, upd_same⟩)⟩
/-- what is frozen is there -/
def Dm (H : Hp) (S : Sy) : Prop := ∀ a, S a → ∃ o, H a = some o
theorem Dm.gr {H H' : Hp} {S S' : Sy} (e : Gr H S H' S') (h : Dm H S) : Dm H' S' := fun a z => (e.new a z).elim (fun q => let ⟨o, r⟩ := h a q; ⟨o, e.same _ _ r⟩) fun q => q.2
theorem Dm.no {H : Hp} {S : Sy} (h : Dm H S) {p : Addr} (n : H p = none) : ¬ S p := fun z => by
  obtain ⟨o, r⟩ := h p z
  rw [n] at r
  cases r

/-- one's own list: held by nothing else -/
def Own (G : Gm) (H0 H : Hp) (S : Sy) (d : D) (v : V) : Prop := ∃ a xs ds, v = .ref a ∧ d = .lst ds ∧ ¬ S a ∧ H0 a = none ∧ H a = some (.lst xs) ∧ Paired (Rep G H S) ds xs
def RepO (G : Gm) (H0 H : Hp) (S : Sy) (own : Bool) (d : D) (v : V) : Prop := match own with
  | true => Own G H0 H S d v
  | false => Rep G H S d v
/-- what may be read: frozen, or one's own -/
def Loo (G : Gm) (H : Hp) (S : Sy) (d : D) (v : V) : Prop := Rep G H S d v ∨ ∃ a xs ds, v = .ref a ∧ d = .lst ds ∧ ¬ S a ∧ H a = some (.lst xs) ∧ Paired (Rep G H S) ds xs
theorem RepO.loo {G : Gm} {H0 H : Hp} {S : Sy} {own : Bool} {d : D} {v : V} (h : RepO G H0 H S own d v) : Loo G H S d v := by
  cases own with
  | false => exact .inl h
  | true =>
    obtain ⟨a, xs, ds, e1, e2, e3, _, e4, e5⟩ := h
    exact .inr ⟨a, xs, ds, e1, e2, e3, e4, e5⟩
theorem Loo.ex {G : Gm} {H H' : Hp} {S S' : Sy} (e : Gr H S H' S') {d : D} {v : V} (h : Loo G H S d v) : Loo G H' S' d v := by
  rcases h with h | ⟨a, xs, ds, e1, e2, e3, e4, e5⟩
  · exact .inl (e.rep h)
  · refine .inr ⟨a, xs, ds, e1, e2, fun z => ?_, e.same _ _ e4, e.reps e5⟩
    rcases e.new a z with q | ⟨q, _⟩
    · exact e3 q
    · rw [e4] at q; cases q
/-- an own result is frozen -/
theorem RepO.fz {G : Gm} {H H' : Hp} {S S' : Sy} (e : Gr H S H' S') {own : Bool} {d : D} {v : V} (h : RepO G H H' S' own d v) : ∃ S'', Gr H S H' S'' ∧ Keep H' S' H' S'' ∧ Rep G H' S'' d v := by
  cases own with
  | false => exact ⟨S', e, fun _ s => ⟨s, fun _ h => h⟩, h⟩
  | true =>
    obtain ⟨a, xs, ds, rfl, rfl, ns, h0, ha, hp⟩ := h
    have k : Keep H' S' H' (fun b => S' b ∨ b = a) := fun b s => ⟨.inl s, fun _ h => h⟩
    exact ⟨fun b => S' b ∨ b = a, ⟨e.same, fun b s => .inl (e.sub b s), fun b z => z.elim (e.new b) fun q => .inr (by subst q; exact ⟨h0, _, ha⟩)⟩, k, .lst (.inl ⟨.inr rfl, .inl ha⟩) (Rep.keepL k _ _ hp)⟩

/-! ### environments -/
abbrev En := List (Option (Bool × D))
structure REnv (G : Gm) (H0 H : Hp) (S : Sy) (σ : L2.St) (ρ : En) : Prop where
  len : ρ.length = σ.length
  dom : Dm H S
  slot : ∀ (i : Nat) (b : Bool) (d : D), ρ[i]? = some (some (b, d)) → ∃ v, σ[i]? = some (some v) ∧ RepO G H0 H S b d v
  apart : ∀ (i j : Nat) (d e : D) (a : Addr), i ≠ j → ρ[i]? = some (some (true, d)) → ρ[j]? = some (some (true, e)) → σ[i]? = some (some (.ref a)) → σ[j]? = some (some (.ref a)) → False
theorem RepO.gr {G : Gm} {H0 H H' : Hp} {S S' : Sy} (e : Gr H S H' S') {b : Bool} {d : D} {v : V} (h : RepO G H0 H S b d v) : RepO G H0 H' S' b d v := by
  cases b with
  | false => exact e.rep h
  | true =>
    obtain ⟨a, xs, ds, e1, e2, e3, h0, e4, e5⟩ := h
    refine ⟨a, xs, ds, e1, e2, fun z => ?_, h0, e.same _ _ e4, e.reps e5⟩
    rcases e.new a z with q | ⟨q, _⟩
    · exact e3 q
    · rw [e4] at q; cases q
theorem REnv.gr {G : Gm} {H0 H H' : Hp} {S S' : Sy} {σ : L2.St} {ρ : En} (e : Gr H S H' S') (R : REnv G H0 H S σ ρ) : REnv G H0 H' S' σ ρ :=
  ⟨R.len, R.dom.gr e, fun i b d h => let ⟨v, h1, h2⟩ := R.slot i b d h; ⟨v, h1, h2.gr e⟩, R.apart⟩

/-! ### what an expression gives -/
def Post (G : Gm) (W : Str → Hp → Prop) (H : Hp) (S : Sy) (r : Res (Bool × D)) (Q : VK) : Prop := match r with
  | .ok (b, d) => ∀ v H' S', Gr H S H' S' → RepO G H H' S' b d v → Q v H'
  | .exc c => ∀ H' S', Gr H S H' S' → W c H'
  | .fail => False
def PostB (G : Gm) (W : Str → Hp → Prop) (H : Hp) (S : Sy) (r : Res D) (Q : VK) : Prop := match r with
  | .ok d => ∀ v H' S', Gr H S H' S' → Loo G H' S' d v → Q v H'
  | .exc c => ∀ H' S', Gr H S H' S' → W c H'
  | .fail => False
def PostF (G : Gm) (W : Str → Hp → Prop) (H : Hp) (S : Sy) (r : Res D) (Q : VK) : Prop := match r with
  | .ok d => ∀ v H' S', Gr H S H' S' → Rep G H' S' d v → Q v H'
  | .exc c => ∀ H' S', Gr H S H' S' → W c H'
  | .fail => False
theorem Post.gr {G : Gm} {W : Str → Hp → Prop} {H H2 : Hp} {S S2 : Sy} {r : Res (Bool × D)} {Q : VK} (e : Gr H S H2 S2) (h : Post G W H S r Q) : Post G W H2 S2 r Q := by
  cases r with
  | fail => exact h
  | exc c => exact fun H' S' e' => h H' S' (e.trans e')
  | ok x =>
    obtain ⟨b, d⟩ := x
    intro v H' S' e' q
    refine h v H' S' (e.trans e') ?_
    cases b with
    | false => exact q
    | true =>
      obtain ⟨a, xs, ds, e1, e2, e3, h0, r⟩ := q
      exact ⟨a, xs, ds, e1, e2, e3, e.same.free h0, r⟩
def sndR (r : Res (Bool × D)) : Res D := match r with
  | .ok x => .ok x.2
  | .exc c => .exc c
  | .fail => .fail
end Hf

/-! Hf1: the small language by slots, what its terms give. -/
namespace Hf
open PySem PySem.Spec PyProof.Rows L2
set_option autoImplicit false

inductive Bi where
  | len | tuple | list | sum | abs | int
  deriving DecidableEq
inductive Ty where
  | int | bool | str | tuple | list
  deriving DecidableEq
/-- where a turn's item goes -/
inductive Tg where
  | one (i : Nat) | tup (is : List Nat)
mutual
inductive Ex where
  | lit (d : D) | var (i : Nat) | gl (x : Str)
  | bin (o : Operator) (a b : Ex) | neg (a : Ex)
  | cmp (o : CmpOp) (a b : Ex) | chn (o p : CmpOp) (a b c : Ex)
  | and (a b : Ex) | or (a b : Ex) | not (a : Ex) | ite (c : Te) (a b : Ex)
  | tup (es : Exs) | lst (es : Exs)
  | idx (a i : Ex) | slc (a : Ex) (lo hi : Exo)
  | call (f : Str) (es : Exs)
  | bi (f : Bi) (a : Ex)
  | isi (a : Ex) (t : Ty)
  | comp (t : Tg) (vs : List Nat) (it : Is) (c : Tes) (e : Ex)
inductive Exs where
  | nil | cons (e : Ex) (es : Exs)
inductive Exo where
  | none | some (e : Ex)
/-- a test -/
inductive Te where
  | val (e : Ex) | and (a b : Te) | or (a b : Te) | not (a : Te)
/-- a clause's test -/
inductive Tes where
  | nil | one (c : Te)
/-- what is walked -/
inductive Is where
  | seq (e : Ex) | rng1 (hi : Ex) | rng2 (lo hi : Ex)
end

/-! ### operations on data -/
def D.tru : D → Res Bool
  | .non => .ok false
  | .bl b => .ok b
  | .int i => .ok (i != 0)
  | .str x => if x.length ≤ sizeLine then .ok ((x.length : Int) != 0) else .fail
  | .tup xs => .ok (!xs.isEmpty)
  | .lst xs => .ok (!xs.isEmpty)
  | _ => .fail
mutual
def D.toP : D → PyData
  | .non => .none
  | .bl b => .bool b
  | .int i => .int i
  | .str x => .str x
  | .tup xs => .tuple (D.toPs xs)
  | .lst xs => .list (D.toPs xs)
  | .fn _ => .none
  | .exc _ => .none
def D.toPs : List D → List PyData
  | [] => []
  | d :: ds => d.toP :: D.toPs ds
end
mutual
/-- plain data -/
def D.pl : D → Bool
  | .tup xs => D.pls xs
  | .lst xs => D.pls xs
  | .fn _ => false
  | .exc _ => false
  | _ => true
def D.pls : List D → Bool
  | [] => true
  | d :: ds => d.pl && D.pls ds
end
/-- == -/
def D.eqD (a b : D) : Res Bool := if a.pl = true ∧ b.pl = true ∧ a.toP.canLay0 = true ∧ b.toP.canLay0 = true ∧ min a.toP.depth b.toP.depth ≤ 150 then .ok (PyData.eqv a.toP b.toP) else .fail
def okF (d : D) : Res (Bool × D) := .ok (false, d)
def okB (r : Res Bool) : Res (Bool × D) := match r with
  | .ok b => .ok (false, .bl b)
  | .exc c => .exc c
  | .fail => .fail
def MulOk (i j : Int) : Prop := (-(2 ^ 64) < j ∧ j < 2 ^ 64) ∨ (-(2 ^ 64) < i ∧ i < 2 ^ 64) ∨ i.natAbs.log2 + j.natAbs.log2 < 1000000
instance (i j : Int) : Decidable (MulOk i j) := by unfold MulOk; infer_instance
def opD (o : Operator) (a b : D) : Res (Bool × D) := match o, a, b with
  | .Add, .int i, .int j => okF (.int (i + j))
  | .Sub, .int i, .int j => okF (.int (i - j))
  | .Mult, .int i, .int j => if MulOk i j then okF (.int (i * j)) else .fail
  | .FloorDiv, .int i, .int j => if 0 < j ∧ j.natAbs.log2 < 9000 then okF (.int (i / j)) else .fail
  | .Mod, .int i, .int j => if 0 < j then okF (.int (i % j)) else .fail
  | .Pow, .int i, .int j => if 0 ≤ j ∧ j ≤ 1000000 ∧ i.natAbs < 2 ^ 64 then okF (.int (i ^ j.toNat)) else .fail
  | .Add, .str x, .str y => if x.length + y.length ≤ sizeLine then okF (.str (x ++ y)) else .fail
  | .Add, .lst xs, .lst ys => if xs.length + ys.length ≤ sizeLine then .ok (true, .lst (xs ++ ys)) else .fail
  | .Add, .tup xs, .tup ys => if xs.length + ys.length ≤ sizeLine then okF (.tup (xs ++ ys)) else .fail
  | .Mult, .lst xs, .int k => if -(2 ^ 63) ≤ k ∧ k < 2 ^ 63 ∧ xs.length * k.toNat ≤ sizeLine then .ok (true, .lst (List.replicate k.toNat xs).flatten) else .fail
  | .Mult, .tup xs, .int k => if xs ≠ [] ∧ 2 ≤ k ∧ k ≤ 1000 ∧ xs.length ≤ 1000 then okF (.tup (List.replicate k.toNat xs).flatten) else .fail
  | _, _, _ => .fail
def negD : D → Res (Bool × D)
  | .int i => okF (.int (-i))
  | _ => .fail
def cmpD (o : CmpOp) (a b : D) : Res Bool := match o, a, b with
  | .Lt, .int i, .int j => .ok (decide (i < j))
  | .LtE, .int i, .int j => .ok (decide (i ≤ j))
  | .Gt, .int i, .int j => .ok (decide (j < i))
  | .GtE, .int i, .int j => .ok (decide (j ≤ i))
  | .Eq, a, b => D.eqD a b
  | .NotEq, a, b => (match D.eqD a b with
    | .ok c => .ok (!c)
    | .exc c => .exc c
    | .fail => .fail)
  | .Is, .bl a, .bl b => .ok (decide (a = b))
  | .IsNot, .bl a, .bl b => .ok (!decide (a = b))
  | _, _, _ => .fail
def idxD (a i : D) : Res (Bool × D) := match a, i with
  | .lst xs, .int i => (match atI xs i with
    | some d => okF d
    | none => .fail)
  | .tup xs, .int i => (match atI xs i with
    | some d => okF d
    | none => .fail)
  | .str z, .int i => if z.length ≤ sizeLine then (match atI z.cps.toList i with
    | some c => okF (.str ⟨#[c]⟩)
    | none => .fail) else .fail
  | _, _ => .fail
def cutD (xs : List D) (lo hi : Option Int) : List D := (xs.drop (HT.sIx xs.length 0 lo)).take (HT.sIx xs.length xs.length hi - HT.sIx xs.length 0 lo)
def slcD (a : D) (lo hi : Option Int) : Res (Bool × D) := match a with
  | .lst xs => .ok (true, .lst (cutD xs lo hi))
  | .tup xs => okF (.tup (cutD xs lo hi))
  | .str z => if z.length ≤ sizeLine then okF (.str (cutS z lo hi)) else .fail
  | _ => .fail
def intsOf : List D → Option (List Int)
  | [] => some []
  | .int i :: r => (intsOf r).map (i :: ·)
  | _ => none
def biD (f : Bi) (a : D) : Res (Bool × D) := match f, a with
  | .len, .lst xs => okF (.int xs.length)
  | .len, .tup xs => okF (.int xs.length)
  | .len, .str z => if z.length ≤ sizeLine then okF (.int z.length) else .fail
  | .tuple, .lst xs => okF (.tup xs)
  | .tuple, .tup xs => okF (.tup xs)
  | .list, .lst xs => .ok (true, .lst xs)
  | .list, .tup xs => .ok (true, .lst xs)
  | .sum, .lst xs => (match intsOf xs with
    | some ns => okF (.int ns.sum)
    | none => .fail)
  | .abs, .int i => okF (.int (if i < 0 then -i else i))
  | .int, .int i => okF (.int i)
  | .int, .bl k => okF (.int (if k then 1 else 0))
  | _, _ => .fail
def isiD (a : D) (t : Ty) : Res Bool := match a, t with
  | .fn _, _ => .fail
  | .exc _, _ => .fail
  | .int _, .int => .ok true
  | .bl _, .int => .ok true
  | .bl _, .bool => .ok true
  | .str _, .str => .ok true
  | .tup _, .tuple => .ok true
  | .lst _, .list => .ok true
  | _, _ => .ok false
def itemsD : D → Res (List D)
  | .lst xs => .ok xs
  | .tup xs => .ok xs
  | _ => .fail

/-! ### environments -/
def getO (ρ : En) (i : Nat) : Res (Bool × D) := match ρ[i]? with
  | some (some x) => .ok x
  | _ => .fail
def getF (ρ : En) (i : Nat) : Res (Bool × D) := match ρ[i]? with
  | some (some (false, d)) => .ok (false, d)
  | _ => .fail
def wipeE (ρ : En) : List Nat → En
  | [] => ρ
  | v :: vs => (wipeE ρ vs).set v none
def setE (ρ : En) (i : Nat) (d : D) : En := ρ.set i (some (false, d))
def setEs : List Nat → List D → En → Res En
  | [], [], ρ => .ok ρ
  | i :: is, d :: ds, ρ => setEs is ds (setE ρ i d)
  | _, _, _ => .fail
def bindT (t : Tg) (d : D) (ρ : En) : Res En := match t with
  | .one i => .ok (setE ρ i d)
  | .tup is => (match d with
    | .tup ds => setEs is ds ρ
    | _ => .fail)
def bor (a : Ex) (ρ : En) (r : Res (Bool × D)) : Res D := match a with
  | .var i => sndR (getO ρ i)
  | _ => sndR r
def intR (r : Res D) : Res Int := match r with
  | .ok (.int i) => .ok i
  | .ok _ => .fail
  | .exc c => .exc c
  | .fail => .fail
/-- what may not raise -/
def noX {α : Type} (r : Res α) : Res α := match r with
  | .ok a => .ok a
  | _ => .fail
/-- the items of a comprehension -/
def compL (f : D → Res (Option D)) : List D → Res (List D)
  | [] => .ok []
  | d :: ds => (f d).bind fun o => (compL f ds).bind fun r => .ok (match o with
    | some y => y :: r
    | none => r)

def rngD (i j : Int) : Res (List D) :=
  if -(2 ^ 62) ≤ i ∧ i < 2 ^ 62 ∧ -(2 ^ 62) ≤ j ∧ j < 2 ^ 62 then .ok ((List.range (j - i).toNat).map fun (k : Nat) => D.int (i + (k : Int))) else .fail

/-- what the text's own defs and constants give -/
structure Tb where
  fn : Str → List D → Res (Bool × D)
  gl : Str → Option D

mutual
def ev (T : Tb) : Ex → En → Res (Bool × D)
  | .lit d, _ => okF d
  | .var i, ρ => getF ρ i
  | .gl x, _ => (match T.gl x with
    | some d => okF d
    | none => .fail)
  | .bin o a b, ρ => (bor a ρ (ev T a ρ)).bind fun x => (bor b ρ (ev T b ρ)).bind fun y => opD o x y
  | .neg a, ρ => (bor a ρ (ev T a ρ)).bind negD
  | .cmp o a b, ρ => (bor a ρ (ev T a ρ)).bind fun x => (bor b ρ (ev T b ρ)).bind fun y => okB (cmpD o x y)
  | .chn o p a b c, ρ => (bor a ρ (ev T a ρ)).bind fun x => (bor b ρ (ev T b ρ)).bind fun y => (cmpD o x y).bind fun k =>
      if k = true then (bor c ρ (ev T c ρ)).bind fun z => okB (cmpD p y z) else okF (.bl false)
  | .and a b, ρ => (ev T a ρ).bind fun x => x.2.tru.bind fun k => if k = true then ev T b ρ else .ok x
  | .or a b, ρ => (ev T a ρ).bind fun x => x.2.tru.bind fun k => if k = true then .ok x else ev T b ρ
  | .not a, ρ => (bor a ρ (ev T a ρ)).bind fun x => x.tru.bind fun k => okF (.bl (!k))
  | .ite c a b, ρ => (evT T c ρ).bind fun k => if k = true then ev T a ρ else ev T b ρ
  | .tup es, ρ => (evs T es ρ).bind fun xs => if xs.length ≤ sizeLine then okF (.tup xs) else .fail
  | .lst es, ρ => (evs T es ρ).bind fun xs => if xs.length ≤ sizeLine then .ok (true, .lst xs) else .fail
  | .idx a i, ρ => (bor a ρ (ev T a ρ)).bind fun x => (bor i ρ (ev T i ρ)).bind fun y => idxD x y
  | .slc a lo hi, ρ => (bor a ρ (ev T a ρ)).bind fun x => (evo T lo ρ).bind fun l => (evo T hi ρ).bind fun h => slcD x l h
  | .call f es, ρ => (evs T es ρ).bind fun xs => T.fn f xs
  | .bi f a, ρ => (bor a ρ (ev T a ρ)).bind fun x => biD f x
  | .isi a t, ρ => (bor a ρ (ev T a ρ)).bind fun x => okB (isiD x t)
  | .comp t vs it c e, ρ => (evi T it ρ).bind fun ds => if ds.length ≤ sizeLine then (compL (fun d => noX ((bindT t d (wipeE ρ vs)).bind fun ρ' => (evc T c ρ').bind fun k =>
      if k = true then (ev T e ρ').bind fun y => .ok (some y.2) else .ok none)) ds).bind fun ys => .ok (true, .lst ys) else .fail
/-- a test -/
def evT (T : Tb) : Te → En → Res Bool
  | .val e, ρ => (bor e ρ (ev T e ρ)).bind D.tru
  | .and a b, ρ => (evT T a ρ).bind fun k => if k = true then evT T b ρ else .ok false
  | .or a b, ρ => (evT T a ρ).bind fun k => if k = true then .ok true else evT T b ρ
  | .not a, ρ => (evT T a ρ).bind fun k => .ok (!k)
def evs (T : Tb) : Exs → En → Res (List D)
  | .nil, _ => .ok []
  | .cons e es, ρ => (ev T e ρ).bind fun x => (evs T es ρ).bind fun xs => .ok (x.2 :: xs)
def evo (T : Tb) : Exo → En → Res (Option Int)
  | .none, _ => .ok none
  | .some e, ρ => (intR (bor e ρ (ev T e ρ))).bind fun i => .ok (some i)
/-- a clause's test -/
def evc (T : Tb) : Tes → En → Res Bool
  | .nil, _ => .ok true
  | .one e, ρ => evT T e ρ
/-- what is walked -/
def evi (T : Tb) : Is → En → Res (List D)
  | .seq e, ρ => (sndR (ev T e ρ)).bind itemsD
  | .rng1 hi, ρ => (intR (bor hi ρ (ev T hi ρ))).bind fun j => rngD 0 j
  | .rng2 lo hi, ρ => (intR (bor lo ρ (ev T lo ρ))).bind fun i => (intR (bor hi ρ (ev T hi ρ))).bind fun j => rngD i j
end
end Hf

/-! Hf2: rules of values. -/
namespace PySem
set_option autoImplicit false
/-! ### lists side by side -/
section
variable {α β : Type} {F : α → β → Prop}
theorem Paired.app : ∀ {l₁ l₂ : List α} {m₁ m₂ : List β}, Paired F l₁ m₁ → Paired F l₂ m₂ → Paired F (l₁ ++ l₂) (m₁ ++ m₂)
  | _, _, _, _, .nil, s => s
  | _, _, _, _, .cons r t, s => .cons r (Paired.app t s)
theorem Paired.tk : ∀ {l : List α} {m : List β} (n : Nat), Paired F l m → Paired F (l.take n) (m.take n)
  | _, _, 0, _ => .nil
  | _, _, _ + 1, .nil => .nil
  | _, _, n + 1, .cons r t => .cons r (Paired.tk n t)
theorem Paired.dp : ∀ {l : List α} {m : List β} (n : Nat), Paired F l m → Paired F (l.drop n) (m.drop n)
  | _, _, 0, r => r
  | _, _, _ + 1, .nil => .nil
  | _, _, n + 1, .cons _ t => Paired.dp n t
theorem Paired.rp {l : List α} {m : List β} (h : Paired F l m) : ∀ k : Nat, Paired F (List.replicate k l).flatten (List.replicate k m).flatten
  | 0 => .nil
  | k + 1 => by
    rw [List.replicate_succ, List.replicate_succ, List.flatten_cons, List.flatten_cons]
    exact Paired.app h (Paired.rp h k)
theorem Paired.gt : ∀ {l : List α} {m : List β} {i : Nat} {x : α}, Paired F l m → l[i]? = some x → ∃ u, m[i]? = some u ∧ F x u
  | _, _, _, _, .nil, e => by simp at e
  | _, _, 0, _, .cons r _, e => by simp at e; subst e; exact ⟨_, rfl, r⟩
  | _, _, i + 1, x, .cons _ t, e => by
    obtain ⟨u, h1, h2⟩ := Paired.gt (i := i) (x := x) t (by simpa using e)
    exact ⟨u, by simpa using h1, h2⟩
theorem Paired.st {x : α} {u : β} (r : F x u) : ∀ {l : List α} {m : List β} (i : Nat), Paired F l m → Paired F (l.set i x) (m.set i u)
  | _, _, _, .nil => .nil
  | _, _, 0, .cons _ t => .cons r t
  | _, _, i + 1, .cons q t => .cons q (Paired.st r i t)
theorem Paired.dl {l : List α} {m : List β} (h : Paired F l m) : Paired F l.dropLast m.dropLast := by
  induction h with
  | nil => exact .nil
  | cons r t ih =>
    cases t with
    | nil => exact .nil
    | cons q t' => exact .cons r ih
theorem Paired.emp {l : List α} {m : List β} (h : Paired F l m) : m.isEmpty = l.isEmpty := by
  cases h <;> rfl
end
end PySem

namespace Hf
open PySem PySem.Spec PyProof.Rows L2
set_option autoImplicit false

/-! ### what loose data are -/
section
variable {G : Gm} {H : Hp} {S : Sy} {x : V}
theorem Loo.non (h : Loo G H S .non x) : x = .non := by
  rcases h with h | ⟨_, _, _, _, e, _⟩
  · cases h; rfl
  · cases e
theorem Loo.bl {b : Bool} (h : Loo G H S (.bl b) x) : x = .bl b := by
  rcases h with h | ⟨_, _, _, _, e, _⟩
  · cases h; rfl
  · cases e
theorem Loo.int {i : Int} (h : Loo G H S (.int i) x) : x = .int i := by
  rcases h with h | ⟨_, _, _, _, e, _⟩
  · cases h; rfl
  · cases e
theorem Loo.str {z : Str} (h : Loo G H S (.str z) x) : x = .str z := by
  rcases h with h | ⟨_, _, _, _, e, _⟩
  · cases h; rfl
  · cases e
theorem Loo.lst {K : PySem.W.Frag} (hK : K = G.K) {ds : List D} (h : Loo G H S (.lst ds) x) : ∃ a xs, x = .ref a ∧ SqL K H a xs ∧ Paired (Rep G H S) ds xs := by
  subst hK
  rcases h with h | ⟨a, xs, ds', e1, e, _, e2, e3⟩
  · cases h with
    | lst q p => exact ⟨_, _, rfl, q.sq, p⟩
  · cases e; exact ⟨a, xs, e1, .inl (.inl e2), e3⟩
theorem Loo.tup {ds : List D} (h : Loo G H S (.tup ds) x) : ∃ a xs, x = .ref a ∧ FzT G.K H S a xs ∧ Paired (Rep G H S) ds xs := by
  rcases h with h | ⟨_, _, _, _, e, _⟩
  · cases h with
    | tup q p => exact ⟨_, _, rfl, q, p⟩
  · cases e
theorem Loo.rep_tup {ds : List D} (h : Loo G H S (.tup ds) x) : Rep G H S (.tup ds) x := by
  rcases h with h | ⟨_, _, _, _, e, _⟩
  · exact h
  · cases e
end
theorem sql {K : PySem.W.Frag} {H : Hp} {a : Addr} {xs : List V} (h : Rd H a (.lst xs)) : SqL K H a xs := .inl h
theorem cutD_pair {G : Gm} {H : Hp} {S : Sy} {ds : List D} {xs : List V} (h : Paired (Rep G H S) ds xs) (lo hi : Option Int) : Paired (Rep G H S) (cutD ds lo hi) (cutV xs lo hi) := by
  unfold cutD cutV
  rw [Paired.length h]
  exact Paired.tk _ (Paired.dp _ h)

/-! ### truth -/
theorem tru_rep {G : Gm} {H : Hp} {S : Sy} {d : D} {v : V} {k : Bool} (h : Loo G H S d v) (e : d.tru = .ok k) : TruV G.K v H k := by
  cases d with
  | non => rw [h.non]; cases e; exact rfl
  | bl b => rw [h.bl]; cases e; exact rfl
  | int i => rw [h.int]; cases e; exact rfl
  | str z =>
    rw [h.str]
    have e' : (if z.length ≤ sizeLine then Res.ok ((z.length : Int) != 0) else Res.fail) = Res.ok k := e
    split at e'
    · cases e'; exact ⟨by assumption, rfl⟩
    · cases e'
  | lst ds =>
    obtain ⟨a, xs, rfl, r, p⟩ := h.lst rfl
    cases e
    exact .inl ⟨xs, r, by rw [p.emp]⟩
  | tup ds =>
    obtain ⟨a, xs, rfl, r, p⟩ := h.tup
    cases e
    exact .inr (.inl ⟨xs, r.sq, by rw [p.emp]⟩)
  | fn _ => cases e
  | exc _ => cases e

/-! ### operators -/
def rD (G : Gm) (h : D → D → Res (Bool × D)) : R2 := fun x y H Q => ∃ W S dx dy, Dm H S ∧ Loo G H S dx x ∧ Loo G H S dy y ∧ Post G W H S (h dx dy) Q
section
variable {G : Gm} {W : Str → Hp → Prop} {H : Hp} {S : Sy} {Q : VK}
theorem Post.f {d : D} {v : V} (p : Post G W H S (okF d) Q) (r : Rep G H S d v) : Q v H := p v H S (Gr.refl H S) r
/-- a new list of frozen things -/
theorem Post.new {ds : List D} {xs : List V} (q : Post G W H S (.ok (true, .lst ds)) Q) (dm : Dm H S) (r : Paired (Rep G H S) ds xs) (p : Addr) (hp : H p = none) : Q (.ref p) (upd H p (.lst xs)) :=
  have e : Gr H S (upd H p (.lst xs)) S := Gr.laid hp
  q _ _ S e ⟨p, xs, ds, rfl, rfl, dm.no hp, hp, upd_same, e.reps r⟩
/-- a new tuple -/
theorem Post.newT {ds : List D} {xs : List V} (q : Post G W H S (okF (.tup ds)) Q) (r : Paired (Rep G H S) ds xs) (p : Addr) (hp : H p = none) : Q (.ref p) (upd H p (.tup xs)) :=
  have e : Gr H S (upd H p (.tup xs)) (fun a => S a ∨ a = p) := Gr.laidF hp
  q _ _ _ e (.tup (.inl ⟨.inr rfl, .inl upd_same⟩) (e.reps r))
end
section
variable {X : Cx} {G : Gm}
theorem op_catR : OpR X (binaryOp .Add) (fun x y H Q => ∃ l b xs zs, x = .ref l ∧ y = .ref b ∧ SqL X.K H l xs ∧ SqL X.K H b zs ∧ xs.length + zs.length ≤ sizeLine ∧ ∀ p, H p = none → Q (.ref p) (upd H p (.lst (xs ++ zs)))) := by
  intro pins s σ H x y v u Q I rx ry h
  obtain ⟨l, b, xs, zs, rfl, rfl, hH, hB, hz, q⟩ := h
  cases rx
  cases ry
  obtain ⟨its, r, ⟨⟨cls, dd, data, sl⟩, n, ho, hc, hn, hd⟩, _⟩ := I.list hH
  obtain ⟨its2, r2, ⟨⟨cls2, dd2, data2, sl2⟩, n2, ho2, hc2, hn2, hd2⟩, _⟩ := I.list hB
  simp only at hc hd hc2 hd2 hn hn2
  subst hc hd hc2 hd2 hn hn2
  have hl := r.length
  have hl2 := r2.length
  have e : its.toArray ++ its2.toArray = (its ++ its2).toArray := by simp
  refine concat_meets ⟨_, ho, rfl⟩ ⟨_, ho2, rfl⟩ noFill_list_add seq_list_add PySem.F.slot_list_add PySem.F.entry_list_add (PySem.F.args_list_add_2 _ _) (list_addW l b its.toArray its2.toArray n n2 none none sl sl2 (by rw [List.size_toArray, List.size_toArray]; omega)) ⟨ho, ho2, ?_⟩
  rw [e]
  exact ⟨.ref _, _, I.lnew (t' := s.toks) (r.append r2) (by rw [List.length_append]; omega), rfl, q _ I.fresh⟩
open PySem.AutoSeq1 (wpAny_loadPart') in
theorem list_mulW (l : Addr) (items : Array Value) (n : Nat) (sl : Array (Option Value)) (x : Int) (u : Tok) (hc0 : ¬(!Builtin.List.listFitsIndex x) = true) (hc1 : ¬items.size * x.toNat > (2 ^ 63 - 1) / 8) (hc2 : ¬Builtin.List.listTooLong (items.size * x.toNat) = true)
    (hsz : (List.foldl (fun x1 x2 => x1 ++ x2) #[] (List.replicate (if items.isEmpty = true then 0 else x.toNat) items)).size ≤ sizeLine) :
    Meets (Builtin.«list.__mul__» ⟨[.ref l, .int x u], []⟩) (fun _ R s => s.heap.get? l = some { cls := .type "list", dict := none, data := .seq items n, slots := sl } ∧ R (.ok (.ret (Value.ref s.heap.objs.size))) { s with heap := s.heap.push { cls := Value.type "list", data := Data.seq (List.foldl (fun x1 x2 => x1 ++ x2) #[] (List.replicate (if items.isEmpty = true then 0 else x.toNat) items)) }, toks := s.toks }) :=
  .of_wp fun prog w A R s h => by
    obtain ⟨hp, g, d, tk, os⟩ := s; obtain ⟨hl, h⟩ := h
    have f1 := AutoSeq1.idx_int
    wp_walk using wpAny_loadPart' hl; refine wpAny_ite_false (decide_eq_false (Nat.not_lt.mpr hsz)) ?_; wp_walk using wpAny_loadPart' hl; exact ⟨_, rfl, h⟩
open PySem.AutoSeq1 (wpAny_loadPart') in
theorem int_rmul_listW (a : Int) (t : Tok) (l : Addr) (items : Array Value) (n : Nat) (sl : Array (Option Value)) :
    Meets (Builtin.«int.__rmul__» ⟨[.int a t, .ref l], []⟩) (fun _ R s => s.heap.get? l = some { cls := .type "list", dict := none, data := .seq items n, slots := sl } ∧ R (.ok (.ret Value.notImplemented)) s) :=
  .of_wp fun prog w A R s h => by obtain ⟨hp, g, d, tk, os⟩ := s; obtain ⟨hl, h⟩ := h; wp_walk using wpAny_loadPart' hl; exact ⟨_, rfl, h⟩
/-- list * int -/
theorem op_repR : OpR X (binaryOp .Mult) (fun x y H Q => ∃ l k xs, x = .ref l ∧ y = .int k ∧ SqL X.K H l xs ∧ -(2 ^ 63) ≤ k ∧ k < 2 ^ 63 ∧ xs.length * k.toNat ≤ sizeLine ∧
    ∀ p, H p = none → Q (.ref p) (upd H p (.lst (List.replicate k.toNat xs).flatten))) := by
  intro pins s σ H x y v u Q I rx ry h
  obtain ⟨l, k, xs, rfl, rfl, hH, h1, h2, hz, q⟩ := h
  cases rx
  obtain ⟨t, rfl⟩ := ry
  obtain ⟨its, r, ⟨⟨cls, dd, data, sl⟩, n, e, hc, hn, hd⟩, z⟩ := I.list hH
  simp only at hc hd hn
  subst hc hd hn
  have hl := r.length
  have hlen : its.toArray.size * k.toNat ≤ sizeLine := by rw [List.size_toArray, ← hl]; exact hz
  have hcap : ¬ its.toArray.size * k.toNat > (2 ^ 63 - 1) / 8 := by
    have : (sizeLine : Nat) ≤ (2 ^ 63 - 1) / 8 := by decide
    omega
  have hfit : ¬ (!Builtin.List.listFitsIndex k) = true := by
    rw [fitsIndex_both h1 h2]
    exact Bool.false_ne_true
  have hlong : ¬ Builtin.List.listTooLong (its.toArray.size * k.toNat) = true := by
    rw [notLongL hlen]
    exact Bool.false_ne_true
  have hnew : List.foldl (fun x1 x2 => x1 ++ x2) #[] (List.replicate (if its.toArray.isEmpty = true then 0 else k.toNat) its.toArray) = (List.replicate k.toNat its).flatten.toArray := by
    have f0 : ∀ m : Nat, List.foldl (fun x1 x2 => x1 ++ x2) #[] (List.replicate m its.toArray) = (List.replicate m its).flatten.toArray := fun m => by
      have := foldl_rep its m []
      rw [List.nil_append] at this
      exact this
    rw [f0]
    cases its with
    | nil => simp
    | cons a r' => rw [if_neg (by simp)]
  refine wpAny_binaryOp_repeat_ref (T := "list") (U := "int") (by decide) ⟨_, e, rfl⟩ (fun s' => typeIs_int s' k t) noFill_list_mul F.fills_int_mul F.slot_int_rmul repeat_list F.slot_int_index.lookup
    (call_meets F.slot_int_rmul (typeIs_int s k t) F.entry_int_rmul (F.args_int_rmul_2 _ _) (int_rmul_listW k t l its.toArray n sl)
      ⟨e, rfl, ⟨_, e, rfl⟩, call_meets F.slot_list_mul ⟨_, e, rfl⟩ F.entry_list_mul (F.args_list_mul_2 _ _) (list_mulW l its.toArray n sl k t hfit hcap hlong (by rw [hnew, List.size_toArray, PyProof.Rows.lm_len_rep_flat, Nat.mul_comm, ← hl]; exact hz)) ⟨e, ?_⟩⟩)
  rw [hnew]
  exact ⟨.ref _, _, I.lnew (t' := s.toks) (r.rep k.toNat) (by rw [PyProof.Rows.lm_len_rep_flat, Nat.mul_comm]; exact hz), rfl, q _ I.fresh⟩
/-- two rules, by which of them the data ask -/
theorem op_pick {f : Value → Value → Sem Value} {h : D → D → Res (Bool × D)} (pick : ∀ (pins : List (Addr × Obj)) (s : Shared) (σ : L2.St) (H : Hp) (W : Str → Hp → Prop) (S : Sy) (x y : V) (v u : Value) (Q : VK) (dx dy : D), Inv X pins σ H s → RelV x v → RelV y u → Dm H S → Loo G H S dx x → Loo G H S dy y → Post G W H S (h dx dy) Q →
    wpAny (model X.prog X.w) X.A (f v u) (EP X pins σ Q) X.xe s) : OpR X f (rD G h) := by
  intro pins s σ H x y v u Q I rx ry h
  obtain ⟨W, S, dx, dy, dm, lx, ly, p⟩ := h
  exact pick pins s σ H W S x y v u Q dx dy I rx ry dm lx ly p
theorem Post.ite {W : Str → Hp → Prop} {H : Hp} {S : Sy} {c : Prop} [Decidable c] {r : Res (Bool × D)} {Q : VK} (p : Post G W H S (if c then r else .fail) Q) : c ∧ Post G W H S r Q := by
  by_cases z : c
  · rw [if_pos z] at p; exact ⟨z, p⟩
  · rw [if_neg z] at p; exact p.elim
theorem MulOk.ok {i j : Int} (h : MulOk i j) : IntMulOk i j := by
  rcases h with h | h | h
  · exact CMul.ok (.inr h)
  · exact CMul.ok (.inl h)
  · exact CMulW.ok h
theorem op_mulM : OpR X (binaryOp .Mult) (rI MulOk fun i j => .int (i * j)) := opI fun _ _ _ _ _ _ _ hc q => mul_int q hc.ok
theorem op_binD (hK : X.K = G.K) (o : Operator) : OpR X (binaryOp o) (rD G (opD o)) := by
  refine op_pick fun pins s σ H W S x y v u Q dx dy I rx ry dm lx ly p => ?_
  cases dx with
  | int i =>
    cases dy with
    | int j =>
      have ex := lx.int
      have ey := ly.int
      subst ex ey
      cases o with
      | Add => exact op_add pins s σ H _ _ v u Q I rx ry ⟨i, j, rfl, rfl, p.f (.int _)⟩
      | Sub => exact op_sub pins s σ H _ _ v u Q I rx ry ⟨i, j, rfl, rfl, p.f (.int _)⟩
      | Mult =>
        obtain ⟨c, p⟩ := Post.ite p
        exact op_mulM pins s σ H _ _ v u Q I rx ry ⟨i, j, rfl, rfl, c, p.f (.int _)⟩
      | FloorDiv =>
        obtain ⟨c, p⟩ := Post.ite p
        exact op_fdivW pins s σ H _ _ v u Q I rx ry ⟨i, j, rfl, rfl, c, p.f (.int _)⟩
      | Mod =>
        obtain ⟨c, p⟩ := Post.ite p
        exact op_mod pins s σ H _ _ v u Q I rx ry ⟨i, j, rfl, rfl, c, p.f (.int _)⟩
      | Pow =>
        obtain ⟨c, p⟩ := Post.ite p
        exact op_pow pins s σ H _ _ v u Q I rx ry ⟨i, j, rfl, rfl, c, p.f (.int _)⟩
      | _ => exact False.elim p
    | _ => cases o <;> exact False.elim p
  | str a =>
    cases dy with
    | str b =>
      have ex := lx.str
      have ey := ly.str
      subst ex ey
      cases o with
      | Add =>
        obtain ⟨c, p⟩ := Post.ite p
        exact op_add_str pins s σ H _ _ v u Q I rx ry ⟨a, b, rfl, rfl, c, p.f (.str _)⟩
      | _ => exact False.elim p
    | _ => cases o <;> exact False.elim p
  | lst as =>
    obtain ⟨a, xs, rfl, ra, pa⟩ := lx.lst hK
    cases dy with
    | lst bs =>
      obtain ⟨b, ys, rfl, rb, pb⟩ := ly.lst hK
      cases o with
      | Add =>
        obtain ⟨c, p⟩ := Post.ite p
        exact op_catR pins s σ H _ _ v u Q I rx ry ⟨a, b, xs, ys, rfl, rfl, ra, rb, by rw [← Paired.length pa, ← Paired.length pb]; exact c, fun q hq => p.new dm (pa.app pb) q hq⟩
      | _ => exact False.elim p
    | int k =>
      have ey := ly.int
      subst ey
      cases o with
      | Mult =>
        obtain ⟨⟨c1, c2, c3⟩, p⟩ := Post.ite p
        exact op_repR pins s σ H _ _ v u Q I rx ry ⟨a, k, xs, rfl, rfl, ra, c1, c2, by rw [← Paired.length pa]; exact c3, fun q hq => p.new dm (pa.rp _) q hq⟩
      | _ => exact False.elim p
    | _ => cases o <;> exact False.elim p
  | tup as =>
    obtain ⟨a, xs, rfl, ra, pa⟩ := lx.tup
    cases dy with
    | tup bs =>
      obtain ⟨b, ys, rfl, rb, pb⟩ := ly.tup
      cases o with
      | Add =>
        obtain ⟨c, p⟩ := Post.ite p
        refine op_catA pins s σ H _ _ v u Q I rx ry ⟨a, b, xs, ys, rfl, rfl, by rw [hK]; exact ra.sq, by rw [hK]; exact rb.sq, by rw [← Paired.length pa, ← Paired.length pb]; exact c, fun e => ?_, fun _ e => ?_, fun _ _ q hq => p.newT (pa.app pb) q hq⟩
        · subst e
          cases pa
          exact p.f (.tup rb pb)
        · subst e
          cases pb
          exact p.f (.tup ra (by rw [List.append_nil]; exact pa))
      | _ => exact False.elim p
    | int k =>
      have ey := ly.int
      subst ey
      cases o with
      | Mult =>
        obtain ⟨⟨c1, c2, c3, c4⟩, p⟩ := Post.ite p
        have hn : xs ≠ [] := fun z => by
          subst z
          cases pa
          exact c1 rfl
        exact op_repT pins s σ H _ _ v u Q I rx ry ⟨a, k, xs, rfl, rfl, by rw [hK]; exact ra.sq, hn, c2, c3, by rw [← Paired.length pa]; exact c4, fun q hq => p.newT (pa.rp _) q hq⟩
      | _ => exact False.elim p
    | _ => cases o <;> exact False.elim p
  | _ => cases o <;> cases dy <;> exact False.elim p
end
end Hf

/-! Hf3: comparisons, subscripts, built-in functions, by values. -/
namespace Hf
open PySem PySem.Spec PyProof.Rows L2
set_option autoImplicit false
section
variable {G : Gm} {H : Hp} {S : Sy}
mutual
theorem Rep.dp : ∀ (d : D) (v : V), d.pl = true → Rep G H S d v → Dp G.K H v d.toP
  | .non, _, _, .non => .non
  | .bl _, _, _, .bl b => .bl b
  | .int _, _, _, .int i => .int i
  | .str _, _, _, .str x => .str x
  | .lst ds, _, h, .lst q p => .lst q.sq (Rep.dps ds _ h p)
  | .tup ds, _, h, .tup q p => .tup q.sq (Rep.dps ds _ h p)
  | .fn _, _, h, _ => by cases h
  | .exc _, _, h, _ => by cases h
theorem Rep.dps : ∀ (ds : List D) (vs : List V), D.pls ds = true → Paired (Rep G H S) ds vs → DpAll G.K H vs (D.toPs ds)
  | [], _, _, .nil => .nil
  | d :: ds, _, h, .cons r t => by
    have h' : (d.pl && D.pls ds) = true := h
    rw [Bool.and_eq_true] at h'
    exact .cons (Rep.dp d _ h'.1 r) (Rep.dps ds _ h'.2 t)
end
theorem Loo.dp {d : D} {v : V} (hp : d.pl = true) (h : Loo G H S d v) : Dp G.K H v d.toP := by
  rcases h with h | ⟨a, xs, ds, rfl, rfl, _, e2, e3⟩
  · exact Rep.dp d v hp h
  · exact .lst (sql (.inl e2)) (Rep.dps ds _ hp e3)
end
section
variable {X : Cx} {G : Gm}
theorem Post.okB {W : Str → Hp → Prop} {H : Hp} {S : Sy} {r : Res Bool} {Q : VK} (p : Post G W H S (okB r) Q) (hx : ∀ c, r ≠ .exc c) : ∃ k, r = .ok k ∧ Q (.bl k) H := by
  cases r with
  | ok k => exact ⟨k, rfl, p.f (.bl k)⟩
  | exc c => exact absurd rfl (hx c)
  | fail => exact False.elim p
theorem eqD_ok {a b : D} {k : Bool} (e : D.eqD a b = .ok k) : a.pl = true ∧ b.pl = true ∧ a.toP.canLay0 = true ∧ b.toP.canLay0 = true ∧ min a.toP.depth b.toP.depth ≤ 150 ∧ k = PyData.eqv a.toP b.toP := by
  unfold D.eqD at e
  split at e
  · rename_i h
    cases e
    exact ⟨h.1, h.2.1, h.2.2.1, h.2.2.2.1, h.2.2.2.2, rfl⟩
  · cases e
theorem eqD_nox {a b : D} {c : Str} : D.eqD a b ≠ .exc c := fun e => by
  unfold D.eqD at e
  split at e <;> cases e
theorem cmp_eq (hK : X.K = G.K) (hu : X.A.units + 150 < cLine) {pins : List (Addr × Obj)} {s : Shared} {σ : L2.St} {H : Hp} {S : Sy} {x y : V} {v u : Value} {Q : VK} {dx dy : D} {k : Bool} (I : Inv X pins σ H s) (rx : RelV x v) (ry : RelV y u) (lx : Loo G H S dx x) (ly : Loo G H S dy y)
    (e : D.eqD dx dy = .ok k) : (Q (.bl k) H → wpAny (model X.prog X.w) X.A (compareOp .Eq v u) (EP X pins σ Q) X.xe s) ∧ (Q (.bl (!k)) H → wpAny (model X.prog X.w) X.A (compareOp .NotEq v u) (EP X pins σ Q) X.xe s) := by
  obtain ⟨h1, h2, h3, h4, h5, rfl⟩ := eqD_ok e
  obtain ⟨as, r1⟩ := Dp.reads I dx.toP x v (by rw [hK]; exact lx.dp h1) rx
  obtain ⟨bs, r2⟩ := Dp.reads I dy.toP y u (by rw [hK]; exact ly.dp h2) ry
  have hr : X.A.units + min dx.toP.depth dy.toP.depth < cLine := by omega
  exact ⟨fun q => SeqAt.compareEq_reads r1 r2 h3 h4 hr ⟨.bl _, H, I, rfl, q⟩, fun q => SeqAt.compareNe_reads r1 r2 h3 h4 hr ⟨.bl _, H, I, rfl, q⟩⟩
theorem cmpD_nox {o : CmpOp} {a b : D} {c : Str} : cmpD o a b ≠ .exc c := fun e => by
  cases o with
  | Eq => exact eqD_nox e
  | NotEq =>
    have e' : (match D.eqD a b with | .ok c => Res.ok (!c) | .exc c => .exc c | .fail => .fail) = Res.exc c := e
    cases q : D.eqD a b with
    | ok k => rw [q] at e'; cases e'
    | exc k => exact eqD_nox q
    | fail => rw [q] at e'; cases e'
  | _ => cases a <;> cases b <;> cases e
/-- a comparison gives a truth value -/
theorem op_cmpD (hK : X.K = G.K) (hu : X.A.units + 150 < cLine) (o : CmpOp) : OpR X (compareOp o) (fun x y H Q => ∃ S dx dy k, Loo G H S dx x ∧ Loo G H S dy y ∧ cmpD o dx dy = .ok k ∧ Q (.bl k) H) := by
  intro pins s σ H x y v u Q I rx ry h
  obtain ⟨S, dx, dy, k, lx, ly, e, q⟩ := h
  cases o with
  | Eq => exact (cmp_eq hK hu I rx ry lx ly e).1 q
  | NotEq =>
    have e' : (match D.eqD dx dy with | .ok c => Res.ok (!c) | .exc c => .exc c | .fail => .fail) = Res.ok k := e
    cases z : D.eqD dx dy with
    | ok k' => rw [z] at e'; cases e'; exact (cmp_eq hK hu I rx ry lx ly z).2 q
    | exc k' => rw [z] at e'; cases e'
    | fail => rw [z] at e'; cases e'
  | Lt =>
    cases dx <;> cases dy <;> first | (cases e; done) | skip
    cases lx.int; cases ly.int; cases e
    obtain ⟨t, rfl⟩ := rx; obtain ⟨t', rfl⟩ := ry
    exact lt_int ⟨.bl _, H, I, rfl, q⟩
  | LtE =>
    cases dx <;> cases dy <;> first | (cases e; done) | skip
    cases lx.int; cases ly.int; cases e
    obtain ⟨t, rfl⟩ := rx; obtain ⟨t', rfl⟩ := ry
    exact le_int ⟨.bl _, H, I, rfl, q⟩
  | Gt =>
    cases dx <;> cases dy <;> first | (cases e; done) | skip
    cases lx.int; cases ly.int; cases e
    obtain ⟨t, rfl⟩ := rx; obtain ⟨t', rfl⟩ := ry
    exact gt_int ⟨.bl _, H, I, rfl, q⟩
  | GtE =>
    cases dx <;> cases dy <;> first | (cases e; done) | skip
    cases lx.int; cases ly.int; cases e
    obtain ⟨t, rfl⟩ := rx; obtain ⟨t', rfl⟩ := ry
    exact ge_int ⟨.bl _, H, I, rfl, q⟩
  | Is =>
    cases dx <;> cases dy <;> first | (cases e; done) | skip
    cases lx.bl; cases ly.bl; cases e
    exact op_is_bl pins s σ H _ _ v u Q I rx ry ⟨_, _, rfl, rfl, q⟩
  | IsNot =>
    cases dx <;> cases dy <;> first | (cases e; done) | skip
    cases lx.bl; cases ly.bl; cases e
    exact op_isnot_bl pins s σ H _ _ v u Q I rx ry ⟨_, _, rfl, rfl, q⟩
  | _ => cases dx <;> cases dy <;> cases e

/-! ### subscripts -/
theorem ixN_pair {ds : List D} {xs : List V} {F : D → V → Prop} (p : Paired F ds xs) {i : Int} {d : D} (h : atI ds i = some d) : ∃ v, atI xs i = some v ∧ F d v := by
  unfold atI at h ⊢
  rw [← Paired.length p]
  cases e : ixN ds.length i with
  | none => rw [e] at h; cases h
  | some j =>
    rw [e] at h
    obtain ⟨v, h1, h2⟩ := p.gt h
    exact ⟨v, h1, h2⟩
theorem ix_D (hK : X.K = G.K) : IxR X (rD G idxD) := by
  intro value slice pins s σ H x y v u Q I rx ry h hs
  obtain ⟨W, S, dx, dy, dm, lx, ly, p⟩ := h
  cases dx with
  | lst as =>
    cases dy with
    | int i =>
      obtain ⟨a, xs, rfl, ra, pa⟩ := lx.lst hK
      cases ly.int
      have p' : Post G W H S (match atI as i with | some d => okF d | none => .fail) Q := p
      cases e : atI as i with
      | none => rw [e] at p'; exact p'.elim
      | some d =>
        rw [e] at p'
        obtain ⟨w, h1, h2⟩ := ixN_pair pa e
        exact ix_list value slice pins s σ H _ _ v u Q I rx ry ⟨a, xs, i, w, rfl, rfl, ra, h1, p'.f h2⟩ hs
    | _ => exact False.elim p
  | tup as =>
    cases dy with
    | int i =>
      obtain ⟨a, xs, rfl, ra, pa⟩ := lx.tup
      cases ly.int
      have p' : Post G W H S (match atI as i with | some d => okF d | none => .fail) Q := p
      cases e : atI as i with
      | none => rw [e] at p'; exact p'.elim
      | some d =>
        rw [e] at p'
        obtain ⟨w, h1, h2⟩ := ixN_pair pa e
        exact ix_tup value slice pins s σ H _ _ v u Q I rx ry ⟨a, xs, i, w, rfl, rfl, by rw [hK]; exact ra.sq, h1, p'.f h2⟩ hs
    | _ => exact False.elim p
  | str z =>
    cases dy with
    | int i =>
      cases lx.str
      cases ly.int
      obtain ⟨c, p⟩ := Post.ite p
      have p' : Post G W H S (match atI z.cps.toList i with | some c => okF (.str ⟨#[c]⟩) | none => .fail) Q := p
      cases e : atI z.cps.toList i with
      | none => rw [e] at p'; exact p'.elim
      | some d =>
        rw [e] at p'
        exact ix_str value slice pins s σ H _ _ v u Q I rx ry ⟨z, i, d, rfl, rfl, c, e, p'.f (.str _)⟩ hs
    | _ => exact False.elim p
  | _ => cases dy <;> exact False.elim p
def rSl (G : Gm) : V → Option Int → Option Int → Hp → VK → Prop := fun x lo hi H Q => ∃ W S dx, Dm H S ∧ Loo G H S dx x ∧ Post G W H S (slcD dx lo hi) Q
theorem whole_of {α : Type} {xs : List α} {lo hi : Option Int} (h : HT.sIx xs.length 0 lo = 0 ∧ HT.sIx xs.length xs.length hi = xs.length) : (xs.drop (HT.sIx xs.length 0 lo)).take (HT.sIx xs.length xs.length hi - HT.sIx xs.length 0 lo) = xs := by
  rw [h.1, h.2]
  simp
theorem sl_D (hK : X.K = G.K) : SlR X (rSl G) := by
  intro pins s σ H x v vl vu lo hi sl Q I rx hs pl pu h
  obtain ⟨W, S, dx, dm, lx, p⟩ := h
  cases dx with
  | lst as =>
    obtain ⟨a, xs, rfl, ra, pa⟩ := lx.lst hK
    exact sl_list pins s σ H _ v vl vu lo hi sl Q I rx hs pl pu ⟨a, xs, rfl, ra, fun q hq => p.new dm (cutD_pair pa lo hi) q hq⟩
  | tup as =>
    obtain ⟨a, xs, rfl, ra, pa⟩ := lx.tup
    refine sl_tupA pins s σ H _ v vl vu lo hi sl Q I rx hs pl pu ⟨a, xs, rfl, by rw [hK]; exact ra.sq, fun hw => ?_, fun _ q hq => p.newT (cutD_pair pa lo hi) q hq⟩
    refine p.f (.tup ra ?_)
    have e : cutD as lo hi = as := whole_of (by rw [Paired.length pa]; exact hw)
    rw [e]
    exact pa
  | str z =>
    cases lx.str
    obtain ⟨c, p⟩ := Post.ite p
    exact sl_str pins s σ H _ v vl vu lo hi sl Q I rx hs pl pu ⟨z, rfl, c, p.f (.str _)⟩
  | _ => exact False.elim p

/-! ### built-in functions of one value -/
def rB (G : Gm) (f : D → Res (Bool × D)) : List V → Hp → VK → Prop := fun xs H Q => ∃ W S x dx, xs = [x] ∧ Dm H S ∧ Loo G H S dx x ∧ Post G W H S (f dx) Q
theorem ints_pair {H : Hp} {S : Sy} : ∀ {ds : List D} {xs : List V} {ns : List Int}, Paired (Rep G H S) ds xs → intsOf ds = some ns → xs = ns.map V.int
  | [], _, ns, .nil, e => by cases e; rfl
  | d :: ds, _, ns, .cons r t, e => by
    cases r with
    | int i =>
      have e' : (intsOf ds).map (i :: ·) = some ns := e
      cases q : intsOf ds with
      | none => rw [q] at e'; cases e'
      | some ms =>
        rw [q] at e'
        cases e'
        rw [ints_pair t q]
        rfl
    | _ => cases e
def Bi.fv : Bi → Value
  | .len => .builtin "len"
  | .tuple => .type "tuple"
  | .list => .type "list"
  | .sum => .builtin "sum"
  | .abs => .builtin "abs"
  | .int => .type "int"
theorem call_bi (hK : X.K = G.K) (hc : X.calm = true) (f : Bi) : CallR X f.fv (rB G (biD f)) := by
  intro pins s σ H xs us Q I r h
  obtain ⟨W, S, x, dx, rfl, dm, lx, p⟩ := h
  cases f with
  | len =>
    cases dx with
    | lst as =>
      obtain ⟨a, xs, rfl, ra, pa⟩ := lx.lst hK
      refine call_len pins s σ H _ us Q I r ⟨_, xs.length, rfl, .inl ⟨xs, ra, rfl⟩, ?_⟩
      rw [← Paired.length pa]
      exact p.f (.int _)
    | tup as =>
      obtain ⟨a, xs, rfl, ra, pa⟩ := lx.tup
      refine call_len pins s σ H _ us Q I r ⟨_, xs.length, rfl, .inr ⟨xs, by rw [hK]; exact ra.sq, rfl⟩, ?_⟩
      rw [← Paired.length pa]
      exact p.f (.int _)
    | str z =>
      cases lx.str
      obtain ⟨c, p⟩ := Post.ite p
      exact call_len pins s σ H _ us Q I r ⟨_, z.length, rfl, ⟨c, rfl⟩, p.f (.int _)⟩
    | _ => exact False.elim p
  | tuple =>
    cases dx with
    | lst as =>
      obtain ⟨a, xs, rfl, ra, pa⟩ := lx.lst hK
      exact call_tuple_of pins s σ H _ us Q I r ⟨a, xs, rfl, .inl ⟨ra, fun q hq => p.newT pa q hq⟩⟩
    | tup as =>
      obtain ⟨a, xs, rfl, ra, pa⟩ := lx.tup
      exact call_tuple_of pins s σ H _ us Q I r ⟨a, xs, rfl, .inr ⟨by rw [hK]; exact ra.sq, p.f (.tup ra pa)⟩⟩
    | _ => exact False.elim p
  | list =>
    cases dx with
    | lst as =>
      obtain ⟨a, xs, rfl, ra, pa⟩ := lx.lst hK
      exact call_list_of pins s σ H _ us Q I r ⟨a, xs, rfl, .inl (ra), fun q hq => p.new dm pa q hq⟩
    | tup as =>
      obtain ⟨a, xs, rfl, ra, pa⟩ := lx.tup
      exact call_list_of pins s σ H _ us Q I r ⟨a, xs, rfl, .inr (by rw [hK]; exact ra.sq), fun q hq => p.new dm pa q hq⟩
    | _ => exact False.elim p
  | sum =>
    cases dx with
    | lst as =>
      obtain ⟨a, xs, rfl, ra, pa⟩ := lx.lst hK
      have p' : Post G W H S (match intsOf as with | some ns => okF (.int ns.sum) | none => .fail) Q := p
      cases e : intsOf as with
      | none => rw [e] at p'; exact p'.elim
      | some ns =>
        rw [e] at p'
        have ex := ints_pair pa e
        subst ex
        exact cr_sum hc pins s σ H _ us Q I r ⟨a, ns, rfl, ra, p'.f (.int _)⟩
    | _ => exact False.elim p
  | abs =>
    cases dx with
    | int i =>
      cases lx.int
      exact call_abs pins s σ H _ us Q I r ⟨i, rfl, p.f (.int _)⟩
    | _ => exact False.elim p
  | int =>
    cases dx with
    | int i =>
      cases lx.int
      exact call_int1 pins s σ H _ us Q I r (.inl ⟨i, rfl, p.f (.int _)⟩)
    | bl k =>
      cases lx.bl
      exact call_int1 pins s σ H _ us Q I r (.inr ⟨k, rfl, p.f (.int _)⟩)
    | _ => exact False.elim p

/-! ### isinstance -/
def Ty.nm : Ty → String
  | .int => "int" | .bool => "bool" | .str => "str" | .tuple => "tuple" | .list => "list"
def rI1 (G : Gm) (t : Ty) : List V → Hp → VK → Prop := fun xs H Q => ∃ S x dx k, xs = [x, .ty t.nm] ∧ Loo G H S dx x ∧ isiD dx t = .ok k ∧ Q (.bl k) H
theorem tyx_tup {K : PySem.W.Frag} {H : Hp} {S : Sy} {a : Addr} {xs : List V} (h : FzT K H S a xs) : TyX K H (.ref a) (.type "tuple") := by
  rcases h with ⟨_, h | ⟨o, h⟩⟩ | ⟨o, its, n, h, c, _⟩
  · exact .base (.tup h)
  · exact .fTuple h
  · exact .kTuple h c
theorem tyx_lst {K : PySem.W.Frag} {H : Hp} {a : Addr} {xs : List V} (h : SqL K H a xs) : TyX K H (.ref a) (.type "list") := by
  rcases h with (h | ⟨o, h⟩) | ⟨o, its, n, h, c, _⟩
  · exact .base (.lst h)
  · exact .base (.frz h)
  · exact .kList h c
theorem call_isiD (hK : X.K = G.K) (t : Ty) : CallR X (.builtin "isinstance") (rI1 G t) := by
  intro pins s σ H xs us Q I r h
  obtain ⟨S, x, dx, k, rfl, lx, e, q⟩ := h
  have go : ∀ (a : String), TyX X.K H x (.type a) → kitB a t.nm = some k → wpAny (model X.prog X.w) X.A (call (.builtin "isinstance") us) (EP X pins σ Q) X.xe s := fun a h1 h2 =>
    call_isi pins s σ H _ us Q I r ⟨x, _, .type a, .type t.nm, k, rfl, .ty _, h1, kit_ty h2, q⟩
  cases dx with
  | non => cases lx.non; refine go "NoneType" (.base .non) ?_; cases t <;> cases e <;> decide +kernel
  | bl b => cases lx.bl; refine go "bool" (.base (.bl _)) ?_; cases t <;> cases e <;> decide +kernel
  | int i => cases lx.int; refine go "int" (.base (.int _)) ?_; cases t <;> cases e <;> decide +kernel
  | str z => cases lx.str; refine go "str" (.base (.str _)) ?_; cases t <;> cases e <;> decide +kernel
  | lst as =>
    obtain ⟨a, xs, rfl, ra, pa⟩ := lx.lst hK
    refine go "list" (tyx_lst ra) ?_
    cases t <;> cases e <;> decide +kernel
  | tup as =>
    obtain ⟨a, xs, rfl, ra, pa⟩ := lx.tup
    refine go "tuple" (tyx_tup (by rw [hK]; exact ra)) ?_
    cases t <;> cases e <;> decide +kernel
  | fn _ => cases t <;> cases e
  | exc _ => cases t <;> cases e
end
end Hf

/-! Hf4: readings by data; expressions' rules over them. -/
namespace Hf
open PySem PySem.Spec PyProof.Rows L2
set_option autoImplicit false

abbrev WD := Str → L2.St → Hp → Prop
def PostL (G : Gm) (W : Str → Hp → Prop) (H : Hp) (S : Sy) (r : Res (List D)) (Q : List V → Hp → Prop) : Prop := match r with
  | .ok ds => ∀ vs H' S', Gr H S H' S' → Paired (Rep G H' S') ds vs → Q vs H'
  | .exc c => ∀ H' S', Gr H S H' S' → W c H'
  | .fail => False
def PostV {α : Type} (W : Str → Hp → Prop) (H : Hp) (S : Sy) (r : Res α) (Q : α → Hp → Prop) : Prop := match r with
  | .ok k => ∀ H' S', Gr H S H' S' → Q k H'
  | .exc c => ∀ H' S', Gr H S H' S' → W c H'
  | .fail => False
/-- what is walked -/
structure Wlk (G : Gm) (J : It) (ds : List D) (H : Hp) (S : Sy) : Prop where
  go : ∀ (i : Nat) (H' : Hp) (S' : Sy), Keep H S H' S' → i < ds.length → J.go i H'
  yld : ∀ (i : Nat) (H' : Hp) (S' : Sy) (x : V) (H'' : Hp), Keep H S H' S' → J.yld i H' x H'' → ∀ d, ds[i]? = some d → H'' = H' ∧ Rep G H' S' d x
  stop : ∀ (H' : Hp) (S' : Sy), Keep H S H' S' → J.stop ds.length H'
def PostI (G : Gm) (W : Str → Hp → Prop) (H : Hp) (S : Sy) (r : Res (List D)) (R : It → Hp → Prop) : Prop := match r with
  | .ok ds => ∀ J H' S', Gr H S H' S' → Wlk G J ds H' S' → R J H'
  | .exc c => ∀ H' S', Gr H S H' S' → W c H'
  | .fail => False
section
variable (G : Gm) (W : WD) (H0 : Hp)
def tD (f : En → Res (Bool × D)) : TE := fun σ H Q => ∃ S ρ, REnv G H0 H S σ ρ ∧ Post G (fun c => W c σ) H S (f ρ) Q
def tB (f : En → Res D) : TE := fun σ H Q => ∃ S ρ, REnv G H0 H S σ ρ ∧ PostB G (fun c => W c σ) H S (f ρ) Q
def tF (f : En → Res D) : TE := fun σ H Q => ∃ S ρ, REnv G H0 H S σ ρ ∧ PostF G (fun c => W c σ) H S (f ρ) Q
def tL (f : En → Res (List D)) : TA := fun σ H Q => ∃ S ρ, REnv G H0 H S σ ρ ∧ PostL G (fun c => W c σ) H S (f ρ) Q
def tT (f : En → Res Bool) : TT := fun σ H Q => ∃ S ρ, REnv G H0 H S σ ρ ∧ PostV (fun c => W c σ) H S (f ρ) Q
def tO (f : En → Res (Option Int)) : TO := fun σ H Q => ∃ S ρ, REnv G H0 H S σ ρ ∧ PostV (fun c => W c σ) H S (f ρ) Q
def tI (f : En → Res (List D)) : TI := fun σ H R => ∃ S ρ, REnv G H0 H S σ ρ ∧ PostI G (fun c => W c σ) H S (f ρ) R
end
section
variable {X : Cx} {e : Expr}
theorem _root_.L2.PE.im {t t' : TE} (h : PE X e t) (i : ∀ σ H Q, t' σ H Q → t σ H Q) : PE X e t' := ⟨fun pins s σ H Q I q => h.run pins s σ H Q I (i σ H Q q)⟩
theorem _root_.L2.PT.im {t t' : TT} (h : PT X e t) (i : ∀ σ H Q, t' σ H Q → t σ H Q) : PT X e t' := ⟨fun pins s σ H Q I q => h.run pins s σ H Q I (i σ H Q q)⟩
theorem _root_.L2.PW.im {t t' : TT} (h : PW X e t) (i : ∀ σ H Q, t' σ H Q → t σ H Q) : PW X e t' := ⟨fun w pins s σ H Q I q => h.run w pins s σ H Q I (i σ H Q q)⟩
theorem _root_.L2.PA.im {es : List Expr} {t t' : TA} (h : PA X es t) (i : ∀ σ H Q, t' σ H Q → t σ H Q) : PA X es t' := ⟨fun pos pins s σ H Q I q => h.run pos pins s σ H Q I (i σ H Q q)⟩
theorem _root_.L2.PI.im {tg : Expr} {t t' : TI} (h : PI X tg e t) (i : ∀ σ H Q, t' σ H Q → t σ H Q) : PI X tg e t' := ⟨fun pins s σ H Q I q => h.run pins s σ H Q I (i σ H Q q)⟩
end

/-! ### one step behind another -/
section
variable {G : Gm} {W : Str → Hp → Prop} {H : Hp} {S : Sy} {β : Type} {Z : Res β → Prop}
/-- what a wish about a result allows to read off a first step -/
structure Rd1 (W : Str → Hp → Prop) (H : Hp) (S : Sy) {β : Type} (Z : Res β → Prop) : Prop where
  f : Z .fail → False
  x : ∀ c, Z (.exc c) → ∀ H' S', Gr H S H' S' → W c H'
theorem rdD {Q : VK} : Rd1 W H S (fun r => Post G W H S r Q) := ⟨fun h => h, fun _ h => h⟩
theorem rdB {Q : VK} : Rd1 W H S (fun r => PostB G W H S r Q) := ⟨fun h => h, fun _ h => h⟩
theorem rdF {Q : VK} : Rd1 W H S (fun r => PostF G W H S r Q) := ⟨fun h => h, fun _ h => h⟩
theorem rdL {Q : List V → Hp → Prop} : Rd1 W H S (fun r => PostL G W H S r Q) := ⟨fun h => h, fun _ h => h⟩
theorem rdV {α : Type} {Q : α → Hp → Prop} : Rd1 W H S (fun r => PostV W H S r Q) := ⟨fun h => h, fun _ h => h⟩
theorem rdI {R : It → Hp → Prop} : Rd1 W H S (fun r => PostI G W H S r R) := ⟨fun h => h, fun _ h => h⟩
variable {α : Type}
theorem mkD (rd : Rd1 W H S Z) {r : Res (Bool × D)} {k : Bool × D → Res β} {Q : VK} (z : Z (r.bind k)) (ok : ∀ b d, Z (k (b, d)) → ∀ v H' S', Gr H S H' S' → RepO G H H' S' b d v → Q v H') : Post G W H S r Q := by
  cases r with
  | ok x => exact ok x.1 x.2 z
  | exc c => exact rd.x c z
  | fail => exact rd.f z
theorem mkB (rd : Rd1 W H S Z) {r : Res D} {k : D → Res β} {Q : VK} (z : Z (r.bind k)) (ok : ∀ d, Z (k d) → ∀ v H' S', Gr H S H' S' → Loo G H' S' d v → Q v H') : PostB G W H S r Q := by
  cases r with
  | ok x => exact ok x z
  | exc c => exact rd.x c z
  | fail => exact rd.f z
theorem mkF (rd : Rd1 W H S Z) {r : Res D} {k : D → Res β} {Q : VK} (z : Z (r.bind k)) (ok : ∀ d, Z (k d) → ∀ v H' S', Gr H S H' S' → Rep G H' S' d v → Q v H') : PostF G W H S r Q := by
  cases r with
  | ok x => exact ok x z
  | exc c => exact rd.x c z
  | fail => exact rd.f z
theorem mkL (rd : Rd1 W H S Z) {r : Res (List D)} {k : List D → Res β} {Q : List V → Hp → Prop} (z : Z (r.bind k)) (ok : ∀ ds, Z (k ds) → ∀ vs H' S', Gr H S H' S' → Paired (Rep G H' S') ds vs → Q vs H') : PostL G W H S r Q := by
  cases r with
  | ok x => exact ok x z
  | exc c => exact rd.x c z
  | fail => exact rd.f z
theorem mkV (rd : Rd1 W H S Z) {r : Res α} {k : α → Res β} {Q : α → Hp → Prop} (z : Z (r.bind k)) (ok : ∀ a, Z (k a) → ∀ H' S', Gr H S H' S' → Q a H') : PostV W H S r Q := by
  cases r with
  | ok x => exact ok x z
  | exc c => exact rd.x c z
  | fail => exact rd.f z
theorem mkI (rd : Rd1 W H S Z) {r : Res (List D)} {k : List D → Res β} {R : It → Hp → Prop} (z : Z (r.bind k)) (ok : ∀ ds, Z (k ds) → ∀ J H' S', Gr H S H' S' → Wlk G J ds H' S' → R J H') : PostI G W H S r R := by
  cases r with
  | ok x => exact ok x z
  | exc c => exact rd.x c z
  | fail => exact rd.f z
theorem PostB.gr {r : Res D} {Q : VK} {H2 : Hp} {S2 : Sy} (e : Gr H S H2 S2) (h : PostB G W H S r Q) : PostB G W H2 S2 r Q := by
  cases r with
  | fail => exact h
  | exc c => exact fun H' S' e' => h H' S' (e.trans e')
  | ok d => exact fun v H' S' e' => h v H' S' (e.trans e')
theorem PostL.gr {r : Res (List D)} {Q : List V → Hp → Prop} {H2 : Hp} {S2 : Sy} (e : Gr H S H2 S2) (h : PostL G W H S r Q) : PostL G W H2 S2 r Q := by
  cases r with
  | fail => exact h
  | exc c => exact fun H' S' e' => h H' S' (e.trans e')
  | ok d => exact fun v H' S' e' => h v H' S' (e.trans e')
theorem PostV.gr {α : Type} {r : Res α} {Q : α → Hp → Prop} {H2 : Hp} {S2 : Sy} (e : Gr H S H2 S2) (h : PostV W H S r Q) : PostV W H2 S2 r Q := by
  cases r with
  | fail => exact h
  | exc c => exact fun H' S' e' => h H' S' (e.trans e')
  | ok d => exact fun H' S' e' => h H' S' (e.trans e')
theorem PostI.gr {r : Res (List D)} {R : It → Hp → Prop} {H2 : Hp} {S2 : Sy} (e : Gr H S H2 S2) (h : PostI G W H S r R) : PostI G W H2 S2 r R := by
  cases r with
  | fail => exact h
  | exc c => exact fun H' S' e' => h H' S' (e.trans e')
  | ok d => exact fun v H' S' e' => h v H' S' (e.trans e')
theorem Post.weak {W2 : Str → Hp → Prop} {r : Res (Bool × D)} {Q : VK} (i : ∀ c H', W c H' → W2 c H') (h : Post G W H S r Q) : Post G W2 H S r Q := by
  cases r with
  | fail => exact h
  | exc c => exact fun H' S' e => i c H' (h H' S' e)
  | ok x => exact h
/-- a result read loosely, frozen -/
theorem Post.ofB {r : Res (Bool × D)} {Q : VK} (h : PostB G W H S (sndR r) Q) : Post G W H S r Q := by
  cases r with
  | fail => exact h
  | exc c => exact h
  | ok x => exact fun v H' S' e q => h v H' S' e q.loo
theorem Post.ofF {r : Res (Bool × D)} {Q : VK} (h : PostF G W H S (sndR r) Q) : Post G W H S r Q := by
  cases r with
  | fail => exact h
  | exc c => exact h
  | ok x =>
    intro v H' S' e q
    obtain ⟨S'', e2, _, q2⟩ := q.fz e
    exact h v H' S'' e2 q2
end
section
variable {G : Gm} {W : WD} {H0 : Hp} {X : Cx} {e : Expr}
theorem pe_B {f : En → Res (Bool × D)} (h : PE X e (tD G W H0 f)) : PE X e (tB G W H0 fun ρ => sndR (f ρ)) := h.im fun _ _ _ ⟨S, ρ, R, p⟩ => ⟨S, ρ, R, .ofB p⟩
theorem pe_F {f : En → Res (Bool × D)} (h : PE X e (tD G W H0 f)) : PE X e (tF G W H0 fun ρ => sndR (f ρ)) := h.im fun _ _ _ ⟨S, ρ, R, p⟩ => ⟨S, ρ, R, .ofF p⟩

/-! ### names -/
theorem pe_getF {i : Nat} (h : PE X e (tVar i)) : PE X e (tD G W H0 fun ρ => getF ρ i) := h.im fun σ H Q ⟨S, ρ, R, p⟩ => by
  unfold getF at p
  dsimp only at p
  split at p
  · rename_i d q
    obtain ⟨v, h1, h2⟩ := R.slot i false d q
    exact ⟨v, h1, p v H S (Gr.refl H S) h2⟩
  · exact p.elim
theorem pe_getO {i : Nat} (h : PE X e (tVar i)) : PE X e (tB G W H0 fun ρ => sndR (getO ρ i)) := h.im fun σ H Q ⟨S, ρ, R, p⟩ => by
  unfold getO at p
  dsimp only at p
  split at p
  · rename_i x q
    obtain ⟨v, h1, h2⟩ := R.slot i x.1 x.2 q
    exact ⟨v, h1, p v H S (Gr.refl H S) h2.loo⟩
  · exact p.elim
theorem pe_lit {d : D} {v : V} (h : PE X e (tC v)) (r : ∀ H S, Rep G H S d v) : PE X e (tD G W H0 fun _ => okF d) := h.im fun σ H Q ⟨S, ρ, R, p⟩ => p v H S (Gr.refl H S) (r H S)

/-! ### two, three values -/
variable {a b c : Expr} {fa fb fc : En → Res D} {pos : Pos}
theorem t2 {r : R2} {β : Type} {h : D → D → Res (Bool × D)} {σ : L2.St} {H : Hp} {Q : VK}
    (hr : ∀ x y H' S' dx dy, Dm H' S' → Loo G H' S' dx x → Loo G H' S' dy y → Post G (fun c => W c σ) H' S' (h dx dy) Q → r x y H' Q)
    (p : tD G W H0 (fun ρ => (fa ρ).bind fun x => (fb ρ).bind fun y => h x y) σ H Q) : tOp r (tB G W H0 fa) (tB G W H0 fb) σ H Q := by
  obtain ⟨S, ρ, R, p⟩ := p
  refine ⟨S, ρ, R, mkB rdD p fun dx p v H1 S1 e1 l1 => ⟨S1, ρ, R.gr e1, ?_⟩⟩
  have p1 := p.gr e1
  refine mkB rdD p1 fun dy p u H2 S2 e2 l2 => ?_
  exact hr v u H2 S2 dx dy ((R.gr e1).gr e2).dom (l1.ex e2) l2 (p.gr e2)
theorem pe_bin (hK : X.K = G.K) {o : Operator} (ha : PE X a (tB G W H0 fa)) (hb : PE X b (tB G W H0 fb)) : PE X (.BinOp a o b pos) (tD G W H0 fun ρ => (fa ρ).bind fun x => (fb ρ).bind fun y => opD o x y) :=
  (pe_op (op_binD hK o) ha hb).im fun σ H Q p => t2 (β := D) (fun x y H' S' dx dy dm lx ly q => ⟨_, S', dx, dy, dm, lx, ly, q⟩) p
theorem pe_ng (ha : PE X a (tB G W H0 fa)) : PE X (.UnaryOp .USub a pos) (tD G W H0 fun ρ => (fa ρ).bind negD) := (pe_un un_neg ha).im fun σ H Q ⟨S, ρ, R, p⟩ => by
  refine ⟨S, ρ, R, mkB rdD p fun d p v H1 S1 e1 l1 => ?_⟩
  cases d with
  | int i => exact ⟨i, l1.int, (p.gr e1).f (.int _)⟩
  | _ => exact False.elim p
abbrev rCmp (G : Gm) (o : CmpOp) : R2 := fun x y H Q => ∃ S dx dy k, Loo G H S dx x ∧ Loo G H S dy y ∧ cmpD o dx dy = .ok k ∧ Q (.bl k) H
theorem pe_cm (hK : X.K = G.K) (hu : X.A.units + 150 < cLine) {o : CmpOp} (hm : behindInMarks o b = false) (ha : PE X a (tB G W H0 fa)) (hb : PE X b (tB G W H0 fb)) :
    PE X (.Compare a [o] [b] pos) (tD G W H0 fun ρ => (fa ρ).bind fun x => (fb ρ).bind fun y => okB (cmpD o x y)) :=
  (pe_cmpR (op_cmpD hK hu o) ha hb hm).im fun σ H Q p => t2 (β := D) (fun x y H' S' dx dy dm lx ly q => by
    obtain ⟨k, e, q⟩ := q.okB fun _ => cmpD_nox
    exact ⟨S', dx, dy, k, lx, ly, e, q⟩) p
theorem pt_cm (hK : X.K = G.K) (hu : X.A.units + 150 < cLine) {o : CmpOp} (hm : behindInMarks o b = false) (ha : PE X a (tB G W H0 fa)) (hb : PE X b (tB G W H0 fb)) :
    PT X (.Compare a [o] [b] pos) (tT G W H0 fun ρ => (fa ρ).bind fun x => (fb ρ).bind fun y => cmpD o x y) :=
  (pt_cmpR (op_cmpD hK hu o) ha hb hm).im fun σ H Q ⟨S, ρ, R, p⟩ => by
    refine ⟨S, ρ, R, mkB rdV p fun dx p v H1 S1 e1 l1 => ⟨S1, ρ, R.gr e1, mkB rdV (p.gr e1) fun dy p u H2 S2 e2 l2 => ?_⟩⟩
    cases z : cmpD o dx dy with
    | fail => rw [z] at p; exact p.elim
    | exc k => exact absurd z cmpD_nox
    | ok k =>
      rw [z] at p
      exact ⟨S2, dx, dy, k, l1.ex e2, l2, z, k, rfl, p H2 S2 e2⟩
theorem pe_ch (hK : X.K = G.K) (hu : X.A.units + 150 < cLine) {o o' : CmpOp} (hm : lastMarks [o, o'] [b, c] = false) (ha : PE X a (tB G W H0 fa)) (hb : PE X b (tB G W H0 fb)) (hc : PE X c (tB G W H0 fc)) :
    PE X (.Compare a [o, o'] [b, c] pos) (tD G W H0 fun ρ => (fa ρ).bind fun x => (fb ρ).bind fun y => (cmpD o x y).bind fun k => if k = true then (fc ρ).bind fun z => okB (cmpD o' y z) else okF (.bl false)) :=
  (pe_chain (op_cmpD hK hu o) (op_cmpD hK hu o') ha hb hc hm).im fun σ H Q ⟨S, ρ, R, p⟩ => by
    refine ⟨S, ρ, R, mkB rdD p fun dx p v H1 S1 e1 l1 => ⟨S1, ρ, R.gr e1, mkB rdD (p.gr e1) fun dy p u H2 S2 e2 l2 => ?_⟩⟩
    have p := p.gr e2
    cases z : cmpD o dx dy with
    | fail => rw [z] at p; exact p.elim
    | exc k => exact absurd z cmpD_nox
    | ok k =>
      rw [z] at p
      refine ⟨S2, dx, dy, k, l1.ex e2, l2, z, k, rfl, ?_⟩
      cases k with
      | false => exact p.f (.bl false)
      | true =>
        refine ⟨S2, ρ, (R.gr e1).gr e2, mkB rdD (show Post G _ H2 S2 ((fc ρ).bind fun z => okB (cmpD o' dy z)) Q from p) fun dz p w H3 S3 e3 l3 => ?_⟩
        obtain ⟨k, e, q⟩ := (p.gr e3).okB fun _ => cmpD_nox
        exact ⟨S3, dy, dz, k, l2.ex e3, l3, e, q⟩
theorem pt_ch (hK : X.K = G.K) (hu : X.A.units + 150 < cLine) {o o' : CmpOp} (hm : lastMarks [o, o'] [b, c] = false) (ha : PE X a (tB G W H0 fa)) (hb : PE X b (tB G W H0 fb)) (hc : PE X c (tB G W H0 fc)) :
    PT X (.Compare a [o, o'] [b, c] pos) (tT G W H0 fun ρ => (fa ρ).bind fun x => (fb ρ).bind fun y => (cmpD o x y).bind fun k => if k = true then (fc ρ).bind fun z => cmpD o' y z else .ok false) :=
  (pt_chain (op_cmpD hK hu o) (op_cmpD hK hu o') ha hb hc hm).im fun σ H Q ⟨S, ρ, R, p⟩ => by
    refine ⟨S, ρ, R, mkB rdV p fun dx p v H1 S1 e1 l1 => ⟨S1, ρ, R.gr e1, mkB rdV (p.gr e1) fun dy p u H2 S2 e2 l2 => ?_⟩⟩
    have p := p.gr e2
    cases z : cmpD o dx dy with
    | fail => rw [z] at p; exact p.elim
    | exc k => exact absurd z cmpD_nox
    | ok k =>
      rw [z] at p
      refine ⟨S2, dx, dy, k, l1.ex e2, l2, z, k, rfl, ?_⟩
      cases k with
      | false => exact ⟨false, rfl, p H2 S2 (Gr.refl _ _)⟩
      | true =>
        refine ⟨S2, ρ, (R.gr e1).gr e2, mkB rdV (show PostV _ H2 S2 ((fc ρ).bind fun z => cmpD o' dy z) Q from p) fun dz p w H3 S3 e3 l3 => ?_⟩
        cases z' : cmpD o' dy dz with
        | fail => rw [z'] at p; exact p.elim
        | exc k => exact absurd z' cmpD_nox
        | ok k =>
          rw [z'] at p
          exact ⟨S3, dy, dz, k, l2.ex e3, l3, z', k, rfl, p H3 S3 e3⟩

/-! ### and, or, not, by truth -/
variable {rest : List Expr} {ga gb : En → Res (Bool × D)}
theorem truK (hK : X.K = G.K) {H : Hp} {S : Sy} {d : D} {v : V} {k : Bool} (l : Loo G H S d v) (e : d.tru = .ok k) : TruV X.K v H k := by
  rw [hK]; exact tru_rep l e
theorem tru_nox {d : D} {c : Str} : d.tru ≠ .exc c := fun e => by
  cases d with
  | str z =>
    have e' : (if z.length ≤ sizeLine then Res.ok ((z.length : Int) != 0) else Res.fail) = Res.exc c := e
    split at e' <;> cases e'
  | _ => cases e
theorem pe_an (hK : X.K = G.K) (ha : PE X a (tD G W H0 ga)) (hb : PE X (.BoolOp .And (b :: rest) pos) (tD G W H0 gb)) : PE X (.BoolOp .And (a :: b :: rest) pos) (tD G W H0 fun ρ => (ga ρ).bind fun x => x.2.tru.bind fun k => if k = true then gb ρ else .ok x) :=
  (pe_andT ha hb).im fun σ H Q ⟨S, ρ, R, p⟩ => by
    refine ⟨S, ρ, R, mkD rdD p fun bo d p v H1 S1 e1 r1 => ?_⟩
    cases z : d.tru with
    | fail => rw [show (bo, d).2.tru = d.tru from rfl, z] at p; exact p.elim
    | exc k => exact absurd z tru_nox
    | ok k =>
      rw [show (bo, d).2.tru = d.tru from rfl, z] at p
      refine ⟨k, truK hK r1.loo z, ?_⟩
      cases k with
      | false => exact p v H1 S1 e1 r1
      | true => exact ⟨S1, ρ, R.gr e1, Post.gr e1 p⟩
theorem pe_o (hK : X.K = G.K) (ha : PE X a (tD G W H0 ga)) (hb : PE X (.BoolOp .Or (b :: rest) pos) (tD G W H0 gb)) : PE X (.BoolOp .Or (a :: b :: rest) pos) (tD G W H0 fun ρ => (ga ρ).bind fun x => x.2.tru.bind fun k => if k = true then .ok x else gb ρ) :=
  (pe_orT ha hb).im fun σ H Q ⟨S, ρ, R, p⟩ => by
    refine ⟨S, ρ, R, mkD rdD p fun bo d p v H1 S1 e1 r1 => ?_⟩
    cases z : d.tru with
    | fail => rw [show (bo, d).2.tru = d.tru from rfl, z] at p; exact p.elim
    | exc k => exact absurd z tru_nox
    | ok k =>
      rw [show (bo, d).2.tru = d.tru from rfl, z] at p
      refine ⟨k, truK hK r1.loo z, ?_⟩
      cases k with
      | true => exact p v H1 S1 e1 r1
      | false => exact ⟨S1, ρ, R.gr e1, Post.gr e1 p⟩
theorem pe_no (hK : X.K = G.K) (ha : PE X a (tB G W H0 fa)) : PE X (.UnaryOp .Not a pos) (tD G W H0 fun ρ => (fa ρ).bind fun x => x.tru.bind fun k => okF (.bl (!k))) :=
  (pe_notT ha).im fun σ H Q ⟨S, ρ, R, p⟩ => by
    refine ⟨S, ρ, R, mkB rdD p fun d p v H1 S1 e1 l1 => ?_⟩
    cases z : d.tru with
    | fail => rw [z] at p; exact p.elim
    | exc k => exact absurd z tru_nox
    | ok k =>
      rw [z] at p
      exact ⟨k, truK hK l1 z, (Post.gr e1 p).f (.bl _)⟩
theorem pe_if {tc : En → Res Bool} (hc : PT X c (tT G W H0 tc)) (ha : PE X a (tD G W H0 ga)) (hb : PE X b (tD G W H0 gb)) : PE X (.IfExp c a b pos) (tD G W H0 fun ρ => (tc ρ).bind fun k => if k = true then ga ρ else gb ρ) :=
  (pe_ifExp hc ha hb).im fun σ H Q ⟨S, ρ, R, p⟩ => by
    refine ⟨S, ρ, R, mkV rdD p fun k p H1 S1 e1 => ?_⟩
    cases k with
    | true => exact ⟨S1, ρ, R.gr e1, Post.gr e1 p⟩
    | false => exact ⟨S1, ρ, R.gr e1, Post.gr e1 p⟩

/-! ### tests -/
variable {ta tb : En → Res Bool}
theorem pt_tr (hK : X.K = G.K) (ha : PE X a (tB G W H0 fa)) (he : ∀ whole, isTrue a X.env whole = (do let v ← whole; standAt a.pos; holding [v] (truthy v))) : PT X a (tT G W H0 fun ρ => (fa ρ).bind D.tru) :=
  (pt_truth ha he).im fun σ H Q ⟨S, ρ, R, p⟩ => by
    refine ⟨S, ρ, R, mkB rdV p fun d p v H1 S1 e1 l1 => ?_⟩
    cases z : d.tru with
    | fail => rw [z] at p; exact p.elim
    | exc k => exact absurd z tru_nox
    | ok k =>
      rw [z] at p
      exact ⟨k, truK hK l1 z, p H1 S1 e1⟩
theorem pw_an (ha : PT X a (tT G W H0 ta)) (hb : PW X (.BoolOp .And (b :: rest) pos) (tT G W H0 tb)) : PW X (.BoolOp .And (a :: b :: rest) pos) (tT G W H0 fun ρ => (ta ρ).bind fun k => if k = true then tb ρ else .ok false) :=
  (pw_and ha hb).im fun σ H Q ⟨S, ρ, R, p⟩ => by
    refine ⟨S, ρ, R, mkV rdV p fun k p H1 S1 e1 => ?_⟩
    cases k with
    | true => exact ⟨S1, ρ, R.gr e1, PostV.gr e1 p⟩
    | false => exact p H1 S1 e1
theorem pw_o (ha : PT X a (tT G W H0 ta)) (hb : PW X (.BoolOp .Or (b :: rest) pos) (tT G W H0 tb)) : PW X (.BoolOp .Or (a :: b :: rest) pos) (tT G W H0 fun ρ => (ta ρ).bind fun k => if k = true then .ok true else tb ρ) :=
  (pw_or ha hb).im fun σ H Q ⟨S, ρ, R, p⟩ => by
    refine ⟨S, ρ, R, mkV rdV p fun k p H1 S1 e1 => ?_⟩
    cases k with
    | true => exact p H1 S1 e1
    | false => exact ⟨S1, ρ, R.gr e1, PostV.gr e1 p⟩
theorem pt_no (ha : PT X a (tT G W H0 ta)) : PT X (.UnaryOp .Not a pos) (tT G W H0 fun ρ => (ta ρ).bind fun k => .ok (!k)) :=
  (pt_not ha).im fun σ H Q ⟨S, ρ, R, p⟩ => ⟨S, ρ, R, mkV rdV p fun k p H1 S1 e1 => p H1 S1 e1⟩

/-! ### displays, subscripts, calls -/
variable {es : List Expr} {fs : En → Res (List D)}
theorem pa_ni : PA X [] (tL G W H0 fun _ => .ok []) := pa_nil.im fun σ H Q ⟨S, ρ, R, p⟩ => p [] H S (Gr.refl _ _) .nil
theorem pa_co (ha : PE X a (tD G W H0 ga)) (hr : PA X es (tL G W H0 fs)) (hs : starEach (a :: es) X.env = (false, eval a X.env) :: starEach es X.env) : PA X (a :: es) (tL G W H0 fun ρ => (ga ρ).bind fun x => (fs ρ).bind fun xs => .ok (x.2 :: xs)) :=
  (pa_cons ha hr hs).im fun σ H Q ⟨S, ρ, R, p⟩ => by
    refine ⟨S, ρ, R, mkD rdL p fun bo d p v H1 S1 e1 r1 => ?_⟩
    obtain ⟨S2, e2, k2, r2⟩ := r1.fz e1
    refine ⟨S2, ρ, R.gr e2, mkL rdL (p.gr e2) fun ds p vs H3 S3 e3 r3 => ?_⟩
    exact p (v :: vs) H3 S3 e3 (.cons (e3.rep r2) r3)
theorem pe_tu {k : Nat} (h : PA X es (tL G W H0 fs)) : PE X (.Tuple es k pos) (tD G W H0 fun ρ => (fs ρ).bind fun xs => if xs.length ≤ sizeLine then okF (.tup xs) else .fail) :=
  (pe_tup h).im fun σ H Q ⟨S, ρ, R, p⟩ => by
    refine ⟨S, ρ, R, mkL rdD p fun ds p vs H1 S1 e1 r1 => ?_⟩
    obtain ⟨c, p⟩ := Post.ite p
    exact ⟨by rw [← Paired.length r1]; exact c, fun q hq => (Post.gr e1 p).newT r1 q hq⟩
theorem pe_li (h : PA X es (tL G W H0 fs)) : PE X (.List es pos) (tD G W H0 fun ρ => (fs ρ).bind fun xs => if xs.length ≤ sizeLine then .ok (true, .lst xs) else .fail) :=
  (pe_lst h).im fun σ H Q ⟨S, ρ, R, p⟩ => by
    refine ⟨S, ρ, R, mkL rdD p fun ds p vs H1 S1 e1 r1 => ?_⟩
    obtain ⟨c, p⟩ := Post.ite p
    exact ⟨by rw [← Paired.length r1]; exact c, fun q hq => (Post.gr e1 p).new (R.gr e1).dom r1 q hq⟩
theorem pe_id (hK : X.K = G.K) (hs : PlainIx b) (ha : PE X a (tB G W H0 fa)) (hb : PE X b (tB G W H0 fb)) : PE X (.Subscript a b pos) (tD G W H0 fun ρ => (fa ρ).bind fun x => (fb ρ).bind fun y => idxD x y) :=
  (pe_ix (ix_D hK) ha hb hs).im fun σ H Q p => t2 (β := D) (fun x y H' S' dx dy dm lx ly q => ⟨_, S', dx, dy, dm, lx, ly, q⟩) p
theorem po_no : PO X none (tO G W H0 fun _ => .ok none) := ⟨fun pins s σ H Q I ⟨S, ρ, R, p⟩ => po_none.run pins s σ H Q I (p H S (Gr.refl _ _))⟩
theorem po_so (h : PE X e (tB G W H0 fa)) : PO X (some e) (tO G W H0 fun ρ => (intR (fa ρ)).bind fun i => .ok (some i)) := ⟨fun pins s σ H Q I ⟨S, ρ, R, p⟩ => (po_some h).run pins s σ H Q I ⟨S, ρ, R, by
  dsimp only at p
  cases z : fa ρ with
  | fail => rw [z] at p; exact p.elim
  | exc c => rw [z] at p; exact p
  | ok d =>
    rw [z] at p
    cases d with
    | int i => exact fun v H1 S1 e1 l1 => ⟨i, l1.int, p H1 S1 e1⟩
    | _ => exact False.elim p⟩⟩
theorem pe_sl {lo hi : Option Expr} {fl fh : En → Res (Option Int)} {p2 : Pos} (hK : X.K = G.K) (ha : PE X a (tB G W H0 fa)) (hl : PO X lo (tO G W H0 fl)) (hh : PO X hi (tO G W H0 fh)) :
    PE X (.Subscript a (.Slice lo hi none p2) pos) (tD G W H0 fun ρ => (fa ρ).bind fun x => (fl ρ).bind fun l => (fh ρ).bind fun h => slcD x l h) :=
  (pe_slice (sl_D hK) ha hl hh).im fun σ H Q ⟨S, ρ, R, p⟩ => by
    refine ⟨S, ρ, R, mkB rdD p fun d p v H1 S1 e1 l1 => ⟨S1, ρ, R.gr e1, mkV rdD (p.gr e1) fun l p H2 S2 e2 => ⟨S2, ρ, (R.gr e1).gr e2, mkV rdD (p.gr e2) fun h p H3 S3 e3 => ?_⟩⟩⟩
    exact ⟨_, S3, d, (((R.gr e1).gr e2).gr e3).dom, (l1.ex e2).ex e3, p.gr e3⟩
/-- what a def of the text gives, as its promise -/
def spD (G : Gm) (k : Nat) (r : List D → Res (Bool × D)) : Sp := fun vs H Q E => vs.length = k ∧ ∃ S ds, Dm H S ∧ Paired (Rep G H S) ds vs ∧ Post G (fun c H' => ∀ a, G.mg c = some (.ref a) → E (.ref a) none H') H S (r ds) Q
def wOf (G : Gm) (W : WD) : WX := fun cls d σ H => ∃ c a, cls = .ref a ∧ G.mg c = some (.ref a) ∧ d = none ∧ W c σ H
theorem tCallS_of {k : Nat} {r : List D → Res (Bool × D)} {σ : L2.St} {H : Hp} {Q : VK} (hk : ∀ vs ds H' S', Paired (Rep G H' S') ds vs → (∃ x, r ds = .ok x ∨ ∃ c, r ds = .exc c) → vs.length = k)
    (p : tD G W H0 (fun ρ => (fs ρ).bind r) σ H Q) : tCallS (spD G k r) (WE (wOf G W)) (tL G W H0 fs) σ H Q := by
  obtain ⟨S, ρ, R, p⟩ := p
  refine ⟨S, ρ, R, mkL rdD p fun ds p vs H1 S1 e1 r1 => ?_⟩
  have p1 := Post.gr e1 p
  refine ⟨hk vs ds H1 S1 r1 ?_, S1, ds, (R.gr e1).dom, r1, p1.weak fun c H' w a ha => ⟨c, a, rfl, ha, rfl, w⟩⟩
  cases z : r ds with
  | fail => rw [z] at p1; exact p1.elim
  | exc c => exact ⟨(false, .non), .inr ⟨c, rfl⟩⟩
  | ok x => exact ⟨x, .inl rfl⟩
theorem pe_callS0 {CX : CXT} {k : Nat} {f : Addr} {fd : FuncData} {ps : List Str} {sp : Sp} {E : L2.St → XK} {x : Str} {p : Pos} (F : FnOk X.prog X.w X.K X.mg X.base CX k f fd ps sp) (hr : Room k X.A) (hg : Gl X x) (hm : X.mg x = some (.ref f)) (hk : PySem.W.keepIn X.K (.ref f) = true) (hb : Binds X.K fd ps []) (hx : ∀ σ, PassesAt CX X σ (E σ))
    (hdb : (x == ("__debug__" : Str)) = false) : PE X (.Call (.Name x p) [] [] pos) (tCallS sp E tNil) := by
  refine ⟨fun pins s σ H Q I h => ?_⟩
  refine wpAny_Call_Name_kw (ld_glob I hg hm ?_ hdb)
  exact PySem.W.callWith_K0 I.kIn hk (run_fnS (us := []) F hr hb (hx σ) I .nil h)
theorem pe_b1 {f : Bi} {x : Str} {p : Pos} (hK : X.K = G.K) (hc : X.calm = true) (hg : Gl X x) (hm : X.mg x = none) (hv : bootBuiltins x = some f.fv) (hn : x ≠ "__name__") (hdb : (x == ("__debug__" : Str)) = false) (ha : PE X a (tB G W H0 fa))
    (hs : starEach [a] X.env = [(false, eval a X.env)]) : PE X (.Call (.Name x p) [a] [] pos) (tD G W H0 fun ρ => (fa ρ).bind fun x => biD f x) := by
  have hA := pa_cons ha pa_nil hs
  have fin : ∀ σ H Q, tD G W H0 (fun ρ => (fa ρ).bind fun x => biD f x) σ H Q → tCB (rB G (biD f)) (tCons (tB G W H0 fa) tNil) σ H Q := fun σ H Q ⟨S, ρ, R, p⟩ =>
    ⟨S, ρ, R, mkB rdD p fun d p v H1 S1 e1 l1 => ⟨_, S1, v, d, rfl, (R.gr e1).dom, l1, p.gr e1⟩⟩
  cases f with
  | len => exact (pe_callB (call_bi hK hc .len) hg hm hv hA hn hdb hs rfl).im fin
  | sum => exact (pe_callB (call_bi hK hc .sum) hg hm hv hA hn hdb hs rfl).im fin
  | abs => exact (pe_callB (call_bi hK hc .abs) hg hm hv hA hn hdb hs rfl).im fin
  | tuple => exact (pe_callTy (call_bi hK hc .tuple) hg hm hv hA hn hdb hs rfl).im fin
  | list => exact (pe_callTy (call_bi hK hc .list) hg hm hv hA hn hdb hs rfl).im fin
  | int => exact (pe_callTy (call_bi hK hc .int) hg hm hv hA hn hdb hs rfl).im fin
theorem isiD_nox {d : D} {t : Ty} {c : Str} : isiD d t ≠ .exc c := fun e => by
  cases d <;> cases t <;> cases e
theorem pe_is {t : Ty} {p pt : Pos} (hK : X.K = G.K) (hg : Gl X "isinstance") (hm : X.mg "isinstance" = none) (hT : PE X b (tC (.ty t.nm))) (ha : PE X a (tB G W H0 fa))
    (hs : starEach [a, b] X.env = (false, eval a X.env) :: starEach [b] X.env) (hs2 : starEach [b] X.env = [(false, eval b X.env)]) (hpl : (backTo pos (starEach [b] X.env)).any (·.1) = false) :
    PE X (.Call (.Name "isinstance" p) [a, b] [] pos) (tD G W H0 fun ρ => (fa ρ).bind fun x => okB (isiD x t)) :=
  (pe_callB (call_isiD hK t) hg hm boot_isinstance (pa_cons ha (pa_cons hT pa_nil hs2) hs) (by decide) (by decide) hs hpl).im fun σ H Q ⟨S, ρ, R, p⟩ => by
    refine ⟨S, ρ, R, mkB rdD p fun d p v H1 S1 e1 l1 => ?_⟩
    obtain ⟨k, e, q⟩ := (p.gr e1).okB fun _ => isiD_nox
    exact ⟨S1, v, d, k, rfl, l1, e, q⟩
end
end Hf

/-! Hf5: what is walked; comprehensions. -/
namespace Hf
open PySem PySem.Spec PyProof.Rows L2
set_option autoImplicit false

/-! ### slots stored, forgotten -/
section
variable {G : Gm} {H0 H : Hp} {S : Sy} {σ : L2.St} {ρ : En}
theorem get_set {α : Type} {l : List α} {i j : Nat} {x y : α} (h : (l.set i x)[j]? = some y) : (j = i ∧ y = x ∧ i < l.length) ∨ (j ≠ i ∧ l[j]? = some y) := by
  by_cases e : i = j
  · subst e
    by_cases hl : i < l.length
    · rw [List.getElem?_set_self hl] at h
      exact .inl ⟨rfl, (Option.some.inj h).symm, hl⟩
    · rw [List.getElem?_eq_none (by simpa using hl)] at h
      cases h
  · rw [List.getElem?_set_ne e] at h
    exact .inr ⟨fun z => e z.symm, h⟩
/-- a slot takes a value; o: what is said of it -/
theorem REnv.put (R : REnv G H0 H S σ ρ) (i : Nat) (v : V) (o : Option (Bool × D)) (h : ∀ b d, o = some (b, d) → RepO G H0 H S b d v)
    (ap : ∀ d, o = some (true, d) → ∀ j e a, j ≠ i → ρ[j]? = some (some (true, e)) → σ[j]? = some (some (.ref a)) → v ≠ .ref a) : REnv G H0 H S (σ.set i (some v)) (ρ.set i o) := by
  refine ⟨by rw [List.length_set, List.length_set]; exact R.len, R.dom, fun j b d q => ?_, fun j k d e a hjk q1 q2 z1 z2 => ?_⟩
  · rcases get_set q with ⟨rfl, e, hl⟩ | ⟨ne, q⟩
    · exact ⟨v, List.getElem?_set_self (by rw [← R.len]; exact hl), h b d e.symm⟩
    · obtain ⟨w, h1, h2⟩ := R.slot j b d q
      exact ⟨w, by rw [List.getElem?_set_ne (Ne.symm ne)]; exact h1, h2⟩
  · rcases get_set q1 with ⟨w1, e1, l1⟩ | ⟨n1, q1'⟩
    · rcases get_set q2 with ⟨w2, _, _⟩ | ⟨n2, q2'⟩
      · exact hjk (w1.trans w2.symm)
      · rw [w1, List.getElem?_set_self (by rw [← R.len]; exact l1)] at z1
        rw [List.getElem?_set_ne (Ne.symm n2)] at z2
        exact ap d e1.symm k e a n2 q2' z2 (Option.some.inj (Option.some.inj z1))
    · rcases get_set q2 with ⟨w2, e2, l2⟩ | ⟨n2, q2'⟩
      · rw [w2, List.getElem?_set_self (by rw [← R.len]; exact l2)] at z2
        rw [List.getElem?_set_ne (Ne.symm n1)] at z1
        exact ap e e2.symm j d a n1 q1' z1 (Option.some.inj (Option.some.inj z2))
      · rw [List.getElem?_set_ne (Ne.symm n1)] at z1
        rw [List.getElem?_set_ne (Ne.symm n2)] at z2
        exact R.apart j k d e a hjk q1' q2' z1 z2
theorem REnv.setF (R : REnv G H0 H S σ ρ) (i : Nat) {v : V} {d : D} (h : Rep G H S d v) : REnv G H0 H S (σ.set i (some v)) (setE ρ i d) :=
  R.put i v _ (fun b d' e => by cases e; exact h) (fun d' e => by cases e)
theorem REnv.drop1 (R : REnv G H0 H S σ ρ) (i : Nat) : REnv G H0 H S (σ.set i none) (ρ.set i none) := by
  refine ⟨by rw [List.length_set, List.length_set]; exact R.len, R.dom, fun j b d q => ?_, fun j k d e a hjk q1 q2 z1 z2 => ?_⟩
  · rcases get_set q with ⟨rfl, e, hl⟩ | ⟨ne, q⟩
    · cases e
    · obtain ⟨w, h1, h2⟩ := R.slot j b d q
      exact ⟨w, by rw [List.getElem?_set_ne (Ne.symm ne)]; exact h1, h2⟩
  · rcases get_set q1 with ⟨_, e, _⟩ | ⟨n1, q1⟩
    · cases e
    · rcases get_set q2 with ⟨_, e, _⟩ | ⟨n2, q2⟩
      · cases e
      · rw [List.getElem?_set_ne (Ne.symm n1)] at z1
        rw [List.getElem?_set_ne (Ne.symm n2)] at z2
        exact R.apart j k d e a hjk q1 q2 z1 z2
theorem REnv.wipe (R : REnv G H0 H S σ ρ) : ∀ vs : List Nat, REnv G H0 H S (wipe σ vs) (wipeE ρ vs)
  | [] => R
  | v :: vs => (REnv.wipe R vs).drop1 v
end
/-! ### targets -/
def gNs : List Nat → TGs
  | [] => gNil
  | i :: is => gCons (gName i) (gNs is)
def gOf (K : PySem.W.Frag) : Tg → TG
  | .one i => gName i
  | .tup is => gTup K is.length (gNs is)
def Tg.sl : Tg → List Nat
  | .one i => [i]
  | .tup is => is
theorem wipe_comm (σ : L2.St) (i : Nat) (x : Option V) : ∀ vs : List Nat, i ∉ vs → wipe (σ.set i x) vs = (wipe σ vs).set i x
  | [], _ => rfl
  | v :: vs, h => by
    have h1 : i ≠ v := fun e => h (by rw [e]; exact List.mem_cons_self)
    have h2 : i ∉ vs := fun e => h (List.mem_cons_of_mem _ e)
    show (wipe (σ.set i x) vs).set v none = ((wipe σ vs).set v none).set i x
    rw [wipe_comm σ i x vs h2, List.set_comm _ _ h1]
theorem wipe_same (σ : L2.St) (i : Nat) (x : Option V) : ∀ vs : List Nat, i ∈ vs → wipe (σ.set i x) vs = wipe σ vs
  | [], h => nomatch h
  | v :: vs, h => by
    show (wipe (σ.set i x) vs).set v none = (wipe σ vs).set v none
    by_cases hm : i ∈ vs
    · rw [wipe_same σ i x vs hm]
    · have e : i = v := by
        rcases List.mem_cons.mp h with e | e
        · exact e
        · exact absurd e hm
      subst e
      rw [wipe_comm σ i x vs hm, List.set_set]
theorem wipe_wipe (σ : L2.St) : ∀ (us vs : List Nat), (∀ i ∈ us, i ∈ vs) → wipe (wipe σ us) vs = wipe σ vs
  | [], _, _ => rfl
  | v :: us, vs, h => by
    show wipe ((wipe σ us).set v none) vs = wipe σ vs
    rw [wipe_same _ v none vs (h v List.mem_cons_self)]
    exact wipe_wipe σ us vs fun i hi => h i (List.mem_cons_of_mem _ hi)
section
variable {G : Gm} {H0 H : Hp} {S : Sy}
theorem gNs_of : ∀ (is : List Nat) (ds : List D) (xs : List V) (σ : L2.St) (ρ ρ' : En) (Q : L2.St → Hp → Prop), setEs is ds ρ = .ok ρ' → Paired (Rep G H S) ds xs → REnv G H0 H S σ ρ →
    (∀ σ', REnv G H0 H S σ' ρ' → (∀ vs, (∀ i ∈ is, i ∈ vs) → wipe σ' vs = wipe σ vs) → Q σ' H) → gNs is xs σ H Q
  | [], [], _, σ, ρ, ρ', Q, e, .nil, R, q => by cases e; exact ⟨rfl, q σ R fun _ _ => rfl⟩
  | i :: is, d :: ds, _, σ, ρ, ρ', Q, e, .cons r t, R, q => by
    refine ⟨_, _, rfl, gNs_of is ds _ (σ.set i (some _)) (setE ρ i d) ρ' Q e t (R.setF i r) fun σ' R' w => q σ' R' fun vs h => ?_⟩
    rw [w vs fun j hj => h j (List.mem_cons_of_mem _ hj), wipe_same σ i _ vs (h i List.mem_cons_self)]
  | [], _ :: _, _, _, _, _, _, e, _, _, _ => by cases e
  | _ :: _, [], _, _, _, _, _, e, _, _, _ => by cases e
theorem setEs_len : ∀ (is : List Nat) (ds : List D) (ρ ρ' : En), setEs is ds ρ = .ok ρ' → ds.length = is.length
  | [], [], _, _, _ => rfl
  | i :: is, d :: ds, ρ, ρ', e => by
    have := setEs_len is ds (setE ρ i d) ρ' e
    rw [List.length_cons, List.length_cons, this]
  | [], _ :: _, _, _, e => by cases e
  | _ :: _, [], _, _, e => by cases e
theorem gOf_of {t : Tg} {d : D} {x : V} {σ : L2.St} {ρ ρ' : En} {Q : L2.St → Hp → Prop} (e : bindT t d ρ = .ok ρ') (r : Rep G H S d x) (R : REnv G H0 H S σ ρ)
    (q : ∀ σ', REnv G H0 H S σ' ρ' → (∀ vs, (∀ i ∈ t.sl, i ∈ vs) → wipe σ' vs = wipe σ vs) → Q σ' H) : gOf G.K t x σ H Q := by
  cases t with
  | one i =>
    cases e
    exact q _ (R.setF i r) fun vs h => wipe_same σ i _ vs (h i List.mem_cons_self)
  | tup is =>
    cases d with
    | tup ds =>
      have e' : setEs is ds ρ = .ok ρ' := e
      cases r with
      | tup z p => exact ⟨_, _, rfl, z.sq, by rw [← Paired.length p]; exact setEs_len is ds ρ ρ' e', gNs_of is ds _ σ ρ ρ' Q e' p R q⟩
    | _ => cases e
end
/-! ### what is walked -/
section
variable {G : Gm} {H : Hp} {S : Sy}
theorem wlk_lst {K : PySem.W.Frag} {a : Addr} {xs : List V} {ds : List D} (hK : K = G.K) (h : FzL G.K H S a xs) (p : Paired (Rep G H S) ds xs) : Wlk G (Itl K a) ds H S where
  go := fun i H' S' k hi => by
    obtain ⟨v, h1, _⟩ := p.gt (List.getElem?_eq_getElem hi)
    exact ⟨xs, v, by rw [hK]; exact (k.fzl h).sq, h1⟩
  yld := fun i H' S' x H'' k y d hd => by
    obtain ⟨e, y⟩ := y
    obtain ⟨v, h1, h2⟩ := p.gt hd
    have h3 := y xs (by rw [hK]; exact (k.fzl h).sq)
    rw [h1] at h3
    cases h3
    exact ⟨e, h2.keep k⟩
  stop := fun H' S' k => ⟨xs, by rw [hK]; exact (k.fzl h).sq, by rw [Paired.length p]; exact Nat.le_refl _⟩
theorem wlk_tup {K : PySem.W.Frag} {a : Addr} {xs : List V} {ds : List D} (hK : K = G.K) (h : FzT G.K H S a xs) (p : Paired (Rep G H S) ds xs) : Wlk G (Itt K a) ds H S where
  go := fun i H' S' k hi => by
    obtain ⟨v, h1, _⟩ := p.gt (List.getElem?_eq_getElem hi)
    exact ⟨xs, v, by rw [hK]; exact (k.fzt h).sq, h1⟩
  yld := fun i H' S' x H'' k y d hd => by
    obtain ⟨e, y⟩ := y
    obtain ⟨v, h1, h2⟩ := p.gt hd
    have h3 := y xs (by rw [hK]; exact (k.fzt h).sq)
    rw [h1] at h3
    cases h3
    exact ⟨e, h2.keep k⟩
  stop := fun H' S' k => ⟨xs, by rw [hK]; exact (k.fzt h).sq, by rw [Paired.length p]; exact Nat.le_refl _⟩
theorem wlk_rng {lo : Int} {n : Nat} {ds : List D} (h : ds = (List.range n).map fun (k : Nat) => D.int (lo + (k : Int))) : Wlk G (Itr lo n) ds H S where
  go := fun i H' S' k hi => by
    rw [h, List.length_map, List.length_range] at hi
    exact hi
  yld := fun i H' S' x H'' k y d hd => by
    obtain ⟨e, y⟩ := y
    rw [h, List.getElem?_map] at hd
    cases z : (List.range n)[i]? with
    | none => rw [z] at hd; cases hd
    | some j =>
      rw [z] at hd
      obtain ⟨_, e3⟩ := List.getElem?_eq_some_iff.mp z
      rw [List.getElem_range] at e3
      subst e3
      cases hd
      rw [y]
      exact ⟨e, .int _⟩
  stop := fun H' S' k => by
    show n ≤ ds.length
    rw [h, List.length_map, List.length_range]
    exact Nat.le_refl _
end
section
variable {G : Gm} {W : WD} {H0 : Hp} {X : Cx} {e a b tg : Expr} {pos : Pos}
def iAny (K : PySem.W.Frag) (tl : TE) : TI := fun σ H R => tl σ H fun x H1 => ∃ a, x = .ref a ∧ ((∃ xs, SqL K H1 a xs) ∧ R (Itl K a) H1 ∨ (∃ xs, SqT K H1 a xs) ∧ R (Itt K a) H1)
theorem pi_any {tl : TE} (hl : PE X e tl) : PI X tg e (iAny X.K tl) := by
  refine ⟨fun pins s σ H R I h => ?_⟩
  refine thn (hl.run pins s σ H _ I h) fun v s1 ⟨x, H1, I1, r1, q1⟩ => ?_
  obtain ⟨a, rfl, ⟨⟨xs, hq⟩, q⟩ | ⟨⟨xs, hq⟩, q⟩⟩ := q1
  · cases r1
    obtain ⟨its, rv, p, hz⟩ := I1.list hq
    refine wpAny_pyIter_list p.isList ?_
    refine ⟨s1.heap.objs.size, [s1.heap.objs.size], _, _, H1, rfl, I1.kept (t' := s1.toks) fun b o e => Heap.get?_push_of_some _ e, turn_list a _, ⟨_, Heap.get?_push_size _ rfl, rfl, rfl⟩, fun b hb => ?_, q⟩
    have e : b = s1.heap.objs.size := by simpa using hb
    subst e
    exact I1.fpOk (Nat.le_refl _) (I1.hok.fresh (Nat.le_refl _))
  · cases r1
    obtain ⟨its, rv, p, hz⟩ := I1.tuple hq
    refine wpAny_pyIter_tuple (show s1.heap.IsTuple a its.toArray from p) ?_
    refine ⟨s1.heap.objs.size, [s1.heap.objs.size], _, _, H1, rfl, I1.kept (t' := s1.toks) fun b o e => Heap.get?_push_of_some _ e, turn_tuple a _, ⟨_, Heap.get?_push_size _ rfl, rfl, rfl⟩, fun b hb => ?_, q⟩
    have e : b = s1.heap.objs.size := by simpa using hb
    subst e
    exact I1.fpOk (Nat.le_refl _) (I1.hok.fresh (Nat.le_refl _))
theorem itemsD_nox {d : D} {c : Str} : itemsD d ≠ .exc c := fun e => by cases d <;> cases e
theorem pi_sq {f : En → Res (Bool × D)} (hK : X.K = G.K) (h : PE X e (tD G W H0 f)) : PI X tg e (tI G W H0 fun ρ => (sndR (f ρ)).bind itemsD) :=
  (pi_any (pe_F h)).im fun σ H Q ⟨S, ρ, R, p⟩ => by
    refine ⟨S, ρ, R, mkF rdI p fun d p v H1 S1 e1 r1 => ?_⟩
    cases d with
    | lst ds =>
      cases r1 with
      | lst z q => exact ⟨_, rfl, .inl ⟨⟨_, by rw [hK]; exact z.sq⟩, p _ H1 S1 e1 (wlk_lst hK z q)⟩⟩
    | tup ds =>
      cases r1 with
      | tup z q => exact ⟨_, rfl, .inr ⟨⟨_, by rw [hK]; exact z.sq⟩, p _ H1 S1 e1 (wlk_tup hK z q)⟩⟩
    | _ => exact False.elim p
theorem mkBI {W : Str → Hp → Prop} {H : Hp} {S : Sy} {β : Type} {Z : Res β → Prop} (rd : Rd1 W H S Z) {r : Res D} {k : Int → Res β} {Q : VK} (z : Z ((intR r).bind k)) (ok : ∀ i, Z (k i) → ∀ H' S', Gr H S H' S' → Q (.int i) H') : PostB G W H S r Q := by
  cases r with
  | ok d =>
    cases d with
    | int i => exact fun v H' S' e l => by cases l.int; exact ok i z H' S' e
    | _ => exact (rd.f z).elim
  | exc c => exact rd.x c z
  | fail => exact rd.f z
variable {fa fb : En → Res D} {p : Pos}
theorem rng_ite {W : Str → Hp → Prop} {H : Hp} {S : Sy} {i j : Int} {R : It → Hp → Prop} (p : PostI G W H S (rngD i j) R) : (-(2 ^ 62) ≤ i ∧ i < 2 ^ 62 ∧ -(2 ^ 62) ≤ j ∧ j < 2 ^ 62) ∧ PostI G W H S (.ok ((List.range (j - i).toNat).map fun (k : Nat) => D.int (i + (k : Int)))) R := by
  unfold rngD at p
  by_cases z : -(2 ^ 62) ≤ i ∧ i < 2 ^ 62 ∧ -(2 ^ 62) ≤ j ∧ j < 2 ^ 62
  · rw [if_pos z] at p; exact ⟨z, p⟩
  · rw [if_neg z] at p; exact p.elim
theorem pi_r1 (hg : Gl X "range") (hm : X.mg "range" = none) (ha : PE X a (tB G W H0 fa)) (hs : starEach [a] X.env = [(false, eval a X.env)]) : PI X tg (.Call (.Name "range" p) [a] [] pos) (tI G W H0 fun ρ => (intR (fa ρ)).bind fun j => rngD 0 j) :=
  (pi_range1 hg hm (pa_cons ha pa_nil hs) hs).im fun σ H Q ⟨S, ρ, R, p⟩ => by
    refine ⟨S, ρ, R, mkBI rdI p fun j p H1 S1 e1 => ?_⟩
    obtain ⟨⟨_, _, c3, c4⟩, p⟩ := rng_ite (p.gr e1)
    exact ⟨j, rfl, c3, c4, p _ H1 S1 (Gr.refl _ _) (wlk_rng (by rw [Int.sub_zero]))⟩
theorem pi_r2 (hg : Gl X "range") (hm : X.mg "range" = none) (ha : PE X a (tB G W H0 fa)) (hb : PE X b (tB G W H0 fb)) (hs : starEach [a, b] X.env = [(false, eval a X.env), (false, eval b X.env)]) (hs2 : starEach [b] X.env = [(false, eval b X.env)]) :
    PI X tg (.Call (.Name "range" p) [a, b] [] pos) (tI G W H0 fun ρ => (intR (fa ρ)).bind fun i => (intR (fb ρ)).bind fun j => rngD i j) :=
  (pi_range2 hg hm (pa_cons ha (pa_cons hb pa_nil hs2) (by rw [hs, hs2])) hs hs2).im fun σ H Q ⟨S, ρ, R, p⟩ => by
    refine ⟨S, ρ, R, mkBI rdI p fun i p H1 S1 e1 => ⟨S1, ρ, R.gr e1, mkBI rdI (p.gr e1) fun j p H2 S2 e2 => ?_⟩⟩
    obtain ⟨⟨c1, c2, c3, c4⟩, p⟩ := rng_ite (p.gr e2)
    exact ⟨i, j, rfl, ⟨c1, c2, c3, c4⟩, p _ H2 S2 (Gr.refl _ _) (wlk_rng rfl)⟩
end
/-! ### comprehensions -/
section
variable {G : Gm} {W : WD} {H0 : Hp} {X : Cx}
theorem Keep.updN {H : Hp} {S : Sy} {p : Addr} {o : HO} (h : ¬ S p) : Keep H S (upd H p o) S := fun b s => ⟨s, fun u e => by rw [upd_ne (show b ≠ p from fun z => h (by rw [← z]; exact s))]; exact e⟩
theorem pe_co {elt tg iter : Expr} {ifs : List Expr} {scope : Scope} {own : List (Str × Nat)} {pos : Pos} {t : Tg} {fi : En → Res (List D)} {fc : En → Res Bool} {fe : En → Res (Bool × D)} (hK : X.K = G.K) (hc : X.calm = true) (hN : X.N.Nodup)
    (hi : PI X tg iter (tI G W H0 fi)) (ok : BlkOk X.N X.env.scope scope own) (hsl : ∀ i ∈ t.sl, i ∈ own.map (·.2))
    (hg : ∀ (s : Shared) (H : Hp) (C : Addr) (cl : List (Str × Addr)) (fp : List Addr), PG (X.blk s H scope (compEnvC scope cl C X.env) fp) tg (gOf G.K t))
    (ht : ∀ (s : Shared) (H : Hp) (C : Addr) (cl : List (Str × Addr)) (fp : List Addr), PTs (X.blk s H scope (compEnvC scope cl C X.env) fp) ifs (tT G (fun _ _ _ => False) H0 fc))
    (he : ∀ (s : Shared) (H : Hp) (C : Addr) (cl : List (Str × Addr)) (fp : List Addr), PE (X.blk s H scope (compEnvC scope cl C X.env) fp) elt (tD G (fun _ _ _ => False) H0 fe)) :
    (∀ σ H Q, tD G W H0 (fun ρ => (fi ρ).bind fun ds => if ds.length ≤ sizeLine then (compL (fun d => noX ((bindT t d (wipeE ρ (own.map (·.2)))).bind fun ρ' => (fc ρ').bind fun k => if k = true then (fe ρ').bind fun y => .ok (some y.2) else .ok none)) ds).bind fun ys => .ok (true, .lst ys) else .fail) σ H Q →
      tLc (tI G W H0 fi) (gOf G.K t) (tT G (fun _ _ _ => False) H0 fc) (tD G (fun _ _ _ => False) H0 fe) (own.map (·.2)) σ H Q) := by
  intro σ H Q ⟨S, ρ, R, p⟩
  generalize hvs : own.map (·.2) = vs at *
  refine ⟨S, ρ, R, mkI rdD p fun ds p J H1 S1 e1 wk D0 hD => ?_⟩
  obtain ⟨hsz, p⟩ := Post.ite p
  generalize hf : (fun d => noX ((bindT t d (wipeE ρ vs)).bind fun ρ' => (fc ρ').bind fun k => if k = true then (fe ρ').bind fun y => Res.ok (some y.2) else .ok none)) = f at p
  have fd : ∀ d, f d = noX ((bindT t d (wipeE ρ vs)).bind fun ρ' => (fc ρ').bind fun k => if k = true then (fe ρ').bind fun y => Res.ok (some y.2) else .ok none) := fun d => by rw [← hf]
  have H0D : H D0 = none := e1.same.free hD
  -- what holds between two turns
  let J2 : Nat → Hp → Prop := fun i Hc => ∃ (Sc : Sy) (acc : List V) (ys : List D), Gr H1 S1 Hc Sc ∧ ¬ Sc D0 ∧ Hc D0 = some (.lst acc) ∧ acc.length ≤ i ∧ Paired (Rep G Hc Sc) ys acc ∧
    Post G (fun c => W c σ) H S ((compL f (ds.drop i)).bind fun r => .ok (true, .lst (ys ++ r))) Q
  refine ⟨fun i m Hc => m = ds.length - i ∧ i ≤ ds.length ∧ J2 i Hc, ⟨_, rfl, Nat.zero_le _, S1, [], [], Gr.laid hD, fun z => ?_, upd_same, Nat.le_refl _, .nil, ?_⟩, fun i m Hc => ?_⟩
  · obtain ⟨o, h⟩ := (R.gr e1).dom D0 z
    rw [hD] at h
    cases h
  · exact p
  · rintro ⟨rfl, hle, Sc, acc, ys, g, nS, hacc, hal, pr, p⟩
    have gg := e1.trans g
    by_cases hi : i < ds.length
    · have ed : ds.drop i = ds[i] :: ds.drop (i + 1) := List.drop_eq_getElem_cons hi
      have gt : ds[i]? = some ds[i] := List.getElem?_eq_getElem hi
      refine .inr ⟨wk.go i Hc Sc g.keep hi, fun Hc' => J2 (i + 1) Hc', fun Hc' hn => ⟨ds.length - (i + 1), by omega, rfl, hi, hn⟩, fun x Hx y => ?_⟩
      obtain ⟨rfl, rx⟩ := wk.yld i Hc Sc x Hx g.keep y _ gt
      rw [ed] at p
      generalize hd : ds[i] = d at *
      have p : Post G (fun c => W c σ) H S (((f d).bind fun o => (compL f (ds.drop (i + 1))).bind fun r => .ok (match o with | some y => y :: r | none => r)).bind fun r => .ok (true, .lst (ys ++ r))) Q := p
      rw [fd] at p
      cases zb : bindT t d (wipeE ρ vs) with
      | fail => rw [zb] at p; exact p.elim
      | exc c => rw [zb] at p; exact False.elim p
      | ok ρ' =>
        rw [zb] at p
        refine gOf_of zb rx ((R.gr gg).wipe vs) fun σ2 R2 hw => ⟨?_, Sc, ρ', R2, ?_⟩
        · rw [hw vs hsl]
          exact wipe_wipe σ vs vs fun _ h => h
        · cases zc : fc ρ' with
          | fail => rw [show ((Res.ok ρ').bind fun ρ' => (fc ρ').bind fun k => if k = true then (fe ρ').bind fun y => Res.ok (some y.2) else Res.ok none) = ((fc ρ').bind fun k => if k = true then (fe ρ').bind fun y => Res.ok (some y.2) else Res.ok none) from rfl, zc] at p; exact False.elim p
          | exc c => rw [show ((Res.ok ρ').bind fun ρ' => (fc ρ').bind fun k => if k = true then (fe ρ').bind fun y => Res.ok (some y.2) else Res.ok none) = ((fc ρ').bind fun k => if k = true then (fe ρ').bind fun y => Res.ok (some y.2) else Res.ok none) from rfl, zc] at p; exact False.elim p
          | ok k =>
            rw [show ((Res.ok ρ').bind fun ρ' => (fc ρ').bind fun k => if k = true then (fe ρ').bind fun y => Res.ok (some y.2) else Res.ok none) = ((fc ρ').bind fun k => if k = true then (fe ρ').bind fun y => Res.ok (some y.2) else Res.ok none) from rfl, zc] at p
            intro H3 S3 e3
            have nS3 : ¬ S3 D0 := fun z => (e3.new D0 z).elim nS fun q => by rw [hacc] at q; cases q.1
            cases k with
            | false =>
              refine ⟨S3, acc, ys, g.trans e3, nS3, e3.same _ _ hacc, by omega, e3.reps pr, ?_⟩
              cases zr : compL f (ds.drop (i + 1)) with
              | fail => rw [zr] at p; exact False.elim p
              | exc c => rw [zr] at p; exact p
              | ok r => rw [zr] at p; exact p
            | true =>
              refine ⟨S3, ρ', R2.gr e3, ?_⟩
              cases ze : fe ρ' with
              | fail => rw [show ((Res.ok true).bind fun k => if k = true then (fe ρ').bind fun y => Res.ok (some y.2) else Res.ok none) = ((fe ρ').bind fun y => Res.ok (some y.2)) from rfl, ze] at p; exact False.elim p
              | exc c => rw [show ((Res.ok true).bind fun k => if k = true then (fe ρ').bind fun y => Res.ok (some y.2) else Res.ok none) = ((fe ρ').bind fun y => Res.ok (some y.2)) from rfl, ze] at p; exact False.elim p
              | ok y =>
                rw [show ((Res.ok true).bind fun k => if k = true then (fe ρ').bind fun y => Res.ok (some y.2) else Res.ok none) = ((fe ρ').bind fun y => Res.ok (some y.2)) from rfl, ze] at p
                intro v H4 S4 e4 r4
                obtain ⟨S5, e5, k5, r5⟩ := r4.fz e4
                have e35 := e3.trans e5
                have hD4 : H4 D0 = some (.lst acc) := e35.same _ _ hacc
                have nS5 : ¬ S5 D0 := fun z => (e35.new D0 z).elim nS fun q => by rw [hacc] at q; cases q.1
                have kp : Keep H4 S5 (upd H4 D0 (.lst (acc ++ [v]))) S5 := Keep.updN nS5
                refine ⟨acc, hD4, by omega, S5, acc ++ [v], ys ++ [y.2], ⟨fun b o hb => ?_, (g.trans e35).sub, fun b hb => ?_⟩, nS5, upd_same, by rw [List.length_append, List.length_singleton]; omega, ?_, ?_⟩
                · have nb : b ≠ D0 := fun z => by rw [z, hD] at hb; cases hb
                  rw [upd_ne nb]
                  exact (g.trans e35).same _ _ hb
                · have nb : b ≠ D0 := fun z => nS5 (z ▸ hb)
                  rw [upd_ne nb]
                  exact (g.trans e35).new b hb
                · exact (Rep.keepL kp _ _ (e35.reps pr)).app (.cons (r5.keep kp) .nil)
                · have ea : ∀ r : List D, (ys ++ [y.2]) ++ r = ys ++ (y.2 :: r) := fun r => by rw [List.append_assoc]; rfl
                  cases zr : compL f (ds.drop (i + 1)) with
                  | fail => rw [zr] at p; exact False.elim p
                  | exc c => rw [zr] at p; exact p
                  | ok r =>
                    rw [zr] at p
                    show Post G (fun c => W c σ) H S (.ok (true, .lst ((ys ++ [y.2]) ++ r))) Q
                    rw [ea]
                    exact p
    · have e : i = ds.length := by omega
      subst e
      rw [List.drop_length] at p
      refine .inl ⟨wk.stop Hc Sc g.keep, ?_⟩
      have p : Post G (fun c => W c σ) H S (.ok (true, .lst (ys ++ []))) Q := p
      rw [List.append_nil] at p
      exact p _ Hc Sc gg ⟨D0, acc, ys, rfl, rfl, nS, H0D, hacc, pr⟩
end
end Hf

/-! Hf6: the text's expressions as the small language's; they give what it says. -/
namespace Hf
open PySem PySem.Spec PyProof.Rows L2
set_option autoImplicit false

structure Cc where
  N : List Str
  sc : Scope
  top : Bool
  fs : List (Str × Nat)
  gs : List Str
def okNm (x : Str) : Bool := !(decide (x = ("__debug__" : Str)) || decide (x = ("__classdict__" : Str)) || decide (x = ("__name__" : Str)))
def idxN (N : List Str) (x : Str) : Option Nat := match N.findIdx? fun y => decide (y = x) with
  | some i => if N[i]? = some x then some i else none
  | none => none
theorem idxN_ok {N : List Str} {x : Str} {i : Nat} (h : idxN N x = some i) : N[i]? = some x := by
  unfold idxN at h
  split at h
  · split at h
    · cases h; assumption
    · cases h
  · cases h
/-- the kind of a name -/
def kindC (c : Cc) (x : Str) : Option NameKind := c.sc.names.lookup x
def slotOf (c : Cc) (x : Str) : Option Nat := match okNm x with
  | true => (match kindC c x with
    | some .local => idxN c.N x
    | some .cell => idxN c.N x
    | some .free => idxN c.N x
    | _ => none)
  | false => none
def isGl (c : Cc) (x : Str) : Bool := okNm x && decide (kindC c x = some .globalImplicit)
/-- a slot that may be stored -/
def stOf (c : Cc) (x : Str) : Option Nat := match kindC c x with
  | some .local => idxN c.N x
  | some .cell => (match c.top with
    | true => idxN c.N x
    | false => none)
  | _ => none
def biOf (x : Str) : Option Bi :=
  if x = ("len" : Str) then some .len else if x = ("tuple" : Str) then some .tuple else if x = ("list" : Str) then some .list else if x = ("sum" : Str) then some .sum
  else if x = ("abs" : Str) then some .abs else if x = ("int" : Str) then some .int else none
def tyOf (x : Str) : Option Ty :=
  if x = ("int" : Str) then some .int else if x = ("bool" : Str) then some .bool else if x = ("str" : Str) then some .str else if x = ("tuple" : Str) then some .tuple
  else if x = ("list" : Str) then some .list else none
def bnames : List Str := ["len", "tuple", "list", "sum", "abs", "int", "bool", "str", "isinstance", "range"]
def isStar : Expr → Bool
  | .Starred _ _ => true
  | _ => false
def cEs (f : Expr → Option Ex) : List Expr → Option Exs
  | [] => some .nil
  | e :: es => match isStar e, f e, cEs f es with
    | false, some p, some ps => some (.cons p ps)
    | _, _, _ => none
def cBo (and : Bool) (f : Expr → Option Ex) : List Expr → Option Ex
  | [] => none
  | [e] => f e
  | e :: es => match f e, cBo and f es with
    | some p, some q => some (if and = true then .and p q else .or p q)
    | _, _ => none
def cBoT (and : Bool) (f : Expr → Option Te) : List Expr → Option Te
  | [] => none
  | [e] => f e
  | e :: es => match f e, cBoT and f es with
    | some p, some q => some (if and = true then .and p q else .or p q)
    | _, _ => none
def cNames (c : Cc) : List Expr → Option (List Nat)
  | [] => some []
  | .Name x _ :: es => match stOf c x, cNames c es with
    | some i, some is => some (i :: is)
    | _, _ => none
  | _ => none
def cTg (c : Cc) : Expr → Option Tg
  | .Name x _ => (stOf c x).map .one
  | .Tuple es _ _ => (cNames c es).map .tup
  | _ => none
def isSlice : Expr → Bool
  | .Slice .. => true
  | _ => false
def isSet : Expr → Bool
  | .Set .. => true
  | _ => false
/-- no special arm of a test -/
def plainT : Expr → Bool
  | .BoolOp .. => false
  | .UnaryOp .Not _ _ => false
  | .IfExp .. => false
  | .Compare .. => false
  | .Set .. => false
  | _ => true
def ownOf (N : List Str) (scope : Scope) : List (Str × Nat) := scope.names.filterMap fun y => match y.2 with
  | .local => if y.1 = (".0" : Str) then none else (idxN N y.1).map fun i => (y.1, i)
  | .cell => if y.1 = (".0" : Str) then none else (idxN N y.1).map fun i => (y.1, i)
  | _ => none
def cMp : CmpOp → Bool
  | .In => false
  | .NotIn => false
  | _ => true
mutual
def cE : Nat → Cc → Expr → Option Ex
  | 0, _, _ => none
  | n + 1, c, e => match e with
    | .Constant (.int i) _ _ => some (.lit (.int i))
    | .Constant (.bool b) _ _ => some (.lit (.bl b))
    | .Constant (.str x) _ _ => some (.lit (.str x))
    | .Constant .none _ _ => some (.lit .non)
    | .Name x _ => (match slotOf c x with
      | some i => some (.var i)
      | none => if isGl c x = true ∧ x ∈ c.gs then some (.gl x) else none)
    | .BinOp a o b _ => (match cE n c a, cE n c b with
      | some p, some q => some (.bin o p q)
      | _, _ => none)
    | .UnaryOp .USub a _ => (cE n c a).map .neg
    | .UnaryOp .Not a _ => (cE n c a).map .not
    | .Compare a [o] [b] _ => (match cMp o, cE n c a, cE n c b with
      | true, some p, some q => some (.cmp o p q)
      | _, _, _ => none)
    | .Compare a [o, o'] [b, d] _ => (match cMp o, cMp o', cE n c a, cE n c b, cE n c d with
      | true, true, some p, some q, some r => some (.chn o o' p q r)
      | _, _, _, _, _ => none)
    | .BoolOp .And (e1 :: e2 :: es) _ => cBo true (cE n c) (e1 :: e2 :: es)
    | .BoolOp .Or (e1 :: e2 :: es) _ => cBo false (cE n c) (e1 :: e2 :: es)
    | .IfExp t a b _ => (match cT n c t, cE n c a, cE n c b with
      | some u, some p, some q => some (.ite u p q)
      | _, _, _ => none)
    | .Tuple es _ _ => (cEs (cE n c) es).map .tup
    | .List es _ => (cEs (cE n c) es).map .lst
    | .Subscript a (.Slice lo hi none _) _ => (match cE n c a, (match lo with | none => some Exo.none | some l => (cE n c l).map Exo.some), (match hi with | none => some Exo.none | some h => (cE n c h).map Exo.some) with
      | some p, some l, some h => some (.slc p l h)
      | _, _, _ => none)
    | .Subscript a i _ => (match isSlice i, cE n c a, cE n c i with
      | false, some p, some q => some (.idx p q)
      | _, _, _ => none)
    | .Call (.Name f _) es [] _ => (match isGl c f with
      | false => none
      | true => (match c.fs.lookup f with
        | some k => if es.length = k then (cEs (cE n c) es).map (.call f) else none
        | none => if f = ("isinstance" : Str) then (match es with
            | [a, .Name y _] => (match isGl c y && isStar a == false, cE n c a, tyOf y with
              | true, some p, some t => some (.isi p t)
              | _, _, _ => none)
            | _ => none)
          else (match biOf f, es with
            | some b, [a] => (match isStar a, cE n c a with
              | false, some p => some (.bi b p)
              | _, _ => none)
            | _, _ => none)))
    | .ListComp elt [⟨tg, iter, ifs, 0⟩] scope _ =>
      let own := ownOf c.N scope
      let c' : Cc := { c with sc := relS scope c.sc, top := false }
      (match blkC c.N c.sc scope own, cTg c' tg, cI n c iter, (match ifs with | [] => some Tes.nil | [t] => (cT n c' t).map Tes.one | _ => none), cE n c' elt with
      | true, some t, some it, some k, some p => if t.sl.all (fun i => decide (i ∈ own.map (·.2))) = true then some (.comp t (own.map (·.2)) it k p) else none
      | _, _, _, _, _ => none)
    | _ => none
def cT : Nat → Cc → Expr → Option Te
  | 0, _, _ => none
  | n + 1, c, e => match e with
    | .BoolOp .And es _ => cBoT true (cT n c) es
    | .BoolOp .Or es _ => cBoT false (cT n c) es
    | .UnaryOp .Not a _ => (cT n c a).map .not
    | .Compare a [o] [b] pos => (match cMp o, cE n c a, cE n c b with
      | true, some p, some q => some (.val (.cmp o p q))
      | _, _, _ => none)
    | .Compare a [o, o'] [b, d] _ => (match cMp o, cMp o', cE n c a, cE n c b, cE n c d with
      | true, true, some p, some q, some r => some (.val (.chn o o' p q r))
      | _, _, _, _, _ => none)
    | e => (match plainT e with
      | true => (cE n c e).map .val
      | false => none)
def cI : Nat → Cc → Expr → Option Is
  | 0, _, _ => none
  | n + 1, c, e => match e with
    | .Call (.Name f p) es [] pos => (match isGl c f && decide (f = ("range" : Str)) && (c.fs.lookup f).isNone with
      | true => (match es with
        | [a] => (match isStar a, cE n c a with
          | false, some p => some (.rng1 p)
          | _, _ => none)
        | [a, b] => (match isStar a, isStar b, cE n c a, cE n c b with
          | false, false, some p, some q => some (.rng2 p q)
          | _, _, _, _ => none)
        | _ => none)
      | false => (cE n c (.Call (.Name f p) es [] pos)).map .seq)
    | e => (match isSet e with
      | false => (cE n c e).map .seq
      | true => none)
end

/-- a def of the text keeps what r says, up to n calls deep -/
def FnD (P : Program) (w : World) (G : Gm) (base : Heap) (n : Nat) (f : Str) (k : Nat) (r : List D → Res (Bool × D)) : Prop :=
  ∃ fa fd ps, ps.length = k ∧ G.mg f = some (.ref fa) ∧ FnOk P w G.K G.mg base (L2.CX P w) n fa fd ps (spD G k r) ∧ PySem.W.keepIn G.K (.ref fa) = true ∧ Binds G.K fd ps []
structure Sta (P : Program) (w : World) (G : Gm) (base : Heap) (T : Tb) (n : Nat) (c : Cc) (W : WD) (X : Cx) : Prop where
  eP : X.prog = P
  ew : X.w = w
  K : X.K = G.K
  mg : X.mg = G.mg
  eb : X.base = base
  N : X.N = c.N
  sc : X.env.scope = c.sc
  nd : X.N.Nodup
  calm : X.calm = true
  fn : c.top = true → ∀ x, X.fn x = true
  room : Room n X.A
  tk : Takes X (wOf G W)
  fns : ∀ f k, c.fs.lookup f = some k → FnD P w G base n f k (T.fn f)
  gls : ∀ x ∈ c.gs, ∀ d, T.gl x = some d → ∃ u v, G.mg x = some u ∧ RelV v u ∧ ∀ H S, Rep G H S d v
  free : ∀ x ∈ bnames, G.mg x = none
section
variable {P : Program} {w : World} {G : Gm} {base : Heap} {T : Tb} {n : Nat} {c : Cc} {W : WD} {X : Cx}
theorem Sta.units (s : Sta P w G base T n c W X) : X.A.units + 150 < cLine := by have := s.room.un; omega
theorem Sta.blk (s : Sta P w G base T n c W X) (sh : Shared) (H : Hp) (scope : Scope) (cl : List (Str × Addr)) (C : Addr) (fp : List Addr) :
    Sta P w G base T n { c with sc := relS scope c.sc, top := false } (fun _ _ _ => False) (X.blk sh H scope (compEnvC scope cl C X.env) fp) where
  eP := s.eP
  ew := s.ew
  K := s.K
  mg := s.mg
  eb := s.eb
  N := s.N
  sc := by
    show relabel scope X.env = relS scope c.sc
    rw [← s.sc] <;> rfl
  nd := s.nd
  calm := s.calm
  fn := fun h => by cases h
  room := s.room
  tk := takes0.imp fun c d σ H ⟨_, _, _, _, _, h⟩ => h
  fns := s.fns
  gls := s.gls
  free := s.free
theorem okNm_ok {x : Str} (h : okNm x = true) : (x == ("__debug__" : Str)) = false ∧ (x == ("__classdict__" : Str)) = false ∧ x ≠ "__name__" := by
  unfold okNm at h
  rw [Bool.not_eq_true', Bool.or_eq_false_iff, Bool.or_eq_false_iff] at h
  exact ⟨beq_eq_false_iff_ne.mpr (of_decide_eq_false h.1.1), beq_eq_false_iff_ne.mpr (of_decide_eq_false h.1.2), of_decide_eq_false h.2⟩
theorem Sta.var (s : Sta P w G base T n c W X) {x : Str} {i : Nat} {pos : Pos} (h : slotOf c x = some i) : PE X (.Name x pos) (tVar i) := by
  unfold slotOf at h
  cases ok : okNm x with
  | false => rw [ok] at h; cases h
  | true =>
    rw [ok] at h
    obtain ⟨d1, d2, _⟩ := okNm_ok ok
    have kk : ∀ k, kindC c x = some k → X.env.scope.names.lookup x = some k := fun k q => by rw [s.sc]; exact q
    have go : ∀ (q : idxN c.N x = some i), X.N[i]? = some x := fun q => by rw [s.N]; exact idxN_ok q
    cases kd : kindC c x with
    | none => rw [kd] at h; cases h
    | some k =>
      rw [kd] at h
      cases k with
      | «local» => exact pe_var (go h) (.inl (kk _ kd)) d1 d2
      | cell => exact pe_var (go h) (.inr (.inl (kk _ kd))) d1 d2
      | free => exact pe_var (go h) (.inr (.inr (kk _ kd))) d1 d2
      | globalExplicit => cases h
      | globalImplicit => cases h
theorem Sta.gl (s : Sta P w G base T n c W X) {x : Str} (h : isGl c x = true) : Gl X x ∧ (x == ("__debug__" : Str)) = false ∧ x ≠ "__name__" := by
  unfold isGl at h
  rw [Bool.and_eq_true] at h
  obtain ⟨d1, _, d3⟩ := okNm_ok h.1
  refine ⟨?_, d1, d3⟩
  show X.env.scope.names.lookup x = some .globalImplicit
  rw [s.sc]
  exact of_decide_eq_true h.2
theorem Sta.no (s : Sta P w G base T n c W X) {x : Str} (h : x ∈ bnames) : X.mg x = none := by rw [s.mg]; exact s.free x h
theorem star_of {e : Expr} (h : isStar e = false) (es : List Expr) (env : Env) : starEach (e :: es) env = (false, eval e env) :: starEach es env := by
  cases e <;> first | rfl | cases h
theorem Sta.nm (s : Sta P w G base T n c W X) {x : Str} {i : Nat} {pos : Pos} (h : stOf c x = some i) : PG X (.Name x pos) (gName i) := by
  unfold stOf at h
  have kk : ∀ k, kindC c x = some k → X.env.scope.names.lookup x = some k := fun k q => by rw [s.sc]; exact q
  have go : ∀ (q : idxN c.N x = some i), X.N[i]? = some x := fun q => by rw [s.N]; exact idxN_ok q
  cases kd : kindC c x with
  | none => rw [kd] at h; cases h
  | some k =>
    rw [kd] at h
    cases k with
    | «local» => exact pg_name s.nd (go h) (.inl (kk _ kd)) (.inr (kk _ kd))
    | cell =>
      cases ht : c.top with
      | true =>
        rw [ht] at h
        exact pg_name s.nd (go h) (.inr (kk _ kd)) (.inl (s.fn ht x))
      | false => rw [ht] at h; cases h
    | free => cases h
    | globalExplicit => cases h
    | globalImplicit => cases h
theorem Sta.nms (s : Sta P w G base T n c W X) : ∀ (es : List Expr) (is : List Nat), cNames c es = some is → PGs X es (gNs is)
  | [], is, h => by cases h; exact pgs_nil
  | .Name x p :: es, is, h => by
    have h' : (match stOf c x, cNames c es with | some i, some is => some (i :: is) | _, _ => none) = some is := h
    cases q1 : stOf c x with
    | none => rw [q1] at h'; cases h'
    | some i =>
      cases q2 : cNames c es with
      | none => rw [q1, q2] at h'; cases h'
      | some js =>
        rw [q1, q2] at h'
        cases h'
        exact pgs_cons (s.nm q1) (Sta.nms s es js q2) rfl
theorem cNames_len : ∀ (es : List Expr) (is : List Nat), cNames c es = some is → ∀ env : Env, (assignEach es env).length = is.length ∧ (assignEach es env).findIdx? (·.1) = none
  | [], is, h, env => by cases h; exact ⟨rfl, rfl⟩
  | .Name x p :: es, is, h, env => by
    have h' : (match stOf c x, cNames c es with | some i, some is => some (i :: is) | _, _ => none) = some is := h
    cases q1 : stOf c x with
    | none => rw [q1] at h'; cases h'
    | some i =>
      cases q2 : cNames c es with
      | none => rw [q1, q2] at h'; cases h'
      | some js =>
        rw [q1, q2] at h'
        cases h'
        obtain ⟨h1, h2⟩ := cNames_len es js q2 env
        have e : assignEach (.Name x p :: es) env = (false, assign (.Name x p) env) :: assignEach es env := rfl
        rw [e]
        refine ⟨by rw [List.length_cons, List.length_cons, h1], ?_⟩
        rw [List.findIdx?_cons]
        simp only [Bool.false_eq_true, if_false, h2, Option.map_none]
theorem Sta.tg (s : Sta P w G base T n c W X) {e : Expr} {t : Tg} (h : cTg c e = some t) : PG X e (gOf G.K t) := by
  cases e with
  | Name x pos =>
    have h' : (stOf c x).map Tg.one = some t := h
    cases q : stOf c x with
    | none => rw [q] at h'; cases h'
    | some i => rw [q] at h'; cases h'; exact s.nm q
  | Tuple es k pos =>
    have h' : (cNames c es).map Tg.tup = some t := h
    cases q : cNames c es with
    | none => rw [q] at h'; cases h'
    | some is =>
      rw [q] at h'
      cases h'
      obtain ⟨h1, h2⟩ := cNames_len es is q X.env
      have := pg_tup (pos := pos) (k := k) s.calm (Sta.nms s es is q) h1 h2
      rw [s.K] at this
      exact this
  | _ => cases h
end
end Hf

/-! Hf7: the text's expressions give what the small language says. -/
namespace Hf
open PySem PySem.Spec PyProof.Rows L2
set_option autoImplicit false
section
variable (P : Program) (w : World) (G : Gm) (base : Heap) (T : Tb) (m : Nat) (H0 : Hp)
def OkE (n : Nat) : Prop := ∀ (c : Cc) (e : Expr) (p : Ex), cE n c e = some p → ∀ (W : WD) (X : Cx), Sta P w G base T m c W X → PE X e (tD G W H0 (ev T p)) ∧ PE X e (tB G W H0 fun ρ => bor p ρ (ev T p ρ))
def OkT (n : Nat) : Prop := ∀ (c : Cc) (e : Expr) (p : Te), cT n c e = some p → ∀ (W : WD) (X : Cx), Sta P w G base T m c W X → PT X e (tT G W H0 (evT T p))
def OkI (n : Nat) : Prop := ∀ (c : Cc) (e : Expr) (p : Is), cI n c e = some p → ∀ (W : WD) (X : Cx) (tg : Expr), Sta P w G base T m c W X → PI X tg e (tI G W H0 (evi T p))
end
section
variable {P : Program} {w : World} {G : Gm} {base : Heap} {T : Tb} {m : Nat} {H0 : Hp}
theorem both {p : Ex} {W : WD} {X : Cx} {e : Expr} (hp : ∀ i, p ≠ .var i) (h : PE X e (tD G W H0 (ev T p))) : PE X e (tD G W H0 (ev T p)) ∧ PE X e (tB G W H0 fun ρ => bor p ρ (ev T p ρ)) := by
  refine ⟨h, ?_⟩
  have e1 : ∀ ρ, bor p ρ (ev T p ρ) = sndR (ev T p ρ) := fun ρ => by
    cases p with
    | var i => exact absurd rfl (hp i)
    | _ => rfl
  have := pe_B h
  simpa only [e1] using this
theorem cEs_ok {n : Nat} (ih : OkE P w G base T m H0 n) {c : Cc} {W : WD} {X : Cx} (s : Sta P w G base T m c W X) : ∀ (es : List Expr) (ps : Exs), cEs (cE n c) es = some ps →
    PA X es (tL G W H0 (evs T ps)) ∧ (∀ env : Env, ∀ pos : Pos, (backTo pos (starEach es env)).any (·.1) = false) ∧ ∀ e r, es = e :: r → ∀ env, starEach (e :: r) env = (false, eval e env) :: starEach r env
  | [], ps, h => by
    cases h
    exact ⟨pa_ni, fun _ _ => rfl, fun _ _ e => nomatch e⟩
  | e :: es, ps, h => by
    have h' : (match isStar e, cE n c e, cEs (cE n c) es with | false, some p, some ps => some (Exs.cons p ps) | _, _, _ => none) = some ps := h
    cases q1 : isStar e with
    | true => rw [q1] at h'; cases h'
    | false =>
      cases q2 : cE n c e with
      | none => rw [q1, q2] at h'; cases h'
      | some p =>
        cases q3 : cEs (cE n c) es with
        | none => rw [q1, q2, q3] at h'; cases h'
        | some r =>
          rw [q1, q2, q3] at h'
          cases h'
          obtain ⟨i1, i2, _⟩ := cEs_ok ih s es r q3
          refine ⟨pa_co (ih c e p q2 W X s).1 i1 (star_of q1 es X.env), fun env pos => ?_, fun e' r' he env => ?_⟩
          · rw [star_of q1 es env]
            show ((false, _) :: backTo pos (starEach es env)).any (·.1) = false
            rw [List.any_cons, i2 env pos] <;> rfl
          · cases he
            exact star_of q1 es env
theorem cBo_ok {n : Nat} (ih : OkE P w G base T m H0 n) {c : Cc} {W : WD} {X : Cx} (s : Sta P w G base T m c W X) {pos : Pos} (and : Bool) : ∀ (es : List Expr) (p : Ex), cBo and (cE n c) es = some p →
    PE X (.BoolOp (if and = true then .And else .Or) es pos) (tD G W H0 (ev T p)) ∧ (∀ i, p = .var i → es.length = 1)
  | [], p, h => by cases h
  | [e], p, h => ⟨pe_one (ih c e p h W X s).1, fun _ _ => rfl⟩
  | e :: e' :: es, p, h => by
    have h' : (match cE n c e, cBo and (cE n c) (e' :: es) with | some p, some q => some (if and = true then Ex.and p q else .or p q) | _, _ => none) = some p := h
    cases q2 : cE n c e with
    | none => rw [q2] at h'; cases h'
    | some a =>
      cases q3 : cBo and (cE n c) (e' :: es) with
      | none => rw [q2, q3] at h'; cases h'
      | some b =>
        rw [q2, q3] at h'
        cases h'
        obtain ⟨i1, _⟩ := cBo_ok ih s and (e' :: es) b q3 (pos := pos)
        cases and with
        | true => exact ⟨pe_an s.K (ih c e a q2 W X s).1 i1, fun _ z => by cases z⟩
        | false => exact ⟨pe_o s.K (ih c e a q2 W X s).1 i1, fun _ z => by cases z⟩
theorem cBoT_ok {n : Nat} (ih : OkT P w G base T m H0 n) {c : Cc} {W : WD} {X : Cx} (s : Sta P w G base T m c W X) {pos : Pos} (and : Bool) : ∀ (es : List Expr) (p : Te), cBoT and (cT n c) es = some p →
    PW X (.BoolOp (if and = true then .And else .Or) es pos) (tT G W H0 (evT T p))
  | [], p, h => by cases h
  | [e], p, h => by
    cases and with
    | true => exact pw_and1 (ih c e p h W X s)
    | false => exact pw_or1 (ih c e p h W X s)
  | e :: e' :: es, p, h => by
    have h' : (match cT n c e, cBoT and (cT n c) (e' :: es) with | some p, some q => some (if and = true then Te.and p q else .or p q) | _, _ => none) = some p := h
    cases q2 : cT n c e with
    | none => rw [q2] at h'; cases h'
    | some a =>
      cases q3 : cBoT and (cT n c) (e' :: es) with
      | none => rw [q2, q3] at h'; cases h'
      | some b =>
        rw [q2, q3] at h'
        cases h'
        have i1 := cBoT_ok ih s and (e' :: es) b q3 (pos := pos)
        cases and with
        | true => exact pw_an (ih c e a q2 W X s) i1
        | false => exact pw_o (ih c e a q2 W X s) i1
theorem mark_of {o : CmpOp} (h : cMp o = true) (b : Expr) : behindInMarks o b = false := nomark b (fun e => by subst e; cases h) (fun e => by subst e; cases h)
theorem marks_of {o o' : CmpOp} (h : cMp o' = true) (b d : Expr) : lastMarks [o, o'] [b, d] = false := by
  show lastMarks [o'] [d] = false
  exact mark_of h d
theorem bi_boot {x : Str} {f : Bi} (h : biOf x = some f) : bootBuiltins x = some f.fv ∧ x ∈ bnames ∧ x ≠ "__name__" := by
  unfold biOf at h
  split at h
  · cases h; rename_i e; subst e; exact ⟨by decide +kernel, by decide +kernel, by decide +kernel⟩
  · split at h
    · cases h; rename_i e; subst e; exact ⟨by decide +kernel, by decide +kernel, by decide +kernel⟩
    · split at h
      · cases h; rename_i e; subst e; exact ⟨by decide +kernel, by decide +kernel, by decide +kernel⟩
      · split at h
        · cases h; rename_i e; subst e; exact ⟨by decide +kernel, by decide +kernel, by decide +kernel⟩
        · split at h
          · cases h; rename_i e; subst e; exact ⟨by decide +kernel, by decide +kernel, by decide +kernel⟩
          · split at h
            · cases h; rename_i e; subst e; exact ⟨by decide +kernel, by decide +kernel, by decide +kernel⟩
            · cases h
theorem ty_boot {x : Str} {t : Ty} (h : tyOf x = some t) : bootBuiltins x = some (.type t.nm) ∧ x ∈ bnames ∧ x ≠ "__name__" := by
  unfold tyOf at h
  split at h
  · cases h; rename_i e; subst e; exact ⟨by decide +kernel, by decide +kernel, by decide +kernel⟩
  · split at h
    · cases h; rename_i e; subst e; exact ⟨by decide +kernel, by decide +kernel, by decide +kernel⟩
    · split at h
      · cases h; rename_i e; subst e; exact ⟨by decide +kernel, by decide +kernel, by decide +kernel⟩
      · split at h
        · cases h; rename_i e; subst e; exact ⟨by decide +kernel, by decide +kernel, by decide +kernel⟩
        · split at h
          · cases h; rename_i e; subst e; exact ⟨by decide +kernel, by decide +kernel, by decide +kernel⟩
          · cases h
theorem plain_is {e : Expr} (h : plainT e = true) (env : Env) : ∀ whole, isTrue e env whole = (do let v ← whole; standAt e.pos; holding [v] (truthy v)) := by
  intro whole
  cases e with
  | UnaryOp op a pos => cases op <;> first | rfl | cases h
  | _ => first | rfl | cases h
theorem plainIx_of {i : Expr} (h : isSlice i = false) : PlainIx i := by
  intro o v
  cases i with
  | Slice _ _ _ _ => cases h
  | _ => rfl
theorem sw_no {iter : Expr} (h : isSet iter = false) (env : Env) (x : Value) : foldedSetIterable iter env x = pure x := by
  cases iter with
  | Set _ _ _ => cases h
  | _ => rfl
end
end Hf

/-! Hf8: the induction over the text's expressions. -/
namespace Hf
open PySem PySem.Spec PyProof.Rows L2
set_option autoImplicit false
section
variable {P : Program} {w : World} {G : Gm} {base : Heap} {T : Tb} {m : Nat} {H0 : Hp}
theorem call_ok {n : Nat} (ih : OkE P w G base T m H0 n) {c : Cc} {W : WD} {X : Cx} (s : Sta P w G base T m c W X) {f : Str} {k : Nat} {es : List Expr} {ps : Exs} {q pos : Pos} (hg : isGl c f = true) (hf : c.fs.lookup f = some k) (hl : es.length = k) (h : cEs (cE n c) es = some ps) :
    PE X (.Call (.Name f q) es [] pos) (tD G W H0 (ev T (.call f ps))) := by
  obtain ⟨fa, fd, nm, hk, hm, F, kp, hb⟩ := s.fns f k hf
  obtain ⟨g1, g2, _⟩ := s.gl hg
  obtain ⟨i1, i2, i3⟩ := cEs_ok ih s es ps h
  have F' : FnOk X.prog X.w X.K X.mg X.base (L2.CX X.prog X.w) m fa fd nm (spD G k (T.fn f)) := by rw [s.eP, s.ew, s.K, s.mg, s.eb]; exact F
  have hm' : X.mg f = some (.ref fa) := by rw [s.mg]; exact hm
  have kp' : PySem.W.keepIn X.K (.ref fa) = true := by rw [s.K]; exact kp
  have hb' : Binds X.K fd nm [] := by rw [s.K]; exact hb
  have len : ∀ es ps, cEs (cE n c) es = some ps → ∀ ρ ds, evs T ps ρ = .ok ds → ds.length = es.length := by
    intro es
    induction es with
    | nil => intro ps h ρ ds e; cases h; cases e; rfl
    | cons a r ihr =>
      intro ps h ρ ds e
      have h' : (match isStar a, cE n c a, cEs (cE n c) r with | false, some p, some ps => some (Exs.cons p ps) | _, _, _ => none) = some ps := h
      cases q1 : isStar a with
      | true => rw [q1] at h'; cases h'
      | false =>
        cases q2 : cE n c a with
        | none => rw [q1, q2] at h'; cases h'
        | some p =>
          cases q3 : cEs (cE n c) r with
          | none => rw [q1, q2, q3] at h'; cases h'
          | some rr =>
            rw [q1, q2, q3] at h'
            cases h'
            have e' : ((ev T p ρ).bind fun x => (evs T rr ρ).bind fun xs => Res.ok (x.2 :: xs)) = .ok ds := e
            cases z1 : ev T p ρ with
            | fail => rw [z1] at e'; cases e'
            | exc _ => rw [z1] at e'; cases e'
            | ok x =>
              cases z2 : evs T rr ρ with
              | fail => rw [z1, z2] at e'; cases e'
              | exc _ => rw [z1, z2] at e'; cases e'
              | ok xs =>
                rw [z1, z2] at e'
                cases e'
                rw [List.length_cons, List.length_cons, ihr rr q3 ρ xs z2]
  have fin : ∀ σ H Q, tD G W H0 (ev T (.call f ps)) σ H Q → tCallS (spD G k (T.fn f)) (WE (wOf G W)) (tL G W H0 (evs T ps)) σ H Q := by
    intro σ H Q ⟨S, ρ, R, p⟩
    have p : Post G (fun c => W c σ) H S ((evs T ps ρ).bind (T.fn f)) Q := p
    cases z : evs T ps ρ with
    | fail => rw [z] at p; exact p.elim
    | exc c => exact ⟨S, ρ, R, by rw [z] at p ⊢; exact p⟩
    | ok ds =>
      refine ⟨S, ρ, R, ?_⟩
      rw [z] at p ⊢
      intro vs H1 S1 e1 r1
      refine ⟨?_, S1, ds, (R.gr e1).dom, r1, (Post.gr e1 (show Post G _ H S (T.fn f ds) Q from p)).weak fun c H' w a ha => ⟨c, a, rfl, ha, rfl, w⟩⟩
      rw [← Paired.length r1, len es ps h ρ ds z, hl]
  cases es with
  | nil =>
    cases h
    exact (pe_callS0 F' s.room g1 hm' kp' hb' (fun σ => passAt s.tk σ) g2).im fun σ H Q q => by
      obtain ⟨S, ρ, R, p⟩ := fin σ H Q q
      exact p [] H S (Gr.refl _ _) .nil
  | cons a r => exact (pe_callS F' s.room g1 hm' kp' hb' (fun σ => passAt s.tk σ) i1 g2 (i3 a r rfl X.env) (by have := i2 X.env pos; rw [i3 a r rfl X.env] at this; exact (by simpa [backTo, List.any_cons] using this))).im fin
theorem bi_ok {n : Nat} (ih : OkE P w G base T m H0 n) {c : Cc} {W : WD} {X : Cx} (s : Sta P w G base T m c W X) {f : Str} {b : Bi} {a : Expr} {p : Ex} {q pos : Pos} (hg : isGl c f = true) (hf : biOf f = some b) (hs : isStar a = false) (h : cE n c a = some p) :
    PE X (.Call (.Name f q) [a] [] pos) (tD G W H0 (ev T (.bi b p))) := by
  obtain ⟨b1, b2, b3⟩ := bi_boot hf
  obtain ⟨g1, g2, _⟩ := s.gl hg
  exact pe_b1 s.K s.calm g1 (s.no b2) b1 b3 g2 (ih c a p h W X s).2 (star_of hs [] X.env)
theorem is_ok {n : Nat} (ih : OkE P w G base T m H0 n) {c : Cc} {W : WD} {X : Cx} (s : Sta P w G base T m c W X) {y : Str} {t : Ty} {a : Expr} {p : Ex} {q py pos : Pos} (hg : isGl c "isinstance" = true) (hy : isGl c y = true) (ht : tyOf y = some t) (hs : isStar a = false) (h : cE n c a = some p) :
    PE X (.Call (.Name "isinstance" q) [a, .Name y py] [] pos) (tD G W H0 (ev T (.isi p t))) := by
  obtain ⟨b1, b2, b3⟩ := ty_boot ht
  obtain ⟨g1, g2, _⟩ := s.gl hg
  obtain ⟨y1, y2, _⟩ := s.gl hy
  exact pe_is (pt := pos) s.K g1 (s.no (by decide +kernel)) (pe_bltn y1 (s.no b2) b1 rfl b3 y2) (ih c a p h W X s).2 (star_of hs _ X.env) rfl rfl
theorem gl_ok {c : Cc} {W : WD} {X : Cx} (s : Sta P w G base T m c W X) {x : Str} {pos : Pos} (hg : isGl c x = true) (hx : x ∈ c.gs) : PE X (.Name x pos) (tD G W H0 (ev T (.gl x))) := by
  obtain ⟨g1, g2, _⟩ := s.gl hg
  cases z : T.gl x with
  | none =>
    refine ⟨fun pins sh σ H Q I ⟨S, ρ, R, p⟩ => ?_⟩
    have p : Post G (fun c => W c σ) H S (match T.gl x with | some d => okF d | none => .fail) Q := p
    rw [z] at p
    exact p.elim
  | some d =>
    obtain ⟨u, v, h1, h2, h3⟩ := s.gls x hx d z
    have e : (ev T (.gl x)) = fun ρ => okF d := by
      funext ρ
      show (match T.gl x with | some d => okF d | none => .fail) = okF d
      rw [z]
    rw [e]
    exact pe_lit (pe_glob g1 (by rw [s.mg]; exact h1) h2 g2) h3
theorem co_ok {n : Nat} (ihE : OkE P w G base T m H0 n) (ihT : OkT P w G base T m H0 n) (ihI : OkI P w G base T m H0 n) {c : Cc} {W : WD} {X : Cx} (s : Sta P w G base T m c W X) {elt tg iter : Expr} {ifs : List Expr} {scope : Scope} {pos : Pos} {t : Tg} {it : Is} {k : Tes} {p : Ex}
    (hb : blkC c.N c.sc scope (ownOf c.N scope) = true) (ht : cTg { c with sc := relS scope c.sc, top := false } tg = some t) (hi : cI n c iter = some it)
    (hk : (match ifs with | [] => some Tes.nil | [t] => (cT n { c with sc := relS scope c.sc, top := false } t).map Tes.one | _ => none) = some k) (hp : cE n { c with sc := relS scope c.sc, top := false } elt = some p)
    (hsl : t.sl.all (fun i => decide (i ∈ (ownOf c.N scope).map (·.2))) = true) (hset : isSet iter = false) :
    (∀ σ H Q, tD G W H0 (ev T (.comp t ((ownOf c.N scope).map (·.2)) it k p)) σ H Q → tLc (tI G W H0 (evi T it)) (gOf G.K t) (tT G (fun _ _ _ => False) H0 (evc T k)) (tD G (fun _ _ _ => False) H0 (ev T p)) ((ownOf c.N scope).map (·.2)) σ H Q) ∧
    PI X tg iter (tI G W H0 (evi T it)) ∧ BlkOk X.N X.env.scope scope (ownOf c.N scope) ∧
    (∀ (sh : Shared) (H : Hp) (C : Addr) (cl : List (Str × Addr)) (fp : List Addr), PG (X.blk sh H scope (compEnvC scope cl C X.env) fp) tg (gOf G.K t)) ∧
    (∀ (sh : Shared) (H : Hp) (C : Addr) (cl : List (Str × Addr)) (fp : List Addr), PTs (X.blk sh H scope (compEnvC scope cl C X.env) fp) ifs (tT G (fun _ _ _ => False) H0 (evc T k))) ∧
    (∀ (sh : Shared) (H : Hp) (C : Addr) (cl : List (Str × Addr)) (fp : List Addr), PE (X.blk sh H scope (compEnvC scope cl C X.env) fp) elt (tD G (fun _ _ _ => False) H0 (ev T p))) := by
  have h1 : PI X tg iter (tI G W H0 (evi T it)) := ihI c iter it hi W X tg s
  have h2 : BlkOk X.N X.env.scope scope (ownOf c.N scope) := by rw [s.N, s.sc]; exact blkOk_by hb
  have h3 : ∀ (sh : Shared) (H : Hp) (C : Addr) (cl : List (Str × Addr)) (fp : List Addr), PG (X.blk sh H scope (compEnvC scope cl C X.env) fp) tg (gOf G.K t) := fun sh H C cl fp => (s.blk sh H scope cl C fp).tg ht
  have h5 : ∀ (sh : Shared) (H : Hp) (C : Addr) (cl : List (Str × Addr)) (fp : List Addr), PE (X.blk sh H scope (compEnvC scope cl C X.env) fp) elt (tD G (fun _ _ _ => False) H0 (ev T p)) := fun sh H C cl fp => (ihE _ _ _ hp _ _ (s.blk sh H scope cl C fp)).1
  have h4 : ∀ (sh : Shared) (H : Hp) (C : Addr) (cl : List (Str × Addr)) (fp : List Addr), PTs (X.blk sh H scope (compEnvC scope cl C X.env) fp) ifs (tT G (fun _ _ _ => False) H0 (evc T k)) := fun sh H C cl fp => by
    match ifs, hk with
    | [], hk =>
      cases hk
      exact ⟨fun pins s σ H Q I ⟨S, ρ, R, p⟩ => pts_nil.run pins s σ H Q I (p H S (Gr.refl _ _))⟩
    | [u], hk =>
      have hk' : (cT n { c with sc := relS scope c.sc, top := false } u).map Tes.one = some k := hk
      cases q : cT n { c with sc := relS scope c.sc, top := false } u with
      | none => rw [q] at hk'; cases hk'
      | some v =>
        rw [q] at hk'
        cases hk'
        exact pts_one (ihT _ _ _ q _ _ (s.blk sh H scope cl C fp))
  refine ⟨?_, h1, h2, h3, h4, h5⟩
  exact pe_co (pos := pos) s.K s.calm s.nd h1 h2 (fun i hi => of_decide_eq_true (List.all_eq_true.mp hsl i hi)) h3 h4 h5
theorem cI_set {n : Nat} {c : Cc} {e : Expr} {p : Is} (h : cI n c e = some p) : isSet e = false := by
  cases n with
  | zero => cases h
  | succ n =>
    cases e with
    | Set a b d =>
      have h' : (match isSet (.Set a b d) with | false => (cE n c (.Set a b d)).map Is.seq | true => none) = some p := h
      cases h'
    | _ => rfl
theorem tru_b {W : Str → Hp → Prop} {H : Hp} {S : Sy} {r : Res Bool} {Q : Bool → Hp → Prop} (p : PostV W H S ((sndR (okB r)).bind D.tru) Q) : PostV W H S r Q := by
  cases r with
  | ok b => exact p
  | exc c => exact p
  | fail => exact p
theorem tst_ok {W : Str → Hp → Prop} {H : Hp} {S : Sy} {ra rb : Res D} {o : CmpOp} {Q : Bool → Hp → Prop} (p : PostV W H S ((sndR (ra.bind fun x => rb.bind fun y => okB (cmpD o x y))).bind D.tru) Q) : PostV W H S (ra.bind fun x => rb.bind fun y => cmpD o x y) Q := by
  cases ra with
  | fail => exact p
  | exc c => exact p
  | ok x =>
    cases rb with
    | fail => exact p
    | exc c => exact p
    | ok y => exact tru_b (r := cmpD o x y) p
theorem tst_ok2 {W : Str → Hp → Prop} {H : Hp} {S : Sy} {ra rb rc : Res D} {o o' : CmpOp} {Q : Bool → Hp → Prop} (p : PostV W H S ((sndR (ra.bind fun x => rb.bind fun y => (cmpD o x y).bind fun k => if k = true then rc.bind fun z => okB (cmpD o' y z) else okF (.bl false))).bind D.tru) Q) :
    PostV W H S (ra.bind fun x => rb.bind fun y => (cmpD o x y).bind fun k => if k = true then rc.bind fun z => cmpD o' y z else .ok false) Q := by
  cases ra with
  | fail => exact p
  | exc c => exact p
  | ok x =>
    cases rb with
    | fail => exact p
    | exc c => exact p
    | ok y =>
      have p : PostV W H S ((sndR ((cmpD o x y).bind fun k => if k = true then rc.bind fun z => okB (cmpD o' y z) else okF (.bl false))).bind D.tru) Q := p
      show PostV W H S ((cmpD o x y).bind fun k => if k = true then rc.bind fun z => cmpD o' y z else .ok false) Q
      cases z : cmpD o x y with
      | fail => rw [z] at p; exact p
      | exc c => rw [z] at p; exact p
      | ok k =>
        rw [z] at p
        cases k with
        | false => exact p
        | true =>
          cases rc with
          | fail => exact p
          | exc c => exact p
          | ok z => exact tru_b (r := cmpD o' y z) p
theorem ok_all : ∀ n, OkE P w G base T m H0 n ∧ OkT P w G base T m H0 n ∧ OkI P w G base T m H0 n
  | 0 => ⟨fun _ _ _ h => (nomatch h), fun _ _ _ h => (nomatch h), fun _ _ _ h => (nomatch h)⟩
  | n + 1 => by
    obtain ⟨ihE, ihT, ihI⟩ := ok_all n
    refine ⟨fun c e p h W X s => ?_, fun c e p h W X s => ?_, fun c e p h W X tg s => ?_⟩
    · unfold cE at h
      split at h
      · cases h; exact both (fun _ z => by cases z) (pe_lit pe_int fun _ _ => .int _)
      · cases h; exact both (fun _ z => by cases z) (pe_lit pe_bl fun _ _ => .bl _)
      · cases h; exact both (fun _ z => by cases z) (pe_lit pe_str fun _ _ => .str _)
      · cases h; exact both (fun _ z => by cases z) (pe_lit pe_non fun _ _ => .non)
      · split at h
        · rename_i i q
          cases h
          exact ⟨pe_getF (s.var q), pe_getO (s.var q)⟩
        · split at h
          · rename_i q
            cases h
            exact both (fun _ z => by cases z) (gl_ok s q.1 q.2)
          · cases h
      · split at h
        · rename_i q1 q2
          cases h
          exact both (fun _ z => by cases z) (pe_bin s.K (ihE _ _ _ q1 W X s).2 (ihE _ _ _ q2 W X s).2)
        · cases h
      · rename_i a _
        cases q : cE n c a with
        | none => rw [q] at h; cases h
        | some a' =>
          rw [q] at h
          cases h
          exact both (fun _ z => by cases z) (pe_ng (ihE _ _ _ q W X s).2)
      · rename_i a _
        cases q : cE n c a with
        | none => rw [q] at h; cases h
        | some a' =>
          rw [q] at h
          cases h
          exact both (fun _ z => by cases z) (pe_no s.K (ihE _ _ _ q W X s).2)
      · split at h
        · rename_i q0 q1 q2
          cases h
          exact both (fun _ z => by cases z) (pe_cm s.K s.units (mark_of q0 _) (ihE _ _ _ q1 W X s).2 (ihE _ _ _ q2 W X s).2)
        · cases h
      · split at h
        · rename_i q0 q00 q1 q2 q3
          cases h
          exact both (fun _ z => by cases z) (pe_ch s.K s.units (marks_of q00 _ _) (ihE _ _ _ q1 W X s).2 (ihE _ _ _ q2 W X s).2 (ihE _ _ _ q3 W X s).2)
        · cases h
      · obtain ⟨h1, h2⟩ := cBo_ok ihE s true _ p h
        exact both (fun i z => by have := h2 i z; simp at this) h1
      · obtain ⟨h1, h2⟩ := cBo_ok ihE s false _ p h
        exact both (fun i z => by have := h2 i z; simp at this) h1
      · split at h
        · rename_i q1 q2 q3
          cases h
          exact both (fun _ z => by cases z) (pe_if (ihT _ _ _ q1 W X s) (ihE _ _ _ q2 W X s).1 (ihE _ _ _ q3 W X s).1)
        · cases h
      · rename_i es _ _
        cases q : cEs (cE n c) es with
        | none => rw [q] at h; cases h
        | some a' =>
          rw [q] at h
          cases h
          exact both (fun _ z => by cases z) (pe_tu (cEs_ok ihE s _ _ q).1)
      · rename_i es _
        cases q : cEs (cE n c) es with
        | none => rw [q] at h; cases h
        | some a' =>
          rw [q] at h
          cases h
          exact both (fun _ z => by cases z) (pe_li (cEs_ok ihE s _ _ q).1)
      · rename_i a lo hi _ _
        have pp : ∀ (o : Option Expr) (l : Exo), (match o with | none => some Exo.none | some l => (cE n c l).map Exo.some) = some l → PO X o (tO G W H0 (evo T l)) := fun o l q => by
          cases o with
          | none => cases q; exact po_no
          | some e =>
            have q' : (cE n c e).map Exo.some = some l := q
            cases z : cE n c e with
            | none => rw [z] at q'; cases q'
            | some e' => rw [z] at q'; cases q'; exact po_so (ihE _ _ _ z W X s).2
        split at h
        · rename_i q1 q2 q3
          cases h
          exact both (fun _ z => by cases z) (pe_sl s.K (ihE _ _ _ q1 W X s).2 (pp _ _ q2) (pp _ _ q3))
        · cases h
      · split at h
        · rename_i q0 q1 q2
          cases h
          exact both (fun _ z => by cases z) (pe_id s.K (plainIx_of q0) (ihE _ _ _ q1 W X s).2 (ihE _ _ _ q2 W X s).2)
        · cases h
      · split at h
        · cases h
        · rename_i hg
          split at h
          · rename_i k hf
            split at h
            · rename_i hl
              rename_i es _ _ _
              cases q : cEs (cE n c) es with
              | none => rw [q] at h; cases h
              | some ps => rw [q] at h; cases h; exact both (fun _ z => by cases z) (call_ok ihE s hg hf hl q)
            · cases h
          · split at h
            · rename_i hn
              subst hn
              split at h
              · split at h
                · rename_i q0 q1 q2
                  cases h
                  rw [Bool.and_eq_true] at q0
                  exact both (fun _ z => by cases z) (is_ok ihE s hg q0.1 q2 (eq_of_beq q0.2) q1)
                · cases h
              · cases h
            · split at h
              · rename_i b a qb
                split at h
                · rename_i q0 q1
                  cases h
                  exact both (fun _ z => by cases z) (bi_ok ihE s hg qb q0 q1)
                · cases h
              · cases h
      · dsimp only at h
        split at h
        · rename_i q1 q2 q3 q4 q5
          split at h
          · rename_i q6
            cases h
            obtain ⟨k1, k2, k3, k4, k5, k6⟩ := co_ok ihE ihT ihI s (pos := ⟨0, 0, 0, 0⟩) q1 q2 q3 q4 q5 q6 (cI_set q3)
            exact both (fun _ z => by cases z) ((pe_lc s.calm s.nd k2 k3 k4 k5 k6 (sw_no (cI_set q3) X.env)).im k1)
          · cases h
        · cases h
      · cases h
    · unfold cT at h
      split at h
      · exact (cBoT_ok ihT s true _ p h).pt
      · exact (cBoT_ok ihT s false _ p h).pt
      · rename_i a _
        cases q : cT n c a with
        | none => rw [q] at h; cases h
        | some a' => rw [q] at h; cases h; exact pt_no (ihT _ _ _ q W X s)
      · split at h
        · rename_i q0 q1 q2
          cases h
          exact (pt_cm s.K s.units (mark_of q0 _) (ihE _ _ _ q1 W X s).2 (ihE _ _ _ q2 W X s).2).im fun σ H Q ⟨S, ρ, R, p⟩ => ⟨S, ρ, R, tst_ok p⟩
        · cases h
      · split at h
        · rename_i q0 q00 q1 q2 q3
          cases h
          exact (pt_ch s.K s.units (marks_of q00 _ _) (ihE _ _ _ q1 W X s).2 (ihE _ _ _ q2 W X s).2 (ihE _ _ _ q3 W X s).2).im fun σ H Q ⟨S, ρ, R, p⟩ => ⟨S, ρ, R, tst_ok2 p⟩
        · cases h
      · split at h
        · rename_i q0
          cases q : cE n c e with
          | none => rw [q] at h; cases h
          | some a' => rw [q] at h; cases h; exact pt_tr s.K (ihE _ _ _ q W X s).2 (plain_is q0 X.env)
        · cases h
    · unfold cI at h
      split at h
      · split at h
        · rename_i q0
          rw [Bool.and_eq_true, Bool.and_eq_true] at q0
          obtain ⟨⟨qg, qn⟩, _⟩ := q0
          have qn := of_decide_eq_true qn
          subst qn
          obtain ⟨g1, _, _⟩ := s.gl qg
          have gm := s.no (x := "range") (by decide +kernel)
          split at h
          · split at h
            · rename_i q1 q2
              cases h
              exact pi_r1 g1 gm (ihE _ _ _ q2 W X s).2 (star_of q1 [] X.env)
            · cases h
          · split at h
            · rename_i q1 q2 q3 q4
              cases h
              exact pi_r2 g1 gm (ihE _ _ _ q3 W X s).2 (ihE _ _ _ q4 W X s).2 (by rw [star_of q1, star_of q2]; rfl) (star_of q2 [] X.env)
            · cases h
          · cases h
        · obtain ⟨a', q, e'⟩ := Option.map_eq_some_iff.mp h
          subst e'
          exact pi_sq s.K (ihE _ _ _ q W X s).1
      · split at h
        · rename_i q0
          cases q : cE n c e with
          | none => rw [q] at h; cases h
          | some a' => rw [q] at h; cases h; exact pi_sq s.K (ihE _ _ _ q W X s).1
        · cases h
end
end Hf

/-! Hf9: statements of the small language, what they do. -/
namespace Hf
open PySem PySem.Spec PyProof.Rows L2
set_option autoImplicit false

/-! ### the slots that a term hands on as values -/
def ub (a : Ex) (l : List Nat) : List Nat := match a with
  | .var _ => []
  | _ => l
mutual
def us : Ex → List Nat
  | .lit _ => []
  | .var i => [i]
  | .gl _ => []
  | .bin _ a b => ub a (us a) ++ ub b (us b)
  | .neg a => ub a (us a)
  | .cmp _ a b => ub a (us a) ++ ub b (us b)
  | .chn _ _ a b c => ub a (us a) ++ ub b (us b) ++ ub c (us c)
  | .and a b => us a ++ us b
  | .or a b => us a ++ us b
  | .not a => ub a (us a)
  | .ite c a b => usT c ++ us a ++ us b
  | .tup es => uss es
  | .lst es => uss es
  | .idx a i => ub a (us a) ++ ub i (us i)
  | .slc a lo hi => ub a (us a) ++ uso lo ++ uso hi
  | .call _ es => uss es
  | .bi _ a => ub a (us a)
  | .isi a _ => ub a (us a)
  | .comp _ _ it c e => usi it ++ usc c ++ us e
def uss : Exs → List Nat
  | .nil => []
  | .cons e es => us e ++ uss es
def uso : Exo → List Nat
  | .none => []
  | .some e => ub e (us e)
def usT : Te → List Nat
  | .val e => ub e (us e)
  | .and a b => usT a ++ usT b
  | .or a b => usT a ++ usT b
  | .not a => usT a
def usc : Tes → List Nat
  | .nil => []
  | .one c => usT c
def usi : Is → List Nat
  | .seq e => us e
  | .rng1 hi => ub hi (us hi)
  | .rng2 lo hi => ub lo (us lo) ++ ub hi (us hi)
end
/-- own lists become frozen ones -/
def fz : List Nat → En → En
  | [], ρ => ρ
  | i :: is, ρ => match (fz is ρ)[i]? with
    | some (some (true, d)) => (fz is ρ).set i (some (false, d))
    | _ => fz is ρ

mutual
inductive St where
  | pass | brk | cnt
  | expr (e : Ex)
  | set (i : Nat) (e : Ex)
  | sets (t : Tg) (e : Ex)
  | aug (i : Nat) (o : Operator) (e : Ex)
  | app (i : Nat) (e : Ex)
  | ext (i : Nat) (e : Ex)
  | pop (t : Tg) (i : Nat)
  | put (i : Nat) (k e : Ex)
  | ret (e : Ex) | retN
  | ifs (c : Te) (a b : Sts)
  | whl (c : Te) (b : Sts)
  | for_ (t : Tg) (it : Is) (b : Sts)
inductive Sts where
  | nil | cons (s : St) (ss : Sts)
end
/-- where a statement ends -/
inductive Fl where
  | nx (ρ : En) | rt (own : Bool) (d : D) | bk (ρ : En) | ct (ρ : En) | ex (c : Str) (ρ : En) | fail
def Fl.seq (r : Fl) (f : En → Fl) : Fl := match r with
  | .nx ρ => f ρ
  | r => r
/-- a result, in the environment in which it was reckoned -/
def onR {α : Type} (r : Res α) (ρ : En) (f : α → Fl) : Fl := match r with
  | .ok a => f a
  | .exc c => .ex c ρ
  | .fail => .fail
def iopD (o : Operator) (a b : D) : Res (Bool × D) := match o, a, b with
  | .Add, .int i, .int j => okF (.int (i + j))
  | .Sub, .int i, .int j => okF (.int (i - j))
  | .Mult, .int i, .int j => if MulOk i j then okF (.int (i * j)) else .fail
  | .FloorDiv, .int i, .int j => if 0 < j ∧ j < 1073741824 then okF (.int (i / j)) else .fail
  | .Add, .str x, .str y => if x.length + y.length ≤ sizeLine then okF (.str (x ++ y)) else .fail
  | _, _, _ => .fail
def forN (t : Tg) (b : En → Fl) : List D → En → Fl
  | [], ρ => .nx ρ
  | d :: ds, ρ => match bindT t d ρ with
    | .ok ρ1 => (match b ρ1 with
      | .nx ρ2 => forN t b ds ρ2
      | .ct ρ2 => forN t b ds ρ2
      | .bk ρ2 => .nx ρ2
      | r => r)
    | _ => .fail
def whN (c : En → Res Bool) (z : En → En) (b : En → Fl) : Nat → En → Fl
  | 0, _ => .fail
  | n + 1, ρ => onR (c (z ρ)) (z ρ) fun k => if k = true then (match b (z ρ) with
    | .nx ρ2 => whN c z b n ρ2
    | .ct ρ2 => whN c z b n ρ2
    | .bk ρ2 => .nx ρ2
    | r => r) else .nx (z ρ)
mutual
/-- wf: the most turns of a while -/
def ex (T : Tb) (wf : Nat) : St → En → Fl
  | .pass, ρ => .nx ρ
  | .brk, ρ => .bk ρ
  | .cnt, ρ => .ct ρ
  | .expr e, ρ => onR (ev T e (fz (us e) ρ)) (fz (us e) ρ) fun _ => .nx (fz (us e) ρ)
  | .set i e, ρ => onR (ev T e (fz (us e) ρ)) (fz (us e) ρ) fun x => .nx ((fz (us e) ρ).set i (some x))
  | .sets t e, ρ => onR (ev T e (fz (us e) ρ)) (fz (us e) ρ) fun x => (match bindT t x.2 (fz (us e) ρ) with
    | .ok ρ' => .nx ρ'
    | _ => .fail)
  | .aug i o e, ρ => onR (getO ρ i) ρ fun a => onR (ev T e (fz (us e) ρ)) (fz (us e) ρ) fun b => onR (iopD o a.2 b.2) ρ fun x => .nx ((fz (us e) ρ).set i (some x))
  | .app i e, ρ => onR (getO (fz (us e) ρ) i) ρ fun a => (match a with
    | (true, .lst ds) => onR (ev T e (fz (us e) ρ)) (fz (us e) ρ) fun b => if ds.length < sizeLine then .nx ((fz (us e) ρ).set i (some (true, .lst (ds ++ [b.2])))) else .fail
    | _ => .fail)
  | .ext i e, ρ => onR (getO (fz (us e) ρ) i) ρ fun a => (match a with
    | (true, .lst ds) => onR (ev T e (fz (us e) ρ)) (fz (us e) ρ) fun b => (match b.2 with
      | .tup es => if ds.length + es.length ≤ sizeLine then .nx ((fz (us e) ρ).set i (some (true, .lst (ds ++ es)))) else .fail
      | .lst es => if ds.length + es.length ≤ sizeLine then .nx ((fz (us e) ρ).set i (some (true, .lst (ds ++ es)))) else .fail
      | _ => .fail)
    | _ => .fail)
  | .pop t i, ρ => onR (getO ρ i) ρ fun a => (match a with
    | (true, .lst ds) => (match ds[ds.length - 1]? with
      | some d => (match bindT t d (ρ.set i (some (true, .lst ds.dropLast))) with
        | .ok ρ' => .nx ρ'
        | _ => .fail)
      | none => .fail)
    | _ => .fail)
  | .put i k e, ρ => onR (getO (fz (us e ++ us k) ρ) i) ρ fun a => (match a with
    | (true, .lst ds) => onR (ev T e (fz (us e ++ us k) ρ)) (fz (us e ++ us k) ρ) fun b => onR (ev T k (fz (us e ++ us k) ρ)) (fz (us e ++ us k) ρ) fun j => (match j.2 with
      | .int j => (match ixN ds.length j with
        | some n => .nx ((fz (us e ++ us k) ρ).set i (some (true, .lst (ds.set n b.2))))
        | none => .fail)
      | _ => .fail)
    | _ => .fail)
  | .ret e, ρ => (match e with
    | .var i => onR (getO ρ i) ρ fun x => .rt x.1 x.2
    | e => onR (ev T e (fz (us e) ρ)) (fz (us e) ρ) fun x => .rt x.1 x.2)
  | .retN, _ => .rt false .non
  | .ifs c a b, ρ => onR (evT T c (fz (usT c) ρ)) (fz (usT c) ρ) fun k => if k = true then exs T wf a (fz (usT c) ρ) else exs T wf b (fz (usT c) ρ)
  | .whl c b, ρ => whN (evT T c) (fz (usT c)) (exs T wf b) wf ρ
  | .for_ t it b, ρ => onR (evi T it (fz (usi it) ρ)) (fz (usi it) ρ) fun ds => forN t (exs T wf b) ds (fz (usi it) ρ)
def exs (T : Tb) (wf : Nat) : Sts → En → Fl
  | .nil, ρ => .nx ρ
  | .cons s ss, ρ => (ex T wf s ρ).seq (exs T wf ss)
end

/-! ### values: op=, extend by a tuple -/
section
variable {X : Cx} {G : Gm}
theorem iop_mulW : OpR X (inplaceOp .Mult) (rI MulOk fun i j => .int (i * j)) := opI fun _ _ _ _ _ _ _ hc q => imul_int q hc.ok
theorem op_iD (o : Operator) : OpR X (inplaceOp o) (rD G (iopD o)) := by
  refine op_pick fun pins s σ H W S x y v u Q dx dy I rx ry dm lx ly p => ?_
  cases dx with
  | int i =>
    cases dy with
    | int j =>
      have ex := lx.int
      have ey := ly.int
      subst ex ey
      cases o with
      | Add => exact iop_add pins s σ H _ _ v u Q I rx ry ⟨i, j, rfl, rfl, p.f (.int _)⟩
      | Sub => exact iop_sub pins s σ H _ _ v u Q I rx ry ⟨i, j, rfl, rfl, p.f (.int _)⟩
      | Mult =>
        obtain ⟨c, p⟩ := Post.ite p
        exact iop_mulW pins s σ H _ _ v u Q I rx ry ⟨i, j, rfl, rfl, c, p.f (.int _)⟩
      | FloorDiv =>
        obtain ⟨c, p⟩ := Post.ite p
        exact iop_fdiv pins s σ H _ _ v u Q I rx ry ⟨i, j, rfl, rfl, c, p.f (.int _)⟩
      | _ => exact False.elim p
    | _ => cases o <;> exact False.elim p
  | str a =>
    cases dy with
    | str b =>
      have ex := lx.str
      have ey := ly.str
      subst ex ey
      cases o with
      | Add =>
        obtain ⟨c, p⟩ := Post.ite p
        exact iop_add_str pins s σ H _ _ v u Q I rx ry ⟨a, b, rfl, rfl, c, p.f (.str _)⟩
      | _ => exact False.elim p
    | _ => cases o <;> exact False.elim p
  | _ => cases o <;> cases dy <;> exact False.elim p
open PySem.AutoSeq1 (wpAny_loadPart') in
theorem list_extend_tupW (l : Addr) (items : Array Value) (n : Nat) (b : Addr) (items2 : Array Value) (n2 : Nat) (dd : Option Addr) (sl : Array (Option Value)) (hs0 : ¬(!items.isEmpty && Builtin.List.listTooLong (items.size + items2.size)) = true) (hs1 : items.size ≤ sizeLine) (hs2 : items.size + items2.size ≤ sizeLine + 1) :
    Meets (Builtin.«list.extend» ⟨[.ref l, .ref b], []⟩) (fun _ R s => s.heap.get? l = some { cls := .type "list", dict := none, data := .seq items n, slots := #[] } ∧ s.heap.get? b = some { cls := .type "tuple", dict := dd, data := .seq items2 n2, slots := sl } ∧ R (.ok (.ret Value.none)) { s with heap := s.heap.update l (Obj.mapSeq fun x => x ++ items2), toks := s.toks }) :=
  .of_wp fun prog w A R s h => by
    obtain ⟨hp, g, d, tk, os⟩ := s; obtain ⟨hl, hb, h⟩ := h; have f1 := AutoSeq1.idx_int; have f2 := AutoSeq1.sub_tuple_tuple; have f3 := AutoSeq1.sub_list_list; have f4 := AutoSeq1.sub_tuple_list; have f5 := AutoSeq1.sub_list_tuple;
    have hz' : (items ++ items2).size ≤ sizeLine + 1 := by rw [Array.size_append]; exact hs2
    wp_walk using (wpAny_updateSeq hl rfl (hz := hs1) (_hz' := hz')), wpAny_loadPart' hl, wpAny_loadPart' hb; exact ⟨_, rfl, h⟩
def rExtT (K : PySem.W.Frag) : V → List V → Hp → VK → Prop := fun x vs H Q => ∃ l b xs zs, x = .ref l ∧ vs = [.ref b] ∧ H l = some (.lst xs) ∧ SqT K H b zs ∧ xs.length + zs.length ≤ sizeLine ∧ Q .non (upd H l (.lst (xs ++ zs)))
theorem mt_extT : MtM X "list.extend" (rExtT X.K) := by
  intro pins s σ H x xs v us Q I rx rv h
  obtain ⟨l, b, xs, zs, rfl, rfl, hH, hB, hz, q⟩ := h
  cases rx
  obtain ⟨u, rfl, ru⟩ := rv.one
  cases ru
  obtain ⟨z, its, n, r, hl, e⟩ := I.lstM hH
  obtain ⟨its2, r2, ⟨⟨cls, dd, data, sl⟩, ho, hc, n2, hd⟩, _⟩ := I.tuple hB
  simp only at hc hd
  subst hc hd
  have hl2 := r2.length
  have hsz : its.toArray.size + its2.toArray.size ≤ sizeLine := by rw [List.size_toArray, List.size_toArray]; omega
  have hlong : ¬ (!its.toArray.isEmpty && Builtin.List.listTooLong (its.toArray.size + its2.toArray.size)) = true := by
    rw [notLongL hsz, Bool.and_false]
    exact Bool.false_ne_true
  refine call_meets F.slot_list_extend ⟨_, e, rfl⟩ F.entry_list_extend (F.args_list_extend_2 _ _)
    (list_extend_tupW l its.toArray n b its2.toArray n2 dd sl hlong (by rw [List.size_toArray]; omega) (by omega)) ⟨e, ho, ?_⟩
  refine ⟨.non, _, I.lset (its' := its ++ its2) hH e (by simp) (r.append r2) ?_, rfl, q⟩
  rw [List.length_append]
  omega
open PySem.AutoSeq1 (wpAny_loadPart') in
theorem list_extend_listW (l : Addr) (items : Array Value) (n : Nat) (b : Addr) (items2 : Array Value) (n2 : Nat) (sl : Array (Option Value)) (hs0 : ¬(!items.isEmpty && Builtin.List.listTooLong (items.size + items2.size)) = true) (hs1 : items.size ≤ sizeLine) (hs2 : items.size + items2.size ≤ sizeLine + 1) :
    Meets (Builtin.«list.extend» ⟨[.ref l, .ref b], []⟩) (fun _ R s => s.heap.get? l = some { cls := .type "list", dict := none, data := .seq items n, slots := #[] } ∧ s.heap.get? b = some { cls := .type "list", dict := none, data := .seq items2 n2, slots := sl } ∧ R (.ok (.ret Value.none)) { s with heap := s.heap.update l (Obj.mapSeq fun x => x ++ items2), toks := s.toks }) :=
  .of_wp fun prog w A R s h => by
    obtain ⟨hp, g, d, tk, os⟩ := s; obtain ⟨hl, hb, h⟩ := h; have f1 := AutoSeq1.idx_int; have f2 := AutoSeq1.sub_tuple_tuple; have f3 := AutoSeq1.sub_list_list; have f4 := AutoSeq1.sub_tuple_list; have f5 := AutoSeq1.sub_list_tuple;
    have hz' : (items ++ items2).size ≤ sizeLine + 1 := by rw [Array.size_append]; exact hs2
    wp_walk using (wpAny_updateSeq hl rfl (hz := hs1) (_hz' := hz')), wpAny_loadPart' hl, wpAny_loadPart' hb; exact ⟨_, rfl, h⟩
/-- extend by any list that may be read -/
theorem mt_extL : MtM X "list.extend" (fun x vs H Q => ∃ l b xs zs, x = .ref l ∧ vs = [.ref b] ∧ H l = some (.lst xs) ∧ SqL X.K H b zs ∧ xs.length + zs.length ≤ sizeLine ∧ Q .non (upd H l (.lst (xs ++ zs)))) := by
  intro pins s σ H x xs v us Q I rx rv h
  obtain ⟨l, b, xs, zs, rfl, rfl, hH, hB, hz, q⟩ := h
  cases rx
  obtain ⟨u, rfl, ru⟩ := rv.one
  cases ru
  obtain ⟨z, its, n, r, hl, e⟩ := I.lstM hH
  obtain ⟨its2, r2, ⟨⟨cls, dd, data, sl⟩, n2, ho, hc, hn, hd⟩, _⟩ := I.list hB
  simp only at hc hd hn
  subst hc hd hn
  have hl2 := r2.length
  have hsz : its.toArray.size + its2.toArray.size ≤ sizeLine := by rw [List.size_toArray, List.size_toArray]; omega
  have hlong : ¬ (!its.toArray.isEmpty && Builtin.List.listTooLong (its.toArray.size + its2.toArray.size)) = true := by
    rw [notLongL hsz, Bool.and_false]
    exact Bool.false_ne_true
  refine call_meets F.slot_list_extend ⟨_, e, rfl⟩ F.entry_list_extend (F.args_list_extend_2 _ _)
    (list_extend_listW l its.toArray n b its2.toArray n2 sl hlong (by rw [List.size_toArray]; omega) (by omega)) ⟨e, ho, ?_⟩
  refine ⟨.non, _, I.lset (its' := its ++ its2) hH e (by simp) (r.append r2) ?_, rfl, q⟩
  rw [List.length_append]
  omega
end
end Hf

/-! Hf10: statements' rules. -/
namespace Hf
open PySem PySem.Spec PyProof.Rows L2
set_option autoImplicit false

/-- since the entry (H0, S0); what is frozen since (HB, SB) has stayed -/
structure Bs (H0 : Hp) (S0 : Sy) (HB : Hp) (SB : Sy) (H : Hp) (S : Sy) : Prop where
  g : Gr H0 S0 H S
  k : Keep HB SB H S
theorem Keep.trans {H H1 H2 : Hp} {S S1 S2 : Sy} (a : Keep H S H1 S1) (b : Keep H1 S1 H2 S2) : Keep H S H2 S2 := fun x s => ⟨(b x (a x s).1).1, fun o h => (b x (a x s).1).2 o ((a x s).2 o h)⟩
theorem Bs.trans {H0 HB H H' : Hp} {S0 SB S S' : Sy} (b : Bs H0 S0 HB SB H S) (e : Gr H S H' S') : Bs H0 S0 HB SB H' S' := ⟨b.g.trans e, b.k.trans e.keep⟩
theorem Bs.same {H0 HB H : Hp} {S0 SB S : Sy} (b : Bs H0 S0 HB SB H S) : Same H0 H := b.g.same
def PostS (G : Gm) (W : WD) (H0 : Hp) (S0 : Sy) (HB : Hp) (SB : Sy) (r : Fl) (D : Ends) : Prop := match r with
  | .nx ρ => ∀ σ H S, REnv G H0 H S σ ρ → Bs H0 S0 HB SB H S → D.nx σ H
  | .bk ρ => ∀ σ H S, REnv G H0 H S σ ρ → Bs H0 S0 HB SB H S → D.bk σ H
  | .ct ρ => ∀ σ H S, REnv G H0 H S σ ρ → Bs H0 S0 HB SB H S → D.ct σ H
  | .rt b d => ∀ v H S, Bs H0 S0 HB SB H S → RepO G H0 H S b d v → D.rt v H
  | .ex c ρ => ∀ σ H S, REnv G H0 H S σ ρ → Bs H0 S0 HB SB H S → W c σ H
  | .fail => False
def tS (G : Gm) (W : WD) (H0 : Hp) (S0 : Sy) (HB : Hp) (SB : Sy) (f : En → Fl) : TS := fun D σ H => ∃ S ρ, REnv G H0 H S σ ρ ∧ Bs H0 S0 HB SB H S ∧ PostS G W H0 S0 HB SB (f ρ) D
section
variable {X : Cx}
theorem _root_.L2.PS.im {st : Stmt} {t t' : TS} (h : PS X st t) (i : ∀ D σ H, t' D σ H → t D σ H) : PS X st t' := ⟨fun pins s σ H D I q => h.run pins s σ H D I (i D σ H q)⟩
theorem _root_.L2.PSs.im {st : List Stmt} {t t' : TS} (h : PSs X st t) (i : ∀ D σ H, t' D σ H → t D σ H) : PSs X st t' := ⟨fun pins s σ H D I q => h.run pins s σ H D I (i D σ H q)⟩
end
/-! ### freezing -/
section
variable {G : Gm} {H0 H HB : Hp} {S0 S SB : Sy} {σ : L2.St} {ρ : En}
theorem REnv.fz1 (R : REnv G H0 H S σ ρ) (g : Bs H0 S0 HB SB H S) {i : Nat} {d : D} (hi : ρ[i]? = some (some (true, d))) : ∃ S', Keep H S H S' ∧ Bs H0 S0 HB SB H S' ∧ REnv G H0 H S' σ (ρ.set i (some (false, d))) := by
  obtain ⟨v, hv, a, xs, ds, rfl, rfl, ns, h0, ha, hp⟩ := R.slot i true d hi
  have k : Keep H S H (fun b => S b ∨ b = a) := fun b s => ⟨.inl s, fun _ h => h⟩
  have hl : i < ρ.length := (List.getElem?_eq_some_iff.mp hi).1
  refine ⟨fun b => S b ∨ b = a, k, ⟨⟨g.same, fun b s => .inl (g.g.sub b s), fun b z => z.elim (g.g.new b) fun q => .inr (by subst q; exact ⟨h0, _, ha⟩)⟩, g.k.trans k⟩, ?_⟩
  refine ⟨by rw [List.length_set]; exact R.len, fun b z => z.elim (R.dom b) fun q => by subst q; exact ⟨_, ha⟩, fun j b e q => ?_, fun j j' d e c hjj q1 q2 z1 z2 => ?_⟩
  · rcases get_set q with ⟨rfl, e1, _⟩ | ⟨ne, q⟩
    · cases e1
      exact ⟨_, hv, .lst (.inl ⟨.inr rfl, .inl ha⟩) (Rep.keepL k _ _ hp)⟩
    · obtain ⟨w, h1, h2⟩ := R.slot j b e q
      refine ⟨w, h1, ?_⟩
      cases b with
      | false => exact h2.keep k
      | true =>
        obtain ⟨c, ys, es, rfl, rfl, m1, m2, m3, m4⟩ := h2
        refine ⟨c, ys, es, rfl, rfl, fun z => z.elim m1 fun e => ?_, m2, m3, Rep.keepL k _ _ m4⟩
        subst e
        exact R.apart j i _ _ c ne q hi h1 hv
  · rcases get_set q1 with ⟨_, e1, _⟩ | ⟨n1, q1'⟩
    · cases e1
    · rcases get_set q2 with ⟨_, e2, _⟩ | ⟨n2, q2'⟩
      · cases e2
      · exact R.apart j j' d e c hjj q1' q2' z1 z2
theorem REnv.frz (R : REnv G H0 H S σ ρ) (g : Bs H0 S0 HB SB H S) : ∀ us : List Nat, ∃ S', Keep H S H S' ∧ Bs H0 S0 HB SB H S' ∧ REnv G H0 H S' σ (fz us ρ)
  | [] => ⟨S, fun _ s => ⟨s, fun _ h => h⟩, g, R⟩
  | i :: is => by
    obtain ⟨S1, k1, g1, R1⟩ := REnv.frz R g is
    show ∃ S', Keep H S H S' ∧ Bs H0 S0 HB SB H S' ∧ REnv G H0 H S' σ (match (fz is ρ)[i]? with | some (some (true, d)) => (fz is ρ).set i (some (false, d)) | _ => fz is ρ)
    split
    · rename_i d q
      obtain ⟨S2, k2, g2, R2⟩ := R1.fz1 g1 q
      exact ⟨S2, fun b s => ⟨(k2 b (k1 b s).1).1, fun _ h => h⟩, g2, R2⟩
    · exact ⟨S1, k1, g1, R1⟩
/-- one's own list is changed -/
theorem REnv.mut (R : REnv G H0 H S σ ρ) (g : Bs H0 S0 HB SB H S) {i : Nat} {d : D} {a : Addr} {xs ys : List V} {es : List D} (hi : ρ[i]? = some (some (true, d))) (hv : σ[i]? = some (some (.ref a))) (ha : H a = some (.lst xs)) (ns : ¬ S a) (h0 : H0 a = none) (hp : Paired (Rep G H S) es ys) :
    Bs H0 S0 HB SB (upd H a (.lst ys)) S ∧ REnv G H0 (upd H a (.lst ys)) S σ (ρ.set i (some (true, .lst es))) := by
  have k : Keep H S (upd H a (.lst ys)) S := Keep.updN ns
  have hl : i < ρ.length := (List.getElem?_eq_some_iff.mp hi).1
  have nb : ∀ b, S b → b ≠ a := fun b s z => ns (z ▸ s)
  refine ⟨⟨⟨fun b o hb => ?_, g.g.sub, fun b hb => ?_⟩, g.k.trans k⟩, by rw [List.length_set]; exact R.len, fun b hb => ?_, fun j b e q => ?_, fun j j' d' e c hjj q1 q2 z1 z2 => ?_⟩
  · rw [upd_ne (ne_of_none hb h0)]; exact g.same _ _ hb
  · rw [upd_ne (nb b hb)]; exact g.g.new b hb
  · rw [upd_ne (nb b hb)]; exact R.dom b hb
  · rcases get_set q with ⟨rfl, e1, _⟩ | ⟨ne, q⟩
    · cases e1
      exact ⟨_, hv, a, ys, es, rfl, rfl, ns, h0, upd_same, Rep.keepL k _ _ hp⟩
    · obtain ⟨w, h1, h2⟩ := R.slot j b e q
      refine ⟨w, h1, ?_⟩
      cases b with
      | false => exact h2.keep k
      | true =>
        obtain ⟨c, zs, fs, rfl, rfl, m1, m2, m3, m4⟩ := h2
        have nc : c ≠ a := fun z => by
          subst z
          exact R.apart j i _ _ c ne q hi h1 hv
        exact ⟨c, zs, fs, rfl, rfl, m1, m2, by rw [upd_ne nc]; exact m3, Rep.keepL k _ _ m4⟩
  · have own : ∀ j d', (ρ.set i (some (true, D.lst es)))[j]? = some (some (true, d')) → ∃ d'', ρ[j]? = some (some (true, d'')) := fun j d' q => by
      rcases get_set q with ⟨rfl, _, _⟩ | ⟨_, q⟩
      · exact ⟨_, hi⟩
      · exact ⟨_, q⟩
    obtain ⟨d1, o1⟩ := own j _ q1
    obtain ⟨d2, o2⟩ := own j' _ q2
    exact R.apart j j' d1 d2 c hjj o1 o2 z1 z2
/-- a result goes into a slot -/
theorem REnv.setO {H' : Hp} {S' : Sy} (R : REnv G H0 H S σ ρ) (e : Gr H S H' S') (h0 : Same H0 H) (i : Nat) {b : Bool} {d : D} {v : V} (h : RepO G H H' S' b d v) : REnv G H0 H' S' (σ.set i (some v)) (ρ.set i (some (b, d))) := by
  refine (R.gr e).put i v _ (fun b' d' q => ?_) (fun d' q j e' a ne q1 q2 z => ?_)
  · cases q
    cases b with
    | false => exact h
    | true =>
      obtain ⟨a, xs, ds, e1, e2, e3, hn, r⟩ := h
      exact ⟨a, xs, ds, e1, e2, e3, h0.free hn, r⟩
  · cases q
    obtain ⟨a1, xs, ds, e1, e2, e3, hn, r⟩ := h
    rw [e1] at z
    cases z
    obtain ⟨w, h1, a2, ys, es, rfl, _, _, _, h2, _⟩ := R.slot j true e' q1
    rw [h1] at q2
    cases q2
    rw [hn] at h2
    cases h2
end
theorem iopD_sp {o : Operator} {a b : D} {w : Bool × D} (h : iopD o a b = .ok w) : w.1 = false ∧ ((∃ k, a = .int k) ∨ ∃ z, a = .str z) := by
  unfold iopD at h
  split at h
  · cases h; exact ⟨rfl, .inl ⟨_, rfl⟩⟩
  · cases h; exact ⟨rfl, .inl ⟨_, rfl⟩⟩
  · split at h
    · cases h; exact ⟨rfl, .inl ⟨_, rfl⟩⟩
    · cases h
  · split at h
    · cases h; exact ⟨rfl, .inl ⟨_, rfl⟩⟩
    · cases h
  · split at h
    · cases h; exact ⟨rfl, .inr ⟨_, rfl⟩⟩
    · cases h
  · cases h
theorem iopD_nox {o : Operator} {a b : D} {c : Str} : iopD o a b ≠ .exc c := fun h => by
  unfold iopD at h
  split at h
  · cases h
  · cases h
  · split at h <;> cases h
  · split at h <;> cases h
  · split at h <;> cases h
  · cases h
/-! ### rules -/
section
variable {G : Gm} {W : WD} {H0 HB : Hp} {S0 SB : Sy} {X : Cx} {st : Stmt} {rest : List Stmt} {e : Expr} {pos : Pos}
theorem onD {H : Hp} {S : Sy} {σ : L2.St} {ρ : En} {r : Res (Bool × D)} {f : Bool × D → Fl} {D : Ends} {Q : VK} (R : REnv G H0 H S σ ρ) (g : Bs H0 S0 HB SB H S) (p : PostS G W H0 S0 HB SB (onR r ρ f) D)
    (ok : ∀ b d, PostS G W H0 S0 HB SB (f (b, d)) D → ∀ v H' S', Gr H S H' S' → RepO G H H' S' b d v → Q v H') : Post G (fun c => W c σ) H S r Q := by
  cases r with
  | ok x => exact ok x.1 x.2 p
  | exc c => exact fun H' S' e => p σ H' S' (R.gr e) (g.trans e)
  | fail => exact p
theorem onV {α : Type} {H : Hp} {S : Sy} {σ : L2.St} {ρ : En} {r : Res α} {f : α → Fl} {D : Ends} {Q : α → Hp → Prop} (R : REnv G H0 H S σ ρ) (g : Bs H0 S0 HB SB H S) (p : PostS G W H0 S0 HB SB (onR r ρ f) D)
    (ok : ∀ a, PostS G W H0 S0 HB SB (f a) D → ∀ H' S', Gr H S H' S' → Q a H') : PostV (fun c => W c σ) H S r Q := by
  cases r with
  | ok x => exact ok x p
  | exc c => exact fun H' S' e => p σ H' S' (R.gr e) (g.trans e)
  | fail => exact p
theorem onI {H : Hp} {S : Sy} {σ : L2.St} {ρ : En} {r : Res (List Hf.D)} {f : List Hf.D → Fl} {D : Ends} {Q : It → Hp → Prop} (R : REnv G H0 H S σ ρ) (g : Bs H0 S0 HB SB H S) (p : PostS G W H0 S0 HB SB (onR r ρ f) D)
    (ok : ∀ ds, PostS G W H0 S0 HB SB (f ds) D → ∀ J H' S', Gr H S H' S' → Wlk G J ds H' S' → Q J H') : PostI G (fun c => W c σ) H S r Q := by
  cases r with
  | ok x => exact ok x p
  | exc c => exact fun H' S' e => p σ H' S' (R.gr e) (g.trans e)
  | fail => exact p
theorem pss_ni : PSs X [] (tS G W H0 S0 HB SB .nx) := pss_nil.im fun D σ H ⟨S, ρ, R, g, p⟩ => p σ H S R g
theorem pss_co {f h : En → Fl} (h1 : PS X st (tS G W H0 S0 HB SB f)) (h2 : PSs X rest (tS G W H0 S0 HB SB h)) : PSs X (st :: rest) (tS G W H0 S0 HB SB fun ρ => (f ρ).seq h) := (pss_cons h1 h2).im fun D σ H ⟨S, ρ, R, g, p⟩ => by
  refine ⟨S, ρ, R, g, ?_⟩
  dsimp only at p
  cases z : f ρ with
  | nx ρ' => rw [z] at p; exact fun σ' H' S' R' g' => ⟨S', ρ', R', g', p⟩
  | rt b d => rw [z] at p; exact p
  | bk ρ' => rw [z] at p; exact p
  | ct ρ' => rw [z] at p; exact p
  | ex c ρ' => rw [z] at p; exact p
  | fail => rw [z] at p; exact p
theorem ps_pa : PS X (.Pass pos) (tS G W H0 S0 HB SB .nx) := ps_pass.im fun D σ H ⟨S, ρ, R, g, p⟩ => p σ H S R g
theorem ps_br : PS X (.Break pos) (tS G W H0 S0 HB SB .bk) := ps_break.im fun D σ H ⟨S, ρ, R, g, p⟩ => p σ H S R g
theorem ps_cn : PS X (.Continue pos) (tS G W H0 S0 HB SB .ct) := ps_continue.im fun D σ H ⟨S, ρ, R, g, p⟩ => p σ H S R g
theorem ps_dc {x j pos'} : PS X (.Expr (.Constant (.str x) j pos') pos) (tS G W H0 S0 HB SB .nx) := ps_doc.im fun D σ H ⟨S, ρ, R, g, p⟩ => p σ H S R g
theorem ps_rn : PS X (.Return none pos) (tS G W H0 S0 HB SB fun _ => .rt false .non) := ps_retN.im fun D σ H ⟨S, ρ, R, g, p⟩ => p .non H S g .non
variable {fe : En → Res (Bool × D)} {us : List Nat}
theorem ps_ex (he : PE X e (tD G W H0 fe)) (hs : swapsWith e none pos.line X.env = pure false) : PS X (.Expr e pos) (tS G W H0 S0 HB SB fun ρ => onR (fe (fz us ρ)) (fz us ρ) fun _ => .nx (fz us ρ)) := (ps_expr he hs).im fun D σ H ⟨S, ρ, R, g, p⟩ => by
  obtain ⟨S1, k1, g1, R1⟩ := R.frz g us
  exact ⟨S1, _, R1, onD R1 g1 p fun b d p v H' S' e r => p σ H' S' (R1.gr e) (g1.trans e)⟩
theorem ps_se {i : Nat} {x : Str} {pos' : Pos} (hg : PG X (.Name x pos') (gName i)) (he : PE X e (tD G W H0 fe)) (h : PS X st (tAsg (tD G W H0 fe) (gName i))) : PS X st (tS G W H0 S0 HB SB fun ρ => onR (fe (fz us ρ)) (fz us ρ) fun x => .nx ((fz us ρ).set i (some x))) := h.im fun D σ H ⟨S, ρ, R, g, p⟩ => by
  obtain ⟨S1, k1, g1, R1⟩ := R.frz g us
  exact ⟨S1, _, R1, onD R1 g1 p fun b d p v H' S' e r => p _ H' S' (R1.setO e g1.same i r) (g1.trans e)⟩
theorem ps_st {t : Tg} (h : PS X st (tAsg (tD G W H0 fe) (gOf G.K t))) : PS X st (tS G W H0 S0 HB SB fun ρ => onR (fe (fz us ρ)) (fz us ρ) fun x => (match bindT t x.2 (fz us ρ) with
    | .ok ρ' => .nx ρ'
    | _ => .fail)) := h.im fun D σ H ⟨S, ρ, R, g, p⟩ => by
  obtain ⟨S1, k1, g1, R1⟩ := R.frz g us
  refine ⟨S1, _, R1, onD R1 g1 p fun b d p v H' S' e r => ?_⟩
  obtain ⟨S2, e2, k2, r2⟩ := r.fz e
  dsimp only at p
  cases z : bindT t d (fz us ρ) with
  | ok ρ' =>
    rw [z] at p
    exact gOf_of z r2 (R1.gr e2) fun σ' R' _ => p σ' H' S2 R' (g1.trans e2)
  | exc c => rw [z] at p; exact p.elim
  | fail => rw [z] at p; exact p.elim
theorem ps_re (he : PE X e (tD G W H0 fe)) : PS X (.Return (some e) pos) (tS G W H0 S0 HB SB fun ρ => onR (fe (fz us ρ)) (fz us ρ) fun x => .rt x.1 x.2) := (ps_ret he).im fun D σ H ⟨S, ρ, R, g, p⟩ => by
  obtain ⟨S1, k1, g1, R1⟩ := R.frz g us
  refine ⟨S1, _, R1, onD R1 g1 p fun b d p v H' S' e r => p v H' S' (g1.trans e) ?_⟩
  cases b with
  | false => exact r
  | true =>
    obtain ⟨a, xs, ds, e1, e2, e3, hn, r⟩ := r
    exact ⟨a, xs, ds, e1, e2, e3, g1.same.free hn, r⟩
theorem ps_rv {i : Nat} (he : PE X e (tVar i)) : PS X (.Return (some e) pos) (tS G W H0 S0 HB SB fun ρ => onR (getO ρ i) ρ fun x => .rt x.1 x.2) := (ps_ret he).im fun D σ H ⟨S, ρ, R, g, p⟩ => by
  unfold getO at p
  dsimp only at p
  split at p
  · rename_i x q
    obtain ⟨v, h1, h2⟩ := R.slot i x.1 x.2 q
    exact ⟨v, h1, p v H S g h2⟩
  · exact p.elim
theorem ps_ag {i : Nat} {x : Str} {o : Operator} {pos' : Pos} (he : PE X e (tD G W H0 fe)) (h : PS X (.AugAssign (.Name x pos') o e pos) (tAug i (tD G W H0 fe) (rD G (iopD o)))) :
    PS X (.AugAssign (.Name x pos') o e pos) (tS G W H0 S0 HB SB fun ρ => onR (getO ρ i) ρ fun a => onR (fe (fz us ρ)) (fz us ρ) fun b => onR (iopD o a.2 b.2) ρ fun x => .nx ((fz us ρ).set i (some x))) := h.im fun D σ H ⟨S, ρ, R, g, p⟩ => by
  unfold getO at p
  dsimp only at p
  split at p
  · rename_i y q
    obtain ⟨v, h1, h2⟩ := R.slot i y.1 y.2 q
    obtain ⟨S1, k1, g1, R1⟩ := R.frz g us
    refine ⟨v, h1, S1, _, R1, onD R1 g1 p fun b d p u H' S' e r => ?_⟩
    have pl : ∃ z, iopD o y.2 d = okF z ∧ (∀ S, Loo G H' S y.2 v) := by
      have p' : PostS G W H0 S0 HB SB (onR (iopD o y.2 d) ρ fun x => Fl.nx ((fz us ρ).set i (some x))) D := p
      cases z : iopD o y.2 d with
      | fail => rw [z] at p'; exact p'.elim
      | exc c => exact absurd z iopD_nox
      | ok w =>
        obtain ⟨w1, w2⟩ := iopD_sp z
        have l := h2.loo
        refine ⟨w.2, by obtain ⟨w1', w2'⟩ := w; cases w1; rfl, fun S => ?_⟩
        rcases w2 with ⟨k, e2⟩ | ⟨k, e2⟩
        · rw [e2] at l ⊢
          rw [l.int]
          exact .inl (.int k)
        · rw [e2] at l ⊢
          rw [l.str]
          exact .inl (.str k)
    obtain ⟨z, hz, hl⟩ := pl
    have hp : PostS G W H0 S0 HB SB (.nx ((fz us ρ).set i (some (false, z)))) D := by
      have p' : PostS G W H0 S0 HB SB (onR (iopD o y.2 d) ρ fun x => Fl.nx ((fz us ρ).set i (some x))) D := p
      rw [hz] at p'
      exact p'
    obtain ⟨S2, e2, k2, r2⟩ := r.fz e
    refine ⟨fun _ _ => False, S2, y.2, d, (R1.gr e2).dom, hl S2, .inl r2, ?_⟩
    rw [hz]
    intro u' H3 S3 e3 r3
    exact hp _ H3 S3 (((R1.gr e2).gr e3).setF i r3) ((g1.trans e2).trans e3)
  · exact p.elim
end
end Hf

/-! Hf11: statements' rules, further: lists changed, ifs, loops. -/
namespace Hf
open PySem PySem.Spec PyProof.Rows L2
set_option autoImplicit false
section
variable {G : Gm} {W : WD} {H0 HB : Hp} {S0 SB : Sy} {X : Cx} {st : Stmt} {rest : List Stmt} {e : Expr} {pos : Pos}
variable {fe : En → Res (Bool × D)} {us : List Nat}
theorem getO_some {ρ : En} {i : Nat} {f : Bool × D → Fl} {D : Ends} {ρ' : En} (p : PostS G W H0 S0 HB SB (onR (getO ρ i) ρ' f) D) : ∃ x, ρ[i]? = some (some x) ∧ PostS G W H0 S0 HB SB (f x) D := by
  unfold getO at p
  split at p
  · exact ⟨_, by assumption, p⟩
  · exact p.elim
/-- the list in a slot, changed behind a value -/
theorem ps_ap {i : Nat} (h : PS X st (tDrop (tBM X.K "list" rAppend (tVar i) (tCons (tD G W H0 fe) tNil)))) : PS X st (tS G W H0 S0 HB SB fun ρ => onR (getO (fz us ρ) i) ρ fun a => (match a with
    | (true, .lst ds) => onR (fe (fz us ρ)) (fz us ρ) fun b => if ds.length < sizeLine then .nx ((fz us ρ).set i (some (true, .lst (ds ++ [b.2])))) else .fail
    | _ => .fail)) := h.im fun D σ H ⟨S, ρ, R, g, p⟩ => by
  obtain ⟨S1, k1, g1, R1⟩ := R.frz g us
  obtain ⟨x, hx, p⟩ := getO_some p
  obtain ⟨b, d⟩ := x
  cases b with
  | false => exact p.elim
  | true =>
    cases d with
    | lst ds =>
      have p : PostS G W H0 S0 HB SB (onR (fe (fz us ρ)) (fz us ρ) fun b => if ds.length < sizeLine then .nx ((fz us ρ).set i (some (true, .lst (ds ++ [b.2])))) else .fail) D := p
      obtain ⟨v, hv, a, xs, ds', rfl, ed, ns, h0, ha, hp⟩ := R1.slot i true _ hx
      cases ed
      refine ⟨.ref a, hv, .inl ⟨rfl, _, .inl (.inl ha)⟩, S1, _, R1, onD R1 g1 p fun b d p v H' S' e r => ?_⟩
      obtain ⟨S2, e2, k2, r2⟩ := r.fz e
      have R2 := R1.gr e2
      have g2 := g1.trans e2
      obtain ⟨v', hv', a', xs', ds', ev, ed, ns', h0', ha', hp'⟩ := R2.slot i true _ hx
      rw [hv] at hv'
      cases hv'
      cases ev
      cases ed
      have p : PostS G W H0 S0 HB SB (if ds.length < sizeLine then .nx ((fz us ρ).set i (some (true, .lst (ds ++ [d])))) else .fail) D := p
      by_cases hz : ds.length < sizeLine
      · rw [if_pos hz] at p
        refine ⟨a, xs', v, rfl, rfl, ha', by rw [← Paired.length hp']; exact hz, ?_⟩
        obtain ⟨g3, R3⟩ := R2.mut g2 (es := ds ++ [d]) (ys := xs' ++ [v]) hx hv ha' ns' h0' (hp'.app (.cons r2 .nil))
        exact p σ _ S2 R3 g3
      · rw [if_neg hz] at p; exact p.elim
    | _ => exact p.elim
def rExtD (K : PySem.W.Frag) : V → List V → Hp → VK → Prop := fun x vs H Q => ∃ l b xs zs, x = .ref l ∧ vs = [.ref b] ∧ H l = some (.lst xs) ∧ (SqT K H b zs ∨ SqL K H b zs) ∧ xs.length + zs.length ≤ sizeLine ∧ Q .non (upd H l (.lst (xs ++ zs)))
theorem mt_extD : MtM X "list.extend" (rExtD X.K) := by
  intro pins s σ H x xs v us Q I rx rv h
  obtain ⟨l, b, xs, zs, rfl, rfl, hH, hB | hB, hz, q⟩ := h
  · exact mt_extT pins s σ H _ _ v us Q I rx rv ⟨l, b, xs, zs, rfl, rfl, hH, hB, hz, q⟩
  · exact mt_extL pins s σ H _ _ v us Q I rx rv ⟨l, b, xs, zs, rfl, rfl, hH, hB, hz, q⟩
theorem ps_et {i : Nat} (hK : X.K = G.K) (h : PS X st (tDrop (tBM X.K "list" (rExtD X.K) (tVar i) (tCons (tD G W H0 fe) tNil)))) : PS X st (tS G W H0 S0 HB SB fun ρ => onR (getO (fz us ρ) i) ρ fun a => (match a with
    | (true, .lst ds) => onR (fe (fz us ρ)) (fz us ρ) fun b => (match b.2 with
      | .tup es => if ds.length + es.length ≤ sizeLine then .nx ((fz us ρ).set i (some (true, .lst (ds ++ es)))) else .fail
      | .lst es => if ds.length + es.length ≤ sizeLine then .nx ((fz us ρ).set i (some (true, .lst (ds ++ es)))) else .fail
      | _ => .fail)
    | _ => .fail)) := h.im fun D σ H ⟨S, ρ, R, g, p⟩ => by
  obtain ⟨S1, k1, g1, R1⟩ := R.frz g us
  obtain ⟨x, hx, p⟩ := getO_some p
  obtain ⟨b, d⟩ := x
  cases b with
  | false => exact p.elim
  | true =>
    cases d with
    | lst ds =>
      have p : PostS G W H0 S0 HB SB (onR (fe (fz us ρ)) (fz us ρ) fun b => (match b.2 with
        | .tup es => if ds.length + es.length ≤ sizeLine then .nx ((fz us ρ).set i (some (true, .lst (ds ++ es)))) else .fail
        | .lst es => if ds.length + es.length ≤ sizeLine then .nx ((fz us ρ).set i (some (true, .lst (ds ++ es)))) else .fail
        | _ => .fail)) D := p
      obtain ⟨v, hv, a, xs, ds', rfl, ed, ns, h0, ha, hp⟩ := R1.slot i true _ hx
      cases ed
      refine ⟨.ref a, hv, .inl ⟨rfl, _, .inl (.inl ha)⟩, S1, _, R1, onD R1 g1 p fun b d p v H' S' e r => ?_⟩
      obtain ⟨S2, e2, k2, r2⟩ := r.fz e
      have R2 := R1.gr e2
      have g2 := g1.trans e2
      obtain ⟨v', hv', a', xs', ds', ev, ed, ns', h0', ha', hp'⟩ := R2.slot i true _ hx
      rw [hv] at hv'
      cases hv'
      cases ev
      cases ed
      cases d with
      | tup es =>
        have p : PostS G W H0 S0 HB SB (if ds.length + es.length ≤ sizeLine then .nx ((fz us ρ).set i (some (true, .lst (ds ++ es)))) else .fail) D := p
        by_cases hz : ds.length + es.length ≤ sizeLine
        · rw [if_pos hz] at p
          cases r2 with
          | tup z q =>
            refine ⟨a, _, xs', _, rfl, rfl, ha', .inl (by rw [hK]; exact z.sq), by rw [← Paired.length hp', ← Paired.length q]; exact hz, ?_⟩
            obtain ⟨g3, R3⟩ := R2.mut g2 hx hv ha' ns' h0' (hp'.app q)
            exact p σ _ S2 R3 g3
        · rw [if_neg hz] at p; exact p.elim
      | lst es =>
        have p : PostS G W H0 S0 HB SB (if ds.length + es.length ≤ sizeLine then .nx ((fz us ρ).set i (some (true, .lst (ds ++ es)))) else .fail) D := p
        by_cases hz : ds.length + es.length ≤ sizeLine
        · rw [if_pos hz] at p
          cases r2 with
          | lst z q =>
            refine ⟨a, _, xs', _, rfl, rfl, ha', .inr (by rw [hK]; exact z.sq), by rw [← Paired.length hp', ← Paired.length q]; exact hz, ?_⟩
            obtain ⟨g3, R3⟩ := R2.mut g2 hx hv ha' ns' h0' (hp'.app q)
            exact p σ _ S2 R3 g3
        · rw [if_neg hz] at p; exact p.elim
      | _ => exact p.elim
    | _ => exact p.elim
theorem dropLast_pair {G : Gm} {H : Hp} {S : Sy} {ds : List D} {xs : List V} (h : Paired (Rep G H S) ds xs) : Paired (Rep G H S) ds.dropLast xs.dropLast := h.dl
theorem ps_po {t : Tg} {i : Nat} (h : PS X st (tAsg (tBM0 X.K "list" rPop (tVar i)) (gOf G.K t))) : PS X st (tS G W H0 S0 HB SB fun ρ => onR (getO ρ i) ρ fun a => (match a with
    | (true, .lst ds) => (match ds[ds.length - 1]? with
      | some d => (match bindT t d (ρ.set i (some (true, .lst ds.dropLast))) with
        | .ok ρ' => .nx ρ'
        | _ => .fail)
      | none => .fail)
    | _ => .fail)) := h.im fun D σ H ⟨S, ρ, R, g, p⟩ => by
  obtain ⟨x, hx, p⟩ := getO_some p
  obtain ⟨b, d⟩ := x
  cases b with
  | false => exact p.elim
  | true =>
    cases d with
    | lst ds =>
      have p : PostS G W H0 S0 HB SB (match ds[ds.length - 1]? with
        | some d => (match bindT t d (ρ.set i (some (true, .lst ds.dropLast))) with
          | .ok ρ' => .nx ρ'
          | _ => .fail)
        | none => .fail) D := p
      obtain ⟨v, hv, a, xs, ds', rfl, ed, ns, h0, ha, hp⟩ := R.slot i true _ hx
      cases ed
      cases z : ds[ds.length - 1]? with
      | none => rw [z] at p; exact p.elim
      | some d =>
        rw [z] at p
        obtain ⟨y, hy, ry⟩ := hp.gt z
        refine ⟨.ref a, hv, .inl ⟨rfl, _, .inl (.inl ha)⟩, a, xs, y, rfl, rfl, ha, by rw [← Paired.length hp]; exact hy, ?_⟩
        obtain ⟨g3, R3⟩ := R.mut g hx hv ha ns h0 hp.dl
        have p : PostS G W H0 S0 HB SB (match bindT t d (ρ.set i (some (true, .lst ds.dropLast))) with
          | .ok ρ' => .nx ρ'
          | _ => .fail) D := p
        cases zb : bindT t d (ρ.set i (some (true, .lst ds.dropLast))) with
        | ok ρ' =>
          rw [zb] at p
          exact gOf_of zb (ry.keep (Keep.updN ns)) R3 fun σ' R' _ => p σ' _ S R' g3
        | exc c => rw [zb] at p; exact p.elim
        | fail => rw [zb] at p; exact p.elim
    | _ => exact p.elim
variable {fk : En → Res (Bool × D)}
theorem ps_pu {i : Nat} (h : PS X st (tAsg (tD G W H0 fe) (gSub (tVar i) (tD G W H0 fk) rSetL))) : PS X st (tS G W H0 S0 HB SB fun ρ => onR (getO (fz us ρ) i) ρ fun a => (match a with
    | (true, .lst ds) => onR (fe (fz us ρ)) (fz us ρ) fun b => onR (fk (fz us ρ)) (fz us ρ) fun j => (match j.2 with
      | .int j => (match ixN ds.length j with
        | some n => .nx ((fz us ρ).set i (some (true, .lst (ds.set n b.2))))
        | none => .fail)
      | _ => .fail)
    | _ => .fail)) := h.im fun D σ H ⟨S, ρ, R, g, p⟩ => by
  obtain ⟨S1, k1, g1, R1⟩ := R.frz g us
  obtain ⟨x, hx, p⟩ := getO_some p
  obtain ⟨b, d⟩ := x
  cases b with
  | false => exact p.elim
  | true =>
    cases d with
    | lst ds =>
      have p : PostS G W H0 S0 HB SB (onR (fe (fz us ρ)) (fz us ρ) fun b => onR (fk (fz us ρ)) (fz us ρ) fun j => (match j.2 with
        | .int j => (match ixN ds.length j with
          | some n => .nx ((fz us ρ).set i (some (true, .lst (ds.set n b.2))))
          | none => .fail)
        | _ => .fail)) D := p
      obtain ⟨v, hv, _⟩ := R1.slot i true _ hx
      refine ⟨S1, _, R1, onD R1 g1 p fun b d p u H2 S2 e r => ?_⟩
      obtain ⟨S3, e3, k3, r3⟩ := r.fz e
      have R3 := R1.gr e3
      have g3 := g1.trans e3
      refine ⟨v, hv, S3, _, R3, onD R3 g3 p fun b' d' p w H4 S4 e4 r4 => ?_⟩
      have R4 := R3.gr e4
      have g4 := g3.trans e4
      obtain ⟨v', hv', a, xs, ds', rfl, ed, ns, h0, ha, hp⟩ := R4.slot i true _ hx
      rw [hv] at hv'
      cases hv'
      cases ed
      cases d' with
      | int j =>
        have p : PostS G W H0 S0 HB SB (match ixN ds.length j with
          | some n => .nx ((fz us ρ).set i (some (true, .lst (ds.set n d))))
          | none => .fail) D := p
        have ew := r4.loo.int
        subst ew
        cases z : ixN ds.length j with
        | none => rw [z] at p; exact p.elim
        | some n =>
          rw [z] at p
          refine ⟨a, xs, j, n, rfl, rfl, ha, by rw [← Paired.length hp]; exact z, ?_⟩
          obtain ⟨g5, R5⟩ := R4.mut g4 hx hv ha ns h0 (PySem.Paired.st (e4.rep r3) n hp)
          exact p σ _ S4 R5 g5
      | _ => exact p.elim
    | _ => exact p.elim
/-! ### ifs and loops -/
variable {c : Expr} {a b : List Stmt} {tc : En → Res Bool} {fa fb : En → Fl}
theorem ps_i (hc : PT X c (tT G W H0 tc)) (ha : PSs X a (tS G W H0 S0 HB SB fa)) (hb : PSs X b (tS G W H0 S0 HB SB fb)) : PS X (.If c a b pos) (tS G W H0 S0 HB SB fun ρ => onR (tc (fz us ρ)) (fz us ρ) fun k => if k = true then fa (fz us ρ) else fb (fz us ρ)) := (ps_if hc ha hb).im fun D σ H ⟨S, ρ, R, g, p⟩ => by
  obtain ⟨S1, k1, g1, R1⟩ := R.frz g us
  refine ⟨S1, _, R1, onV R1 g1 p fun k p H' S' e => ?_⟩
  cases k with
  | true => exact ⟨S', _, R1.gr e, g1.trans e, p⟩
  | false => exact ⟨S', _, R1.gr e, g1.trans e, p⟩
theorem ps_w (hp : PassesOwn (model X.prog X.w) X.A X.env X.xe) (hc : PT X c (tT G W H0 tc)) (hb : PSs X b (tS G W H0 S0 HB SB fb)) (n : Nat) : PS X (.While c b [] pos) (tS G W H0 S0 HB SB fun ρ => whN tc (fz us) fb n ρ) := (ps_while hp hc hb).im fun D σ H ⟨S, ρ, R, g, p⟩ => by
  refine ⟨fun m σ H => ∃ S ρ, REnv G H0 H S σ ρ ∧ Bs H0 S0 HB SB H S ∧ PostS G W H0 S0 HB SB (whN tc (fz us) fb m ρ) D, ⟨n, S, ρ, R, g, p⟩, fun m σ H ⟨S, ρ, R, g, p⟩ => ?_⟩
  cases m with
  | zero => exact p.elim
  | succ m =>
    obtain ⟨S1, k1, g1, R1⟩ := R.frz g us
    have p : PostS G W H0 S0 HB SB (onR (tc (fz us ρ)) (fz us ρ) fun k => if k = true then (match fb (fz us ρ) with
      | .nx ρ2 => whN tc (fz us) fb m ρ2
      | .ct ρ2 => whN tc (fz us) fb m ρ2
      | .bk ρ2 => .nx ρ2
      | r => r) else .nx (fz us ρ)) D := p
    refine ⟨S1, _, R1, onV R1 g1 p fun k p H' S' e => ?_⟩
    cases k with
    | false => exact p σ H' S' (R1.gr e) (g1.trans e)
    | true =>
      refine ⟨fun σ' H' => ∃ S ρ, REnv G H0 H' S σ' ρ ∧ Bs H0 S0 HB SB H' S ∧ PostS G W H0 S0 HB SB (whN tc (fz us) fb m ρ) D, fun σ' H' h => ⟨m, Nat.lt_succ_self m, h⟩, S', _, R1.gr e, g1.trans e, ?_⟩
      have p : PostS G W H0 S0 HB SB (match fb (fz us ρ) with
        | .nx ρ2 => whN tc (fz us) fb m ρ2
        | .ct ρ2 => whN tc (fz us) fb m ρ2
        | .bk ρ2 => .nx ρ2
        | r => r) D := p
      cases z : fb (fz us ρ) with
      | nx ρ2 => rw [z] at p; exact fun σ' H' S' R' g' => ⟨S', ρ2, R', g', p⟩
      | ct ρ2 => rw [z] at p; exact fun σ' H' S' R' g' => ⟨S', ρ2, R', g', p⟩
      | bk ρ2 => rw [z] at p; exact p
      | rt o d => rw [z] at p; exact p
      | ex c ρ2 => rw [z] at p; exact p
      | fail => rw [z] at p; exact p
theorem ps_f {t : Tg} {tg iter : Expr} {fi : En → Res (List D)} (hp : PassesOwn (model X.prog X.w) X.A X.env X.xe) (hcm : X.calm = true) (hi : PI X tg iter (tI G W H0 fi)) (hg : PG X tg (gOf G.K t)) (hb : ∀ (HB : Hp) (SB : Sy), PSs X b (tS G W H0 S0 HB SB fb))
    (hs : ∀ x, foldedSetIterable iter X.env x = pure x) : PS X (.For tg iter b [] pos) (tS G W H0 S0 HB SB fun ρ => onR (fi (fz us ρ)) (fz us ρ) fun ds => forN t fb ds (fz us ρ)) := by
  refine ⟨fun pins sh σ H D I h => (ps_for hp hcm hi hg (tb := fun D σ H => ∃ HB SB, tS G W H0 S0 HB SB fb D σ H) ⟨fun pins s σ H D I ⟨HB, SB, h⟩ => (hb HB SB).run pins s σ H D I h⟩ hs).run pins sh σ H D I ?_⟩
  obtain ⟨S, ρ, R, g, p⟩ := h
  obtain ⟨S1, k1, g1, R1⟩ := R.frz g us
  refine ⟨S1, _, R1, onI R1 g1 p fun ds p J H2 S2 e2 wk => ?_⟩
  have R2 := R1.gr e2
  have g2 := g1.trans e2
  generalize fz us ρ = ρ0 at *
  refine ⟨fun i m σ' H' => m = ds.length - i ∧ i ≤ ds.length ∧ ∃ S' ρ', REnv G H0 H' S' σ' ρ' ∧ Bs H0 S0 H2 S2 H' S' ∧ PostS G W H0 S0 HB SB (forN t fb (ds.drop i) ρ') D, ⟨_, rfl, Nat.zero_le _, S2, ρ0, R2, ⟨g2.g, fun _ s => ⟨s, fun _ h => h⟩⟩, p⟩, ?_⟩
  rintro i m σ' H' ⟨rfl, hle, S', ρ', R', g', p⟩
  have kp := g'.k
  have up : ∀ {H S}, Bs H0 S0 H2 S2 H S → Bs H0 S0 HB SB H S := fun b => ⟨b.g, g2.k.trans b.k⟩
  by_cases hlt : i < ds.length
  · have ed : ds.drop i = ds[i] :: ds.drop (i + 1) := List.drop_eq_getElem_cons hlt
    have gt : ds[i]? = some ds[i] := List.getElem?_eq_getElem hlt
    refine .inr ⟨wk.go i H' S' kp hlt, fun σ'' H'' => ∃ S'' ρ'', REnv G H0 H'' S'' σ'' ρ'' ∧ Bs H0 S0 H2 S2 H'' S'' ∧ PostS G W H0 S0 HB SB (forN t fb (ds.drop (i + 1)) ρ'') D, fun σ'' H'' h => ⟨ds.length - (i + 1), by omega, rfl, hlt, h⟩, fun x Hx y => ?_⟩
    obtain ⟨rfl, rx⟩ := wk.yld i H' S' x Hx kp y _ gt
    rw [ed] at p
    generalize ds[i] = d at *
    have p : PostS G W H0 S0 HB SB (match bindT t d ρ' with
      | .ok ρ1 => (match fb ρ1 with
        | .nx ρ2 => forN t fb (ds.drop (i + 1)) ρ2
        | .ct ρ2 => forN t fb (ds.drop (i + 1)) ρ2
        | .bk ρ2 => .nx ρ2
        | r => r)
      | _ => .fail) D := p
    cases zb : bindT t d ρ' with
    | fail => rw [zb] at p; exact p.elim
    | exc c => rw [zb] at p; exact p.elim
    | ok ρ1 =>
      rw [zb] at p
      refine gOf_of zb rx R' fun σ2 R3 _ => ⟨H2, S2, S', ρ1, R3, g', ?_⟩
      have p : PostS G W H0 S0 HB SB (match fb ρ1 with
        | .nx ρ2 => forN t fb (ds.drop (i + 1)) ρ2
        | .ct ρ2 => forN t fb (ds.drop (i + 1)) ρ2
        | .bk ρ2 => .nx ρ2
        | r => r) D := p
      cases z : fb ρ1 with
      | nx ρ2 => rw [z] at p; exact fun σ'' H'' S'' R'' g'' => ⟨S'', ρ2, R'', g'', p⟩
      | ct ρ2 => rw [z] at p; exact fun σ'' H'' S'' R'' g'' => ⟨S'', ρ2, R'', g'', p⟩
      | bk ρ2 => rw [z] at p; exact fun σ'' H'' S'' R'' g'' => p σ'' H'' S'' R'' (up g'')
      | rt o d => rw [z] at p; exact fun v H'' S'' g'' r => p v H'' S'' (up g'') r
      | ex c ρ2 => rw [z] at p; exact fun σ'' H'' S'' R'' g'' => p σ'' H'' S'' R'' (up g'')
      | fail => rw [z] at p; exact p
  · have e : i = ds.length := by omega
    subst e
    rw [List.drop_length] at p
    exact .inl ⟨wk.stop H' S' kp, p σ' H' S' R' (up g')⟩
end
end Hf

/-! Hf12: the text's statements as the small language's; they do what it says. -/
namespace Hf
open PySem PySem.Spec PyProof.Rows L2
set_option autoImplicit false

def notComp : Expr → Bool
  | .ListComp .. => false
  | .SetComp .. => false
  | .DictComp .. => false
  | _ => true
def notTup : Expr → Bool
  | .Tuple .. => false
  | .List .. => false
  | _ => true
/-- a comprehension's list goes into the name at once -/
def swB (c : Cc) (y : Str) (py : Pos) (scope : Scope) (pos : Pos) : Bool := decide (kindC c y = some .local) && py.line == pos.line && !(scope.names.any fun (n, k) => n == y && (k == .local || k == .cell))
def cSs (f : Stmt → Option St) : List Stmt → Option Sts
  | [] => some .nil
  | s :: ss => match f s, cSs f ss with
    | some p, some ps => some (.cons p ps)
    | _, _ => none
def cS : Nat → Cc → Stmt → Option St
  | 0, _, _ => none
  | n + 1, c, s => match s with
    | .Pass _ => some .pass
    | .Break _ => some .brk
    | .Continue _ => some .cnt
    | .Return none _ => some .retN
    | .Return (some e) _ => (cE n c e).map .ret
    | .Expr (.Constant (.str _) _ _) _ => some .pass
    | .Expr (.Call (.Attribute (.Name x _) m apos) [e] [] cpos) _ => (match slotOf c x, isStar e, cE n c e, apos.endLine == cpos.line with
      | some i, false, some p, true => if m = ("append" : Str) then some (.app i p) else if m = ("extend" : Str) then some (.ext i p) else none
      | _, _, _, _ => none)
    | .Expr e _ => (match notComp e, cE n c e with
      | true, some p => some (.expr p)
      | _, _ => none)
    | .Assign [t] (.Call (.Attribute (.Name y _) m apos) [] [] cpos) _ => (match slotOf c y, cTg c t, apos.endLine == cpos.line with
      | some j, some t, true => if m = ("pop" : Str) then some (.pop t j) else none
      | _, _, _ => none)
    | .Assign [.Name x px] (.ListComp elt gs scope cpos) _ => (match stOf c x, cE n c (.ListComp elt gs scope cpos) with
      | some i, some p => some (.set i p)
      | _, _ => none)
    | .Assign [.Name x _] e _ => (match stOf c x, notComp e, cE n c e with
      | some i, true, some p => some (.set i p)
      | _, _, _ => none)
    | .Assign [.Tuple es k tp] e _ => (match cTg c (.Tuple es k tp), notComp e, notTup e, cE n c e with
      | some t, true, true, some p => some (.sets t p)
      | _, _, _, _ => none)
    | .Assign [.Subscript (.Name x _) k _] e _ => (match slotOf c x, isSlice k, notComp e, cE n c k, cE n c e with
      | some i, false, true, some q, some p => some (.put i q p)
      | _, _, _, _, _ => none)
    | .AugAssign (.Name x _) o e _ => (match stOf c x, cE n c e with
      | some i, some p => some (.aug i o p)
      | _, _ => none)
    | .If t a b _ => (match cT n c t, cSs (cS n c) a, cSs (cS n c) b with
      | some t, some p, some q => some (.ifs t p q)
      | _, _, _ => none)
    | .While t a [] _ => (match cT n c t, cSs (cS n c) a with
      | some t, some p => some (.whl t p)
      | _, _ => none)
    | .For tg it a [] _ => (match cTg c tg, cI n c it, cSs (cS n c) a with
      | some t, some i, some p => some (.for_ t i p)
      | _, _, _ => none)
    | _ => none

structure StaS (P : Program) (w : World) (G : Gm) (base : Heap) (T : Tb) (n : Nat) (c : Cc) (W : WD) (X : Cx) : Prop extends Sta P w G base T n c W X where
  top : c.top = true
  kd : X.env.scope.kind = .function
  hp : PassesOwn (model X.prog X.w) X.A X.env X.xe
section
variable {P : Program} {w : World} {G : Gm} {base : Heap} {T : Tb} {m : Nat} {c : Cc} {W : WD} {X : Cx} {H0 : Hp}
theorem comp_no {e : Expr} (h : notComp e = true) (t : Option Expr) (l : Nat) (env : Env) : swapsWith e t l env = pure false := by
  cases e <;> first | rfl | cases h
theorem tup_no {e : Expr} (h : notTup e = true) (ts : List Expr) (k : Nat) (p : Pos) (env : Env) : swappedStores [.Tuple ts k p] e env = pure none := by
  cases e <;> first | rfl | cases h
theorem sub_no (e : Expr) (o i : Expr) (p : Pos) (env : Env) : swappedStores [.Subscript o i p] e env = pure none := by
  cases e <;> rfl
theorem sw_gen {elt : Expr} {gs : List Comprehension} {scope : Scope} {pos py : Pos} {y : Str} {l : Nat} {env : Env} : swapsWith (.ListComp elt gs scope pos) (some (.Name y py)) l env = pure (env.blockKind == .function && env.kindOf y == some .local && py.line == pos.line && !(scope.names.any fun (n, k) => n == y && (k == .local || k == .cell))) := rfl
theorem Sta.st (s : Sta P w G base T m c W X) (ht : c.top = true) {x : Str} {i : Nat} (h : stOf c x = some i) : X.N[i]? = some x ∧ Loc X.env.scope x ∧ (X.fn x = true ∨ X.env.scope.names.lookup x = some .local) := by
  unfold stOf at h
  have kk : ∀ k, kindC c x = some k → X.env.scope.names.lookup x = some k := fun k q => by rw [s.sc]; exact q
  have go : ∀ (q : idxN c.N x = some i), X.N[i]? = some x := fun q => by rw [s.N]; exact idxN_ok q
  cases kd : kindC c x with
  | none => rw [kd] at h; cases h
  | some k =>
    rw [kd] at h
    cases k with
    | «local» => exact ⟨go h, .inl (kk _ kd), .inr (kk _ kd)⟩
    | cell =>
      rw [ht] at h
      exact ⟨go h, .inr (kk _ kd), .inl (s.fn ht x)⟩
    | free => cases h
    | globalExplicit => cases h
    | globalImplicit => cases h
theorem comp_inv {n : Nat} {elt : Expr} {gs : List Comprehension} {scope : Scope} {cpos : Pos} {p : Ex} (h : cE (n + 1) c (.ListComp elt gs scope cpos) = some p) : ∃ tg iter ifs t it k q, gs = [⟨tg, iter, ifs, 0⟩] ∧
    blkC c.N c.sc scope (ownOf c.N scope) = true ∧ cTg { c with sc := relS scope c.sc, top := false } tg = some t ∧ cI n c iter = some it ∧
    (match ifs with | [] => some Tes.nil | [t] => (cT n { c with sc := relS scope c.sc, top := false } t).map Tes.one | _ => none) = some k ∧ cE n { c with sc := relS scope c.sc, top := false } elt = some q ∧
    t.sl.all (fun i => decide (i ∈ (ownOf c.N scope).map (·.2))) = true ∧ p = .comp t ((ownOf c.N scope).map (·.2)) it k q := by
  unfold cE at h
  split at h
  all_goals first
    | (rename_i heq; cases heq; done)
    | (rename_i heq _; cases heq; done)
    | (cases h; done)
    | skip
  rename_i elt' tg iter ifs scope' pos' heq
  cases heq
  dsimp only at h
  split at h
  · rename_i q1 q2 q3 q4 q5
    split at h
    · rename_i q6
      cases h
      exact ⟨tg, iter, ifs, _, _, _, _, rfl, q1, q2, q3, q4, q5, q6, rfl⟩
    · cases h
  · cases h
/-- name = e, e no comprehension -/
theorem set_plain (s : StaS P w G base T m c W X) {x : Str} {i : Nat} {px pos : Pos} {e : Expr} {te : TE} (h : stOf c x = some i) (he : PE X e te) (hs : swapsWith e (some (.Name x px)) pos.line X.env = pure false) : PS X (.Assign [.Name x px] e pos) (tAsg te (gName i)) := by
  obtain ⟨h1, h2, h3⟩ := s.toSta.st s.top h
  exact ps_set s.nd h1 h2 he hs h3
/-- name = [..] -/
theorem set_comp {n : Nat} (s : StaS P w G base T m c W X) {x : Str} {i : Nat} {px pos cpos : Pos} {elt : Expr} {gs : List Comprehension} {scope : Scope} {p : Ex} (h : stOf c x = some i) (hp : cE n c (.ListComp elt gs scope cpos) = some p) :
    PS X (.Assign [.Name x px] (.ListComp elt gs scope cpos) pos) (tAsg (tD G W H0 (ev T p)) (gName i)) := by
  have hk : X.env.kindOf x = kindC c x := by
    show X.env.scope.names.lookup x = c.sc.names.lookup x
    rw [s.sc]
  have hb : X.env.blockKind = .function := by unfold Env.blockKind; rw [s.kd]; rfl
  cases n with
  | zero => cases hp
  | succ n =>
    obtain ⟨ihE, ihT, ihI⟩ := @ok_all P w G base T m H0 n
    have hE := (@ok_all P w G base T m H0 (n + 1)).1 c _ p hp W X s.toSta
    cases z : swB c x px scope cpos with
    | false =>
      refine set_plain s h hE.1 ?_
      rw [sw_gen, hb, hk]
      have : (ScopeKind.function == ScopeKind.function && kindC c x == some NameKind.local && px.line == cpos.line && !(scope.names.any fun (n, k) => n == x && (k == .local || k == .cell))) = swB c x px scope cpos := by
        unfold swB
        rw [show (ScopeKind.function == ScopeKind.function) = true from rfl, Bool.true_and, show (kindC c x == some NameKind.local) = decide (kindC c x = some NameKind.local) from by rw [Bool.eq_iff_iff]; simp]
      rw [this, z]
    | true =>
      unfold swB at z
      simp only [Bool.and_eq_true, decide_eq_true_eq, Bool.not_eq_true'] at z
      obtain ⟨⟨z1, z2⟩, z3⟩ := z
      have hloc : X.env.scope.names.lookup x = some .local := by rw [s.sc]; exact z1
      obtain ⟨h1, _, _⟩ := s.toSta.st s.top h
      obtain ⟨tg, iter, ifs, t, it, k, q, rfl, q1, q2, q3, q4, q5, q6, rfl⟩ := comp_inv hp
      obtain ⟨k1, k2, k3, k4, k5, k6⟩ := co_ok (H0 := H0) ihE ihT ihI s.toSta (pos := ⟨0, 0, 0, 0⟩) q1 q2 q3 q4 q5 q6 (cI_set q3)
      have hsw : swapsWith (.ListComp elt [⟨tg, iter, ifs, 0⟩] scope cpos) (some (.Name x px)) pos.line X.env = pure true := sw_true s.kd hloc z2 z3
      exact (ps_setLc s.calm s.nd h1 hloc hsw k2 k3 k4 k5 k6 (sw_no (cI_set q3) X.env)).im fun D σ H q => k1 σ H _ q
end
end Hf

/-! Hf13: the induction over the text's statements. -/
namespace Hf
open PySem PySem.Spec PyProof.Rows L2
set_option autoImplicit false
section
variable (P : Program) (w : World) (G : Gm) (base : Heap) (T : Tb) (m : Nat) (H0 : Hp) (S0 : Sy) (wf : Nat)
def OkS (n : Nat) : Prop := ∀ (c : Cc) (s : Stmt) (p : St), cS n c s = some p → ∀ (W : WD) (X : Cx) (HB : Hp) (SB : Sy), StaS P w G base T m c W X → PS X s (tS G W H0 S0 HB SB (ex T wf p))
end
section
variable {P : Program} {w : World} {G : Gm} {base : Heap} {T : Tb} {m : Nat} {H0 HB : Hp} {S0 SB : Sy} {wf : Nat} {c : Cc} {W : WD} {X : Cx}
theorem cSs_ok {n : Nat} (ih : OkS P w G base T m H0 S0 wf n) (s : StaS P w G base T m c W X) : ∀ (ss : List Stmt) (ps : Sts) (HB : Hp) (SB : Sy), cSs (cS n c) ss = some ps → PSs X ss (tS G W H0 S0 HB SB (exs T wf ps))
  | [], ps, HB, SB, h => by cases h; exact pss_ni
  | a :: ss, ps, HB, SB, h => by
    have h' : (match cS n c a, cSs (cS n c) ss with | some p, some ps => some (Sts.cons p ps) | _, _ => none) = some ps := h
    cases q2 : cS n c a with
    | none => rw [q2] at h'; cases h'
    | some p =>
      cases q3 : cSs (cS n c) ss with
      | none => rw [q2, q3] at h'; cases h'
      | some r =>
        rw [q2, q3] at h'
        cases h'
        exact pss_co (ih c a p q2 W X HB SB s) (cSs_ok ih s ss r HB SB q3)
theorem okE (n : Nat) : OkE P w G base T m H0 n := (ok_all n).1
theorem okT (n : Nat) : OkT P w G base T m H0 n := (ok_all n).2.1
theorem okI (n : Nat) : OkI P w G base T m H0 n := (ok_all n).2.2
theorem few_of {cpos : Pos} {e : Expr} {env : Env} (h : isStar e = false) : ((backTo cpos (starEach [e] env)).all (fun x => !x.1) && (backToKw cpos (keywordEach [] env)).all (fun x => x.1.isSome)
      && decide ([e].length + ([] : List Keyword).length + (if ([] : List Keyword).isEmpty then 0 else 1) < 30)) = true := by
  rw [star_of h [] env]
  rfl
theorem tsEq {f g : En → Fl} (e : f = g) {st : Stmt} (h : PS X st (tS G W H0 S0 HB SB f)) : PS X st (tS G W H0 S0 HB SB g) := e ▸ h
theorem ret_eq {p : Ex} (hp : ∀ i, p ≠ .var i) : (fun ρ => onR (ev T p (fz (us p) ρ)) (fz (us p) ρ) fun x => Fl.rt x.1 x.2) = ex T wf (.ret p) := by
  funext ρ
  cases p with
  | var i => exact absurd rfl (hp i)
  | _ => rfl
theorem comp_noS {e : Expr} (h : notComp e = true) (t : Expr) (l : Nat) (env : Env) : swapsWithSole [t] e l env = pure false := comp_no h _ _ _
theorem cBo_var (and : Bool) (f : Expr → Option Ex) (e1 e2 : Expr) (es : List Expr) (i : Nat) : cBo and f (e1 :: e2 :: es) ≠ some (.var i) := fun h => by
  have h' : (match f e1, cBo and f (e2 :: es) with | some p, some q => some (if and = true then Ex.and p q else .or p q) | _, _ => none) = some (.var i) := h
  split at h'
  · cases and <;> cases h'
  · cases h'
theorem var_of {n : Nat} (s : Sta P w G base T m c W X) {e : Expr} {i : Nat} (h : cE n c e = some (.var i)) : PE X e (tVar i) := by
  cases n with
  | zero => cases h
  | succ n =>
    unfold cE at h
    split at h
    all_goals first
      | (cases h; done)
      | (split at h <;> cases h; done)
      | (obtain ⟨_, _, e⟩ := Option.map_eq_some_iff.mp h; cases e; done)
      | (exact absurd h (cBo_var _ _ _ _ _ _))
      | skip
    · split at h
      · rename_i j q
        cases h
        exact s.var q
      · split at h <;> cases h
    · split at h
      · cases h
      · split at h
        · split at h
          · obtain ⟨_, _, e⟩ := Option.map_eq_some_iff.mp h; cases e
          · cases h
        · split at h
          · split at h
            · split at h <;> cases h
            · cases h
          · split at h
            · split at h <;> cases h
            · cases h
    · dsimp only at h
      split at h
      · split at h <;> cases h
      · cases h
theorem pop_sw {t : Expr} {t' : Tg} (h : cTg c t = some t') {o : Expr} {m : Str} {apos cpos : Pos} {env : Env} : swappedStores [t] (.Call (.Attribute o m apos) [] [] cpos) env = pure none := by
  cases t <;> first | rfl | cases h
theorem tg_each {t : Expr} {t' : Tg} (h : cTg c t = some t') {env : Env} : (assignEach [t] env).map (·.2) = [assign t env] := by
  cases t <;> first | rfl | cases h
theorem sub_asg {o i : Expr} {pos : Pos} {env : Env} (h : isSlice i = false) : ∀ v, assign (.Subscript o i pos) env v = (do
      let ov ← holding [v] (eval o env)
      let iv ← holding [v, ov] (eval i env)
      standAt pos
      holding [v, ov, iv] (setItem ov iv v)
      release [v, ov, iv] []) := by
  intro v
  cases i with
  | Slice _ _ _ _ => cases h
  | _ => rfl
theorem okS : ∀ n, OkS P w G base T m H0 S0 wf n
  | 0 => fun _ _ _ h => (nomatch h)
  | n + 1 => by
    have ih := okS n
    intro c s p h W X HB SB st
    unfold cS at h
    split at h
    · cases h; exact ps_pa
    · cases h; exact ps_br
    · cases h; exact ps_cn
    · cases h; exact ps_rn
    · rename_i e _
      obtain ⟨p', q, rfl⟩ := Option.map_eq_some_iff.mp h
      by_cases hv : ∃ i, p' = .var i
      · obtain ⟨i, rfl⟩ := hv
        have hE := (okE (H0 := H0) n c e _ q W X st.toSta)
        -- the slot itself
        have hs : PE X e (tVar i) := var_of st.toSta q
        exact ps_rv hs
      · have hne : ∀ i, p' ≠ .var i := fun i z => hv ⟨i, z⟩
        exact tsEq (ret_eq hne) (ps_re (us := us p') (okE (H0 := H0) n c e p' q W X st.toSta).1)
    · cases h; exact ps_dc
    · split at h
      · rename_i i p' q1 q2 q3 q4
        split at h
        · rename_i hm
          cases h
          subst hm
          have hE := (okE (H0 := H0) n c _ p' q3 W X st.toSta).1
          have hA : PA X [_] _ := pa_cons hE pa_nil (star_of q2 [] X.env)
          exact ps_ap (us := us p') (ps_expr (pe_bm PySem.F.plainAttrs_list PySem.F.slot_list_append PySem.F.type_list_append mt_append (st.toSta.var q1) hA rfl (few_of q2) q4 (star_of q2 [] X.env) rfl) rfl)
        · split at h
          · rename_i hm
            cases h
            subst hm
            have hE := (okE (H0 := H0) n c _ p' q3 W X st.toSta).1
            have hA : PA X [_] _ := pa_cons hE pa_nil (star_of q2 [] X.env)
            exact ps_et (us := us p') st.K (ps_expr (pe_bm PySem.F.plainAttrs_list PySem.F.slot_list_extend PySem.F.type_list_extend mt_extD (st.toSta.var q1) hA rfl (few_of q2) q4 (star_of q2 [] X.env) rfl) rfl)
          · cases h
      · cases h
    · split at h
      · rename_i p' q1 q2
        cases h
        exact ps_ex (us := us p') (okE (H0 := H0) n c _ p' q2 W X st.toSta).1 (comp_no q1 _ _ _)
      · cases h
    · split at h
      · rename_i j t' q1 q2 q3
        split at h
        · rename_i hm
          cases h
          subst hm
          refine ps_po (ps_asg (pe_bm0 PySem.F.plainAttrs_list PySem.F.slot_list_pop PySem.F.type_list_pop mt_pop (st.toSta.var q1) rfl q3) (st.toSta.tg q2) (comp_noS rfl _ _ _) ?_ ?_)
          · exact pop_sw q2
          · exact tg_each q2
        · cases h
      · cases h
    · split at h
      · rename_i i p' q1 q2
        cases h
        exact ps_se (us := us p') (pos' := ⟨0, 0, 0, 0⟩) (st.toSta.nm q1) (okE (H0 := H0) n c _ p' q2 W X st.toSta).1 (set_comp st q1 q2)
      · cases h
    · split at h
      · rename_i i p' q1 q2 q3
        cases h
        have hE := (okE (H0 := H0) n c _ p' q3 W X st.toSta).1
        exact ps_se (us := us p') (pos' := ⟨0, 0, 0, 0⟩) (st.toSta.nm q1) hE (set_plain st q1 hE (comp_no q2 _ _ _))
      · cases h
    · split at h
      · rename_i t' p' q1 q2 q3 q4
        cases h
        have hE := (okE (H0 := H0) n c _ p' q4 W X st.toSta).1
        exact ps_st (us := us p') (ps_asg hE (st.toSta.tg q1) (comp_noS q2 _ _ _) (tup_no q3 _ _ _ _) rfl)
      · cases h
    · split at h
      · rename_i i q' p' q1 q2 q3 q4 q5
        cases h
        have hE := (okE (H0 := H0) n c _ p' q5 W X st.toSta).1
        have hk := (okE (H0 := H0) n c _ q' q4 W X st.toSta).1
        refine ps_pu (us := us p' ++ us q') (ps_asg hE (pg_sub (st.toSta.var q1) hk set_list (sub_asg q2)) (comp_noS q3 _ _ _) (sub_no _ _ _ _ _) rfl)
      · cases h
    · split at h
      · rename_i i p' q1 q2
        cases h
        obtain ⟨h1, h2, h3⟩ := st.toSta.st st.top q1
        have hE := (okE (H0 := H0) n c _ p' q2 W X st.toSta).1
        exact ps_ag (us := us p') hE (ps_aug st.nd h1 h2 hE (op_iD _) h3)
      · cases h
    · split at h
      · rename_i t' a' b' q1 q2 q3
        cases h
        exact ps_i (us := usT t') (okT (H0 := H0) n c _ t' q1 W X st.toSta) (cSs_ok ih st _ _ HB SB q2) (cSs_ok ih st _ _ HB SB q3)
      · cases h
    · split at h
      · rename_i t' a' q1 q2
        cases h
        exact ps_w (us := usT t') st.hp (okT (H0 := H0) n c _ t' q1 W X st.toSta) (cSs_ok ih st _ _ HB SB q2) wf
      · cases h
    · split at h
      · rename_i t' i' a' q1 q2 q3
        cases h
        exact ps_f (us := usi i') st.hp st.calm (okI (H0 := H0) n c _ i' q2 W X _ st.toSta) (st.toSta.tg q1) (fun HB SB => cSs_ok ih st _ _ HB SB q3) (sw_no (cI_set q2) X.env)
      · cases h
    · cases h
end
end Hf

/-! Hf14: the text's defs as functions of data. -/
namespace Hf
open PySem PySem.Spec PyProof.Rows L2
set_option autoImplicit false

structure Df where
  N : List Str
  k : Nat
  code : Sts
abbrev Dfs := List (Str × Df)
def entE (N : List Str) (ds : List D) : En := (ds.map fun d => some (false, d)) ++ List.replicate (N.length - ds.length) none
def endR (r : Fl) : Res (Bool × D) := match r with
  | .nx _ => okF .non
  | .rt b d => .ok (b, d)
  | .ex c _ => .exc c
  | _ => .fail
def runD (T : Tb) (wf : Nat) (f : Df) (ds : List D) : Res (Bool × D) := endR (exs T wf f.code (entE f.N ds))
/-- what the def f gives, at most n calls deep -/
def callN (gl : Str → Option D) (wf : Nat) (fs : Dfs) : Nat → Str → List D → Res (Bool × D)
  | 0, _, _ => .fail
  | n + 1, f, ds => match fs.lookup f with
    | some df => runD ⟨callN gl wf fs n, gl⟩ wf df ds
    | none => .fail
def arity (fs : Dfs) : List (Str × Nat) := fs.map fun p => (p.1, p.2.k)
theorem lookup_arity {fs : Dfs} {f : Str} {k : Nat} (h : (arity fs).lookup f = some k) : ∃ df, fs.lookup f = some df ∧ df.k = k := by
  induction fs with
  | nil => cases h
  | cons p r ih =>
    have h' : List.lookup f ((p.1, p.2.k) :: arity r) = some k := h
    rw [List.lookup_cons] at h' ⊢
    cases e : f == p.1 with
    | true => rw [e] at h'; cases h'; exact ⟨_, rfl, rfl⟩
    | false => rw [e] at h'; exact ih h'
section
variable {P : Program} {w : World} {G : Gm} {base : Heap} {gl : Str → Option D} {wf : Nat} {fs : Dfs} {gs : List Str}
theorem entE_get {N : List Str} {ds : List D} {i : Nat} {b : Bool} {d : D} (h : (entE N ds)[i]? = some (some (b, d))) : b = false ∧ ds[i]? = some d := by
  unfold entE at h
  by_cases hi : i < ds.length
  · rw [List.getElem?_append_left (by simpa using hi), List.getElem?_map] at h
    cases e : ds[i]? with
    | none => rw [e] at h; cases h
    | some x => rw [e] at h; cases h; exact ⟨rfl, rfl⟩
  · rw [List.getElem?_append_right (by simpa using hi), List.getElem?_replicate] at h
    split at h <;> cases h
theorem entE_env {N : List Str} {ds : List D} {vs : List V} {H : Hp} {S : Sy} (dm : Dm H S) (h : Paired (Rep G H S) ds vs) : REnv G H H S (L2.start N vs) (entE N ds) := by
  have hl := Paired.length h
  refine ⟨?_, dm, fun i b d q => ?_, fun i j d e a _ q1 _ _ _ => ?_⟩
  · unfold entE L2.start
    rw [List.length_append, List.length_append, List.length_map, List.length_map, List.length_replicate, List.length_replicate, hl]
  · obtain ⟨rfl, q'⟩ := entE_get q
    obtain ⟨v, h1, h2⟩ := h.gt q'
    refine ⟨v, ?_, h2⟩
    unfold L2.start
    have hi : i < vs.length := (List.getElem?_eq_some_iff.mp h1).1
    rw [List.getElem?_append_left (by simpa using hi), List.getElem?_map, h1]
    rfl
  · obtain ⟨e, _⟩ := entE_get q1
    cases e
/-- a def of the text as it stands behind the top: where, its row's arguments, body, scope -/
structure At (G : Gm) (fs : Dfs) (gs : List Str) (f : Str) (df : Df) (qual : Str) (params : Arguments) (body : List Stmt) (sc : Scope) (fa : Addr) (fd : FuncData) (ps : List Str) (n : Nat) : Prop where
  mg : G.mg f = some (.ref fa)
  fn : FunD G.K f qual params body sc [] [] fa fd
  fsc : FnScope df.N ps sc
  len : ps.length = df.k
  cc : cSs (cS n ⟨df.N, sc, true, arity fs, gs⟩) body = some df.code
  bd : Binds G.K fd ps []
theorem At.ok {f : Str} {df : Df} {qual : Str} {params : Arguments} {body : List Stmt} {sc : Scope} {fa : Addr} {fd : FuncData} {ps : List Str} {m : Nat} (A : At G fs gs f df qual params body sc fa fd ps m)
    (hgl : ∀ x ∈ gs, ∀ d, gl x = some d → ∃ u v, G.mg x = some u ∧ RelV v u ∧ ∀ H S, Rep G H S d v) (hfree : ∀ x ∈ bnames, G.mg x = none) (hf : fs.lookup f = some df) (n : Nat)
    (ih : ∀ (f : Str) (df : Df), fs.lookup f = some df → FnD P w G base n f df.k (callN gl wf fs n f)) : FnOk P w G.K G.mg base (L2.CX P w) (n + 1) fa fd ps (spD G df.k (callN gl wf fs (n + 1) f)) := by
  obtain ⟨h1, h2, h3, h4, h5, h6⟩ := A
  refine h2.ok h3 (fun vs H Q E h => h.1.trans h4.symm) (fun cdv A outer s H vs Q E hr h => ?_)
  obtain ⟨_, S, ds, dm, rp, p⟩ := h
  have e : callN gl wf fs (n + 1) f ds = runD ⟨callN gl wf fs n, gl⟩ wf df ds := by
    show (match fs.lookup f with | some df => runD ⟨callN gl wf fs n, gl⟩ wf df ds | none => .fail) = _
    rw [hf]
  rw [e] at p
  -- what is wanted of an error
  let W : WD := fun c _ H' => ∀ a, G.mg c = some (.ref a) → E (.ref a) none H'
  let X := cxOf (L2.CX P w) P w G.K G.mg base df.N qual sc fa cdv A outer s H E
  have tk : Takes X (wOf G W) := (takes_of (X := X) (E := E) rfl rfl rfl rfl).imp fun cls d σ H' ⟨c, a, e1, e2, e3, w⟩ => by
    subst e1 e3
    exact w a e2
  have st : StaS P w G base ⟨callN gl wf fs n, gl⟩ n ⟨df.N, sc, true, arity fs, gs⟩ W X :=
    { eP := rfl, ew := rfl, K := rfl, mg := rfl, eb := rfl, N := rfl, sc := rfl, nd := h3.nd, calm := rfl, fn := fun _ _ => rfl, room := hr, tk := tk,
      fns := fun g k hg => by
        obtain ⟨dg, e1, e2⟩ := lookup_arity hg
        have := ih g dg e1
        rw [e2] at this
        exact this
      gls := hgl, free := hfree, top := rfl, kd := h3.kind, hp := passes_of (X := X) rfl }
  refine ⟨tS G W H S (fun _ => none) (fun _ => False) (exs ⟨callN gl wf fs n, gl⟩ wf df.code), cSs_ok (okS (H0 := H) (S0 := S) m) st body df.code _ _ h5, S, entE df.N ds, entE_env dm rp, ⟨Gr.refl H S, fun _ z => z.elim⟩, ?_⟩
  have p : Post G (fun c H' => ∀ a, G.mg c = some (.ref a) → E (.ref a) none H') H S (endR (exs ⟨callN gl wf fs n, gl⟩ wf df.code (entE df.N ds))) Q := p
  cases z : exs ⟨callN gl wf fs n, gl⟩ wf df.code (entE df.N ds) with
  | nx ρ => rw [z] at p; exact fun σ H' S' R g => p .non H' S' g.g .non
  | rt b d => rw [z] at p; exact fun v H' S' g r => p v H' S' g.g r
  | ex c ρ => rw [z] at p; exact fun σ H' S' R g => p H' S' g.g
  | bk ρ => rw [z] at p; exact p.elim
  | ct ρ => rw [z] at p; exact p.elim
  | fail => rw [z] at p; exact p.elim
def AnyAt (G : Gm) (fs : Dfs) (gs : List Str) (f : Str) (df : Df) : Prop := ∃ qual params body sc fa fd ps n, At G fs gs f df qual params body sc fa fd ps n
theorem defs_ok (hd : ∀ f df, fs.lookup f = some df → AnyAt G fs gs f df) (hgl : ∀ x ∈ gs, ∀ d, gl x = some d → ∃ u v, G.mg x = some u ∧ RelV v u ∧ ∀ H S, Rep G H S d v) (hfree : ∀ x ∈ bnames, G.mg x = none) :
    ∀ (n : Nat) (f : Str) (df : Df), fs.lookup f = some df → FnD P w G base n f df.k (callN gl wf fs n f)
  | 0, f, df, hf => by
    obtain ⟨qual, params, body, sc, fa, fd, ps, m, A⟩ := hd f df hf
    refine ⟨fa, fd, ps, A.len, A.mg, ⟨fun vs H Q E h => h.1.trans A.len.symm, fun A outer s H args us vs Q E _ _ _ _ h => ?_⟩, A.fn.kp, A.bd⟩
    obtain ⟨_, S, ds, _, _, p⟩ := h
    exact False.elim p
  | n + 1, f, df, hf => by
    obtain ⟨qual, params, body, sc, fa, fd, ps, m, A⟩ := hd f df hf
    exact ⟨fa, fd, ps, A.len, A.mg, A.ok hgl hfree hf n (defs_ok hd hgl hfree n), A.fn.kp, A.bd⟩
/-- the law's own promise, from what it gives of any ints -/
theorem law_sp {n : Nat} {r : List D → Res (Bool × D)} (h : ∀ ns : List Int, ns.length ≤ n → ∃ b, r [.lst (ns.map D.int)] = .ok (b, .bl true)) (H : Hp) (a : Addr) (ns : List Int) (hl : ns.length ≤ n) (hS : SqL G.K H a (ns.map V.int)) :
    spD G 1 r [.ref a] H (fun v _ => v = .bl true) fun _ _ _ => False := by
  obtain ⟨b, e⟩ := h ns hl
  have pr : ∀ S, Paired (Rep G H S) (ns.map D.int) (ns.map V.int) := fun S => by
    clear hl hS e
    induction ns with
    | nil => exact .nil
    | cons i r ih => exact .cons (.int i) ih
  refine ⟨rfl, ?_⟩
  have fin : ∀ S : Sy, Post G (fun c H' => ∀ a, G.mg c = some (.ref a) → False) H S (r [.lst (ns.map D.int)]) (fun v _ => v = .bl true) := fun S => by
    rw [e]
    intro v H' S' _ q
    cases b with
    | false => cases q; rfl
    | true =>
      obtain ⟨_, _, _, _, z, _⟩ := q
      cases z
  rcases hS with hS | hS
  · refine ⟨fun b => b = a, [.lst (ns.map D.int)], fun b z => ?_, .cons (.lst (.inl ⟨rfl, hS⟩) (pr _)) .nil, fin _⟩
    subst z
    rcases hS with q | ⟨o, q⟩
    · exact ⟨_, q⟩
    · exact ⟨_, q⟩
  · exact ⟨fun _ => False, [.lst (ns.map D.int)], fun b z => z.elim, .cons (.lst (.inr hS) (pr _)) .nil, fin _⟩
/-- a def that lets nothing out -/
theorem fn_no {k : Nat} {f : Addr} {fd : FuncData} {ps : List Str} {sp : Sp} (F : FnOk P w G.K G.mg base (L2.CX P w) k f fd ps sp) : FnOk P w G.K G.mg base CX0 k f fd ps (fun vs H Q _ => sp vs H Q E0) := by
  refine ⟨fun vs H Q E h => F.len vs H Q E0 h, fun A outer s H args us vs Q E hr e hb hv h => ?_⟩
  refine codeAny_mono (F.run A outer s H args us vs Q E0 hr e hb hv h) fun r s' hq => ?_
  cases r with
  | error e =>
    obtain ⟨_, _, _, _, _, _, _, _, _, _, _, _, z⟩ := hq
    exact z.elim
  | ok fl => cases fl <;> exact hq
end
end Hf

namespace K01
open PySem PySem.Spec PyProof.Rows L2 Hf
set_option autoImplicit false
def wf : Nat := 1000000
def c_is_number : Sts :=
    (.cons (.ifs (.or (.val (.isi (.var 0) .bool)) (.not (.val (.isi (.var 0) .int)))) (.cons (.ret (.lit (.bl false)))
    .nil) .nil)
    (.cons (.ret (.chn .Lt .Lt (.neg (.gl "BOUND")) (.var 0) (.gl "BOUND")))
    .nil))
def f_is_number : Df := ⟨["thing"], 1, c_is_number⟩
def c_is_value : Sts :=
    (.cons (.set 1 (.lst (.cons (.var 0) .nil)))
    (.cons (.set 2 (.lit (.int 0)))
    (.cons (.whl (.and (.val (.var 1)) (.val (.cmp .LtE (.var 2) (.gl "MOST_WEIGHT")))) (.cons (.pop (.one 3) 1)
    (.cons (.aug 2 .Add (.lit (.int 1)))
    (.cons (.ifs (.val (.isi (.var 3) .tuple)) (.cons (.ext 1 (.var 3))
    .nil) (.cons (.ifs (.not (.val (.call "is_number" (.cons (.var 3) .nil)))) (.cons (.ret (.lit (.bl false)))
    .nil) .nil)
    .nil))
    .nil))))
    (.cons (.ret (.cmp .LtE (.var 2) (.gl "MOST_WEIGHT")))
    .nil))))
def f_is_value : Df := ⟨["thing", "waiting", "weighed", "part"], 1, c_is_value⟩
def c_weight : Sts :=
    (.cons (.set 1 (.lst (.cons (.var 0) .nil)))
    (.cons (.set 2 (.lit (.int 0)))
    (.cons (.whl (.val (.var 1)) (.cons (.pop (.one 3) 1)
    (.cons (.aug 2 .Add (.lit (.int 1)))
    (.cons (.ifs (.val (.isi (.var 3) .tuple)) (.cons (.ext 1 (.var 3))
    .nil) .nil)
    .nil))))
    (.cons (.ret (.var 2))
    .nil))))
def f_weight : Df := ⟨["value", "waiting", "weighed", "part"], 1, c_weight⟩
def c__law_cell_at : Sts :=
    (.cons (.ifs (.val (.cmp .Lt (.var 1) (.bi .len (.var 0)))) (.cons (.ret (.idx (.var 0) (.var 1)))
    .nil) .nil)
    (.cons (.ret (.lit (.int 0)))
    .nil))
def f__law_cell_at : Df := ⟨["_law_script", "_law_k"], 2, c__law_cell_at⟩
def c__law_leaf : Sts :=
    (.cons (.set 1 (.lst (.cons (.lit (.int 0)) (.cons (.lit (.int 1)) (.cons (.neg (.lit (.int 1))) (.cons (.bin .Sub (.bin .Pow (.lit (.int 10)) (.lit (.int 18))) (.lit (.int 1))) (.cons (.bin .Sub (.lit (.int 1)) (.bin .Pow (.lit (.int 10)) (.lit (.int 18)))) (.cons (.bin .Pow (.lit (.int 10)) (.lit (.int 18))) (.cons (.neg (.bin .Pow (.lit (.int 10)) (.lit (.int 18)))) (.cons (.lit (.bl true)) (.cons (.lit (.bl false)) (.cons (.lit .non) (.cons (.lit (.str "7")) (.cons (.bin .Pow (.lit (.int 10)) (.lit (.int 30))) .nil))))))))))))))
    (.cons (.ifs (.val (.cmp .Gt (.bin .Mod (.var 0) (.lit (.int 4))) (.lit (.int 0)))) (.cons (.ret (.bin .Sub (.bin .Mod (.bin .FloorDiv (.var 0) (.lit (.int 4))) (.lit (.int 1000))) (.lit (.int 500))))
    .nil) .nil)
    (.cons (.ret (.idx (.var 1) (.bin .Mod (.bin .FloorDiv (.var 0) (.lit (.int 4))) (.lit (.int 12)))))
    .nil)))
def f__law_leaf : Df := ⟨["_law_cell", "_law_some"], 1, c__law_leaf⟩
def c__law_thing : Sts :=
    (.cons (.set 1 (.lst .nil))
    (.cons (.for_ (.one 2) (.seq (.slc (.var 0) (.some (.lit (.int 1))) (.some (.bin .Add (.lit (.int 1)) (.bin .Mod (.call "_law_cell_at" (.cons (.var 0) (.cons (.lit (.int 0)) .nil))) (.lit (.int 61))))))) (.cons (.ifs (.val (.cmp .Lt (.bin .Mod (.var 2) (.lit (.int 5))) (.lit (.int 3)))) (.cons (.app 1 (.call "_law_leaf" (.cons (.bin .Add (.bin .Mult (.bin .FloorDiv (.var 2) (.lit (.int 5))) (.lit (.int 4))) (.lit (.int 1))) .nil)))
    .nil) (.cons (.ifs (.val (.cmp .Eq (.bin .Mod (.var 2) (.lit (.int 5))) (.lit (.int 3)))) (.cons (.set 4 (.bin .Mod (.bin .FloorDiv (.var 2) (.lit (.int 5))) (.bin .Add (.lit (.int 1)) (.bi .len (.var 1)))))
    (.cons (.set 1 (.bin .Add (.slc (.var 1) .none (.some (.bin .Sub (.bi .len (.var 1)) (.var 4)))) (.lst (.cons (.bi .tuple (.slc (.var 1) (.some (.bin .Sub (.bi .len (.var 1)) (.var 4))) .none)) .nil))))
    .nil)) (.cons (.app 1 (.bi .tuple (.bin .Mult (.lst (.cons (.bin .Mod (.bin .FloorDiv (.var 2) (.lit (.int 5))) (.lit (.int 7))) .nil)) (.bin .Mod (.bin .FloorDiv (.var 2) (.lit (.int 35))) (.lit (.int 5))))))
    .nil))
    .nil))
    .nil))
    (.cons (.ifs (.and (.val (.cmp .Eq (.bin .Mod (.bin .FloorDiv (.call "_law_cell_at" (.cons (.var 0) (.cons (.lit (.int 0)) .nil))) (.lit (.int 61))) (.lit (.int 2))) (.lit (.int 1)))) (.val (.cmp .NotEq (.var 1) (.lst .nil)))) (.cons (.set 3 (.bin .Mod (.bin .FloorDiv (.call "_law_cell_at" (.cons (.var 0) (.cons (.lit (.int 0)) .nil))) (.lit (.int 122))) (.bi .len (.var 1))))
    (.cons (.put 1 (.var 3) (.call "_law_leaf" (.cons (.bin .Mult (.bin .FloorDiv (.bin .FloorDiv (.call "_law_cell_at" (.cons (.var 0) (.cons (.lit (.int 0)) .nil))) (.lit (.int 122))) (.lit (.int 61))) (.lit (.int 4))) .nil)))
    .nil)) .nil)
    (.cons (.ifs (.or (.val (.cmp .Eq (.bi .len (.var 1)) (.lit (.int 1)))) (.and (.val (.cmp .Eq (.bin .Mod (.bin .FloorDiv (.call "_law_cell_at" (.cons (.var 0) (.cons (.lit (.int 0)) .nil))) (.lit (.int 2))) (.lit (.int 5))) (.lit (.int 0)))) (.val (.cmp .NotEq (.var 1) (.lst .nil))))) (.cons (.ret (.idx (.var 1) (.lit (.int 0))))
    .nil) .nil)
    (.cons (.ret (.bi .tuple (.var 1)))
    .nil)))))
def f__law_thing : Df := ⟨["_law_script", "_law_pile", "_law_cell", "_law_at", "_law_many"], 1, c__law_thing⟩
def c__law_weight : Sts :=
    (.cons (.ifs (.val (.isi (.var 0) .tuple)) (.cons (.ret (.bin .Add (.lit (.int 1)) (.bi .sum (.comp (.one 1) [1] (.seq (.var 0)) .nil (.call "_law_weight" (.cons (.var 1) .nil))))))
    .nil) .nil)
    (.cons (.ret (.lit (.int 1)))
    .nil))
def f__law_weight : Df := ⟨["_law_thing_here", "_law_one"], 1, c__law_weight⟩
def c__law_good : Sts :=
    (.cons (.ifs (.val (.isi (.var 0) .tuple)) (.cons (.ret (.cmp .Eq (.bi .len (.comp (.one 1) [1] (.seq (.var 0)) (.one (.not (.val (.call "_law_good" (.cons (.var 1) .nil))))) (.var 1))) (.lit (.int 0))))
    .nil) .nil)
    (.cons (.ifs (.or (.not (.val (.isi (.var 0) .int))) (.val (.isi (.var 0) .bool))) (.cons (.ret (.lit (.bl false)))
    .nil) .nil)
    (.cons (.ret (.and (.cmp .Lt (.neg (.bin .Pow (.lit (.int 10)) (.lit (.int 18)))) (.var 0)) (.cmp .Lt (.var 0) (.bin .Pow (.lit (.int 10)) (.lit (.int 18))))))
    .nil)))
def f__law_good : Df := ⟨["_law_thing_here", "_law_one"], 1, c__law_good⟩
def c_law : Sts :=
    (.cons (.set 1 (.call "_law_thing" (.cons (.var 0) .nil)))
    (.cons (.set 2 (.and (.call "_law_good" (.cons (.var 1) .nil)) (.cmp .LtE (.call "_law_weight" (.cons (.var 1) .nil)) (.lit (.int 50)))))
    (.cons (.for_ (.one 3) (.rng1 (.lit (.int 2))) (.cons (.set 5 (.call "is_value" (.cons (.var 1) .nil)))
    (.cons (.ifs (.or (.not (.val (.isi (.var 5) .bool))) (.val (.cmp .NotEq (.var 5) (.var 2)))) (.cons (.ret (.lit (.bl false)))
    .nil) .nil)
    (.cons (.ifs (.or (.val (.cmp .IsNot (.call "is_value" (.cons (.tup (.cons (.lit (.int 1)) (.cons (.tup (.cons (.lit (.int 2)) .nil)) .nil))) .nil)) (.lit (.bl true)))) (.val (.cmp .IsNot (.call "is_value" (.cons (.tup (.cons (.lit (.bl true)) .nil)) .nil)) (.lit (.bl false))))) (.cons (.ret (.lit (.bl false)))
    .nil) .nil)
    (.cons (.ifs (.or (.val (.cmp .IsNot (.call "is_value" (.cons (.bin .Mult (.tup (.cons (.lit (.int 0)) .nil)) (.lit (.int 49))) .nil)) (.lit (.bl true)))) (.val (.cmp .IsNot (.call "is_value" (.cons (.bin .Add (.bin .Mult (.tup (.cons (.lit (.int 0)) .nil)) (.lit (.int 48))) (.bin .Mult (.tup (.cons (.tup .nil) .nil)) (.lit (.int 2)))) .nil)) (.lit (.bl false))))) (.cons (.ret (.lit (.bl false)))
    .nil) .nil)
    (.cons (.ifs (.or (.val (.cmp .IsNot (.call "is_value" (.cons (.bin .Sub (.bin .Pow (.lit (.int 10)) (.lit (.int 18))) (.lit (.int 1))) .nil)) (.lit (.bl true)))) (.val (.cmp .IsNot (.call "is_value" (.cons (.tup (.cons (.lit (.int 1)) (.cons (.tup (.cons (.bin .Pow (.lit (.int 10)) (.lit (.int 18))) .nil)) .nil))) .nil)) (.lit (.bl false))))) (.cons (.ret (.lit (.bl false)))
    .nil) .nil)
    .nil))))))
    (.cons (.ifs (.not (.val (.var 2))) (.cons (.ret (.lit (.bl true)))
    .nil) .nil)
    (.cons (.set 4 (.call "weight" (.cons (.var 1) .nil)))
    (.cons (.ret (.and (.isi (.var 4) .int) (.and (.not (.isi (.var 4) .bool)) (.cmp .Eq (.var 4) (.call "_law_weight" (.cons (.var 1) .nil))))))
    .nil))))))
def f_law : Df := ⟨["_law_script", "_law_thing_here", "_law_due", "_law_turn", "_law_many", "_law_found"], 1, c_law⟩
def fs : Dfs := [("is_number", f_is_number), ("is_value", f_is_value), ("weight", f_weight), ("_law_cell_at", f__law_cell_at), ("_law_leaf", f__law_leaf), ("_law_thing", f__law_thing), ("_law_weight", f__law_weight), ("_law_good", f__law_good), ("law", f_law)]
-- top: 3 is_number, 4 is_value, 5 weight, 7 _law_cell_at, 8 _law_leaf, 9 _law_thing, 10 _law_weight, 11 _law_good, 12 law
def top (i : Nat) : Stmt := PySem.Challenge.pw_halfrun_k01_values.main.body.getD i (.Pass ⟨0, 0, 0, 0⟩)
def gs : List Str := ["BOUND", "MOST_WEIGHT"]
def gl (x : Str) : Option D := if x = ("BOUND" : Str) then some (.int 1000000000000000000) else if x = ("MOST_WEIGHT" : Str) then some (.int 50) else none
theorem cc_is_number : cSs (cS 60 ⟨f_is_number.N, defScope (top 3), true, arity fs, gs⟩) (defBody (top 3)) = some f_is_number.code := by kernel_rfl
theorem sc_is_number : FnScope f_is_number.N ["thing"] (defScope (top 3)) := ⟨rfl, rfl, rfl, by decide +kernel, rfl, by decide +kernel, by decide +kernel⟩
def d_is_number : He.DefD := ⟨("is_number", none), "is_number", "is_number", defArgs (top 3), defBody (top 3), defScope (top 3), [], []⟩
theorem cc_is_value : cSs (cS 60 ⟨f_is_value.N, defScope (top 4), true, arity fs, gs⟩) (defBody (top 4)) = some f_is_value.code := by kernel_rfl
theorem sc_is_value : FnScope f_is_value.N ["thing"] (defScope (top 4)) := ⟨rfl, rfl, rfl, by decide +kernel, rfl, by decide +kernel, by decide +kernel⟩
def d_is_value : He.DefD := ⟨("is_value", none), "is_value", "is_value", defArgs (top 4), defBody (top 4), defScope (top 4), [], []⟩
theorem cc_weight : cSs (cS 60 ⟨f_weight.N, defScope (top 5), true, arity fs, gs⟩) (defBody (top 5)) = some f_weight.code := by kernel_rfl
theorem sc_weight : FnScope f_weight.N ["value"] (defScope (top 5)) := ⟨rfl, rfl, rfl, by decide +kernel, rfl, by decide +kernel, by decide +kernel⟩
def d_weight : He.DefD := ⟨("weight", none), "weight", "weight", defArgs (top 5), defBody (top 5), defScope (top 5), [], []⟩
theorem cc__law_cell_at : cSs (cS 60 ⟨f__law_cell_at.N, defScope (top 7), true, arity fs, gs⟩) (defBody (top 7)) = some f__law_cell_at.code := by kernel_rfl
theorem sc__law_cell_at : FnScope f__law_cell_at.N ["_law_script", "_law_k"] (defScope (top 7)) := ⟨rfl, rfl, rfl, by decide +kernel, rfl, by decide +kernel, by decide +kernel⟩
def d__law_cell_at : He.DefD := ⟨("_law_cell_at", none), "_law_cell_at", "_law_cell_at", defArgs (top 7), defBody (top 7), defScope (top 7), [], []⟩
theorem cc__law_leaf : cSs (cS 60 ⟨f__law_leaf.N, defScope (top 8), true, arity fs, gs⟩) (defBody (top 8)) = some f__law_leaf.code := by kernel_rfl
theorem sc__law_leaf : FnScope f__law_leaf.N ["_law_cell"] (defScope (top 8)) := ⟨rfl, rfl, rfl, by decide +kernel, rfl, by decide +kernel, by decide +kernel⟩
def d__law_leaf : He.DefD := ⟨("_law_leaf", none), "_law_leaf", "_law_leaf", defArgs (top 8), defBody (top 8), defScope (top 8), [], []⟩
theorem cc__law_thing : cSs (cS 60 ⟨f__law_thing.N, defScope (top 9), true, arity fs, gs⟩) (defBody (top 9)) = some f__law_thing.code := by kernel_rfl
theorem sc__law_thing : FnScope f__law_thing.N ["_law_script"] (defScope (top 9)) := ⟨rfl, rfl, rfl, by decide +kernel, rfl, by decide +kernel, by decide +kernel⟩
def d__law_thing : He.DefD := ⟨("_law_thing", none), "_law_thing", "_law_thing", defArgs (top 9), defBody (top 9), defScope (top 9), [], []⟩
theorem cc__law_weight : cSs (cS 60 ⟨f__law_weight.N, defScope (top 10), true, arity fs, gs⟩) (defBody (top 10)) = some f__law_weight.code := by kernel_rfl
theorem sc__law_weight : FnScope f__law_weight.N ["_law_thing_here"] (defScope (top 10)) := ⟨rfl, rfl, rfl, by decide +kernel, rfl, by decide +kernel, by decide +kernel⟩
def d__law_weight : He.DefD := ⟨("_law_weight", none), "_law_weight", "_law_weight", defArgs (top 10), defBody (top 10), defScope (top 10), [], []⟩
theorem cc__law_good : cSs (cS 60 ⟨f__law_good.N, defScope (top 11), true, arity fs, gs⟩) (defBody (top 11)) = some f__law_good.code := by kernel_rfl
theorem sc__law_good : FnScope f__law_good.N ["_law_thing_here"] (defScope (top 11)) := ⟨rfl, rfl, rfl, by decide +kernel, rfl, by decide +kernel, by decide +kernel⟩
def d__law_good : He.DefD := ⟨("_law_good", none), "_law_good", "_law_good", defArgs (top 11), defBody (top 11), defScope (top 11), [], []⟩
theorem cc_law : cSs (cS 60 ⟨f_law.N, defScope (top 12), true, arity fs, gs⟩) (defBody (top 12)) = some f_law.code := by kernel_rfl
theorem sc_law : FnScope f_law.N ["_law_script"] (defScope (top 12)) := ⟨rfl, rfl, rfl, by decide +kernel, rfl, by decide +kernel, by decide +kernel⟩
def d_law : He.DefD := ⟨("law", none), "law", "law", defArgs (top 12), defBody (top 12), defScope (top 12), [], []⟩
def fn : List He.DefD := [d_is_number, d_is_value, d_weight, d__law_cell_at, d__law_leaf, d__law_thing, d__law_weight, d__law_good, d_law]
def fa : List He.Fa := [.glo "is_number", .glo "is_value", .glo "weight", .glo "_law_cell_at", .glo "_law_leaf", .glo "_law_thing", .glo "_law_weight", .glo "_law_good", .glo "law", .free "len", .free "tuple", .free "list", .free "sum", .free "abs", .free "int", .free "bool", .free "str", .free "isinstance", .free "range", .int "BOUND" 1000000000000000000, .int "MOST_WEIGHT" 50]
abbrev R : PySem.W.OpenRow := PySem.W.OpenLaw.row PySem.Challenge.rw_halfrun_k01_values
abbrev hk : PySem.W.Hook := He.hookD 4 fa fn
def ob (s : PySem.W.SharedT) : He.AlD := He.obsDG 4 fa fn (HandSHeadRun.getT s)
theorem ob_eq (s : PySem.W.SharedT) : ob s = hk.obs s.abs := He.obsDG_eq (HandSHeadRun.getT_eq s)
def others : List Str := ["is_number", "is_value", "weight", "_law_cell_at", "_law_leaf", "_law_thing", "_law_weight", "_law_good", "BOUND", "MOST_WEIGHT"]
theorem run (w : World) : HandSHeadRun.RunEq R (PySem.W.view R.prog [12]) hk ob 4000 others w := by
  intro os
  kernel_rfl
section
variable {K : PySem.W.Frag} {h : Heap} {mg : Str → Option Value}
theorem at_is_number (X : K.In h) (G : h.Ns mainGlobals mg) (c : He.SaysD fa fn K) : AnyAt ⟨K, mg⟩ fs gs "is_number" f_is_number := by
  obtain ⟨fd, F⟩ := c.def_ 0 (d := d_is_number) rfl
  exact ⟨_, _, _, _, _, fd, _, 60, He.glo_ok X G (c.fact 0 (f := .glo "is_number") rfl), F, sc_is_number, rfl, cc_is_number, F.bindsN fun _ _ _ _ _ _ us hl => match us, hl with | [_], _ => rfl⟩
theorem at_is_value (X : K.In h) (G : h.Ns mainGlobals mg) (c : He.SaysD fa fn K) : AnyAt ⟨K, mg⟩ fs gs "is_value" f_is_value := by
  obtain ⟨fd, F⟩ := c.def_ 1 (d := d_is_value) rfl
  exact ⟨_, _, _, _, _, fd, _, 60, He.glo_ok X G (c.fact 1 (f := .glo "is_value") rfl), F, sc_is_value, rfl, cc_is_value, F.bindsN fun _ _ _ _ _ _ us hl => match us, hl with | [_], _ => rfl⟩
theorem at_weight (X : K.In h) (G : h.Ns mainGlobals mg) (c : He.SaysD fa fn K) : AnyAt ⟨K, mg⟩ fs gs "weight" f_weight := by
  obtain ⟨fd, F⟩ := c.def_ 2 (d := d_weight) rfl
  exact ⟨_, _, _, _, _, fd, _, 60, He.glo_ok X G (c.fact 2 (f := .glo "weight") rfl), F, sc_weight, rfl, cc_weight, F.bindsN fun _ _ _ _ _ _ us hl => match us, hl with | [_], _ => rfl⟩
theorem at__law_cell_at (X : K.In h) (G : h.Ns mainGlobals mg) (c : He.SaysD fa fn K) : AnyAt ⟨K, mg⟩ fs gs "_law_cell_at" f__law_cell_at := by
  obtain ⟨fd, F⟩ := c.def_ 3 (d := d__law_cell_at) rfl
  exact ⟨_, _, _, _, _, fd, _, 60, He.glo_ok X G (c.fact 3 (f := .glo "_law_cell_at") rfl), F, sc__law_cell_at, rfl, cc__law_cell_at, F.bindsN fun _ _ _ _ _ _ us hl => match us, hl with | [_, _], _ => rfl⟩
theorem at__law_leaf (X : K.In h) (G : h.Ns mainGlobals mg) (c : He.SaysD fa fn K) : AnyAt ⟨K, mg⟩ fs gs "_law_leaf" f__law_leaf := by
  obtain ⟨fd, F⟩ := c.def_ 4 (d := d__law_leaf) rfl
  exact ⟨_, _, _, _, _, fd, _, 60, He.glo_ok X G (c.fact 4 (f := .glo "_law_leaf") rfl), F, sc__law_leaf, rfl, cc__law_leaf, F.bindsN fun _ _ _ _ _ _ us hl => match us, hl with | [_], _ => rfl⟩
theorem at__law_thing (X : K.In h) (G : h.Ns mainGlobals mg) (c : He.SaysD fa fn K) : AnyAt ⟨K, mg⟩ fs gs "_law_thing" f__law_thing := by
  obtain ⟨fd, F⟩ := c.def_ 5 (d := d__law_thing) rfl
  exact ⟨_, _, _, _, _, fd, _, 60, He.glo_ok X G (c.fact 5 (f := .glo "_law_thing") rfl), F, sc__law_thing, rfl, cc__law_thing, F.bindsN fun _ _ _ _ _ _ us hl => match us, hl with | [_], _ => rfl⟩
theorem at__law_weight (X : K.In h) (G : h.Ns mainGlobals mg) (c : He.SaysD fa fn K) : AnyAt ⟨K, mg⟩ fs gs "_law_weight" f__law_weight := by
  obtain ⟨fd, F⟩ := c.def_ 6 (d := d__law_weight) rfl
  exact ⟨_, _, _, _, _, fd, _, 60, He.glo_ok X G (c.fact 6 (f := .glo "_law_weight") rfl), F, sc__law_weight, rfl, cc__law_weight, F.bindsN fun _ _ _ _ _ _ us hl => match us, hl with | [_], _ => rfl⟩
theorem at__law_good (X : K.In h) (G : h.Ns mainGlobals mg) (c : He.SaysD fa fn K) : AnyAt ⟨K, mg⟩ fs gs "_law_good" f__law_good := by
  obtain ⟨fd, F⟩ := c.def_ 7 (d := d__law_good) rfl
  exact ⟨_, _, _, _, _, fd, _, 60, He.glo_ok X G (c.fact 7 (f := .glo "_law_good") rfl), F, sc__law_good, rfl, cc__law_good, F.bindsN fun _ _ _ _ _ _ us hl => match us, hl with | [_], _ => rfl⟩
theorem at_law (X : K.In h) (G : h.Ns mainGlobals mg) (c : He.SaysD fa fn K) : AnyAt ⟨K, mg⟩ fs gs "law" f_law := by
  obtain ⟨fd, F⟩ := c.def_ 8 (d := d_law) rfl
  exact ⟨_, _, _, _, _, fd, _, 60, He.glo_ok X G (c.fact 8 (f := .glo "law") rfl), F, sc_law, rfl, cc_law, F.bindsN fun _ _ _ _ _ _ us hl => match us, hl with | [_], _ => rfl⟩
theorem lk_mem {f : Str} {df : Df} (h : fs.lookup f = some df) : (f, df) ∈ fs := PySem.mem_of_lookup h
theorem all_at (X : K.In h) (G : h.Ns mainGlobals mg) (c : He.SaysD fa fn K) (f : Str) (df : Df) (hf : fs.lookup f = some df) : AnyAt ⟨K, mg⟩ fs gs f df := by
  have m := lk_mem hf
  simp only [fs, List.mem_cons, List.not_mem_nil, or_false, Prod.mk.injEq] at m
  rcases m with ⟨rfl, rfl⟩ | ⟨rfl, rfl⟩ | ⟨rfl, rfl⟩ | ⟨rfl, rfl⟩ | ⟨rfl, rfl⟩ | ⟨rfl, rfl⟩ | ⟨rfl, rfl⟩ | ⟨rfl, rfl⟩ | ⟨rfl, rfl⟩
  · exact at_is_number X G c
  · exact at_is_value X G c
  · exact at_weight X G c
  · exact at__law_cell_at X G c
  · exact at__law_leaf X G c
  · exact at__law_thing X G c
  · exact at__law_weight X G c
  · exact at__law_good X G c
  · exact at_law X G c
theorem all_free (X : K.In h) (G : h.Ns mainGlobals mg) (c : He.SaysD fa fn K) : ∀ x ∈ bnames, mg x = none := by
  intro x hx
  simp only [bnames, List.mem_cons, List.not_mem_nil, or_false] at hx
  rcases hx with rfl | rfl | rfl | rfl | rfl | rfl | rfl | rfl | rfl | rfl
  · exact He.free_ok X G (c.fact 9 (f := .free "len") rfl)
  · exact He.free_ok X G (c.fact 10 (f := .free "tuple") rfl)
  · exact He.free_ok X G (c.fact 11 (f := .free "list") rfl)
  · exact He.free_ok X G (c.fact 12 (f := .free "sum") rfl)
  · exact He.free_ok X G (c.fact 13 (f := .free "abs") rfl)
  · exact He.free_ok X G (c.fact 14 (f := .free "int") rfl)
  · exact He.free_ok X G (c.fact 15 (f := .free "bool") rfl)
  · exact He.free_ok X G (c.fact 16 (f := .free "str") rfl)
  · exact He.free_ok X G (c.fact 17 (f := .free "isinstance") rfl)
  · exact He.free_ok X G (c.fact 18 (f := .free "range") rfl)
theorem all_gl (X : K.In h) (G : h.Ns mainGlobals mg) (c : He.SaysD fa fn K) : ∀ x ∈ gs, ∀ d, gl x = some d → ∃ u v, mg x = some u ∧ RelV v u ∧ ∀ H S, Rep ⟨K, mg⟩ H S d v := by
  intro x hx d hd
  simp only [gs, List.mem_cons, List.not_mem_nil, or_false] at hx
  rcases hx with rfl | rfl
  · obtain ⟨t, e⟩ := He.int_ok X G (c.fact 19 (f := .int "BOUND" 1000000000000000000) rfl)
    have hd' : gl "BOUND" = some (.int 1000000000000000000) := by kernel_rfl
    rw [hd'] at hd
    cases hd
    exact ⟨_, .int _, e, ⟨t, rfl⟩, fun _ _ => .int _⟩
  · obtain ⟨t, e⟩ := He.int_ok X G (c.fact 20 (f := .int "MOST_WEIGHT" 50) rfl)
    have hd' : gl "MOST_WEIGHT" = some (.int 50) := by kernel_rfl
    rw [hd'] at hd
    cases hd
    exact ⟨_, .int _, e, ⟨t, rfl⟩, fun _ _ => .int _⟩
end
def depth : Nat := 200
theorem facts {P : Program} {w : World} {K : PySem.W.Frag} {h : Heap} {mg : Str → Option Value} {f : Addr} (X : K.In h) (G : h.Ns mainGlobals mg) (hfa : mg ("law" : Str) = some (.ref f)) (c : He.SaysD fa fn K) :
    ∃ fd : FuncData, (∀ (s : Shared) (v : Value), BindsTo s fd ⟨[v], []⟩ [("_law_script", v)]) ∧ ∀ base : Heap, K.In base → base.Ns mainGlobals mg → FnOk P w K mg base CX0 (depth + 1) f fd ["_law_script"] (fun vs H Q _ => spD ⟨K, mg⟩ 1 (callN gl wf fs (depth + 1) "law") vs H Q E0) := by
  obtain ⟨fd, F⟩ := c.def_ 8 (d := d_law) rfl
  have e := hfa.symm.trans (He.glo_ok X G (c.fact 8 (f := .glo "law") rfl))
  cases e
  have b := FunD.bindsA (ps := ["_law_script"]) F fun _ _ _ _ _ _ us hl => match us, hl with | [_], _ => rfl
  have bN : Binds K fd ["_law_script"] [] := F.bindsN fun _ _ _ _ _ _ us hl => match us, hl with | [_], _ => rfl
  refine ⟨fd, fun s v => b s [v] rfl, fun base _ _ => ?_⟩
  have A : At ⟨K, mg⟩ fs gs "law" f_law "law" (defArgs (top 12)) (defBody (top 12)) (defScope (top 12)) _ fd ["_law_script"] 60 := ⟨He.glo_ok X G (c.fact 8 (f := .glo "law") rfl), F, sc_law, rfl, cc_law, bN⟩
  exact fn_no (G := ⟨K, mg⟩) (A.ok (all_gl X G c) (all_free X G c) (by kernel_rfl) depth (defs_ok (all_at X G c) (all_gl X G c) (all_free X G c) depth))
/-! ### what the defs give -/
theorem cN {n : Nat} {f : Str} {df : Df} (h : fs.lookup f = some df) (ds : List D) : callN gl wf fs (n + 1) f ds = runD ⟨callN gl wf fs n, gl⟩ wf df ds := by
  show (match fs.lookup f with | some df => runD ⟨callN gl wf fs n, gl⟩ wf df ds | none => .fail) = _
  rw [h]
theorem l_is_number : fs.lookup ("is_number" : Str) = some f_is_number := by kernel_rfl
theorem l_is_value : fs.lookup ("is_value" : Str) = some f_is_value := by kernel_rfl
theorem l_weight : fs.lookup ("weight" : Str) = some f_weight := by kernel_rfl
theorem l_cell_at : fs.lookup ("_law_cell_at" : Str) = some f__law_cell_at := by kernel_rfl
theorem l_leaf : fs.lookup ("_law_leaf" : Str) = some f__law_leaf := by kernel_rfl
theorem l_thing : fs.lookup ("_law_thing" : Str) = some f__law_thing := by kernel_rfl
theorem l_lweight : fs.lookup ("_law_weight" : Str) = some f__law_weight := by kernel_rfl
theorem l_good : fs.lookup ("_law_good" : Str) = some f__law_good := by kernel_rfl
theorem l_law : fs.lookup ("law" : Str) = some f_law := by kernel_rfl
theorem g_B : gl "BOUND" = some (.int 1000000000000000000) := by kernel_rfl
theorem g_M : gl "MOST_WEIGHT" = some (.int 50) := by kernel_rfl
/-- a thing as the law makes it -/
inductive Leaf : D → Prop
  | non : Leaf .non
  | bl (b : Bool) : Leaf (.bl b)
  | int (i : Int) : Leaf (.int i)
  | str (x : Str) (h : PyData.strOk x = true) : Leaf (.str x)
inductive Tr : D → Prop
  | leaf {d : D} (h : Leaf d) : Tr d
  | tup {xs : List D} (h : ∀ d ∈ xs, Tr d) : Tr (.tup xs)
def isNum : D → Bool
  | .int i => decide (-1000000000000000000 < i) && decide (i < 1000000000000000000)
  | _ => false
mutual
def wt : D → Nat
  | .tup xs => 1 + wts xs
  | _ => 1
def wts : List D → Nat
  | [] => 0
  | d :: ds => wt d + wts ds
end
mutual
def gd : D → Bool
  | .tup xs => gds xs
  | d => isNum d
def gds : List D → Bool
  | [] => true
  | d :: ds => gd d && gds ds
end
mutual
def dep : D → Nat
  | .tup xs => 1 + deps xs
  | _ => 0
def deps : List D → Nat
  | [] => 0
  | d :: ds => max (dep d) (deps ds)
end
theorem wts_app (a b : List D) : wts (a ++ b) = wts a + wts b := by
  induction a with
  | nil => simp [wts]
  | cons d r ih => simp [wts, ih]; omega
theorem gds_app (a b : List D) : gds (a ++ b) = (gds a && gds b) := by
  induction a with
  | nil => simp [gds]
  | cons d r ih => simp [gds, ih, Bool.and_assoc]
theorem deps_app (a b : List D) : deps (a ++ b) = max (deps a) (deps b) := by
  induction a with
  | nil => simp [deps]
  | cons d r ih => simp only [List.cons_append, deps, ih]; omega
theorem wt_pos (d : D) : 1 ≤ wt d := by cases d <;> simp [wt]
theorem wts_len (a : List D) : a.length ≤ wts a := by
  induction a with
  | nil => exact Nat.zero_le _
  | cons d r ih => have := wt_pos d; simp only [List.length_cons, wts]; omega
theorem v_num {n : Nat} {d : D} (h : Leaf d) : callN gl wf fs (n + 1) "is_number" [d] = .ok (false, .bl (isNum d)) := by
  rw [cN l_is_number]
  cases h with
  | int i =>
    by_cases h1 : -1000000000000000000 < i <;>
    simp [runD, entE, exs, ex, evT, ev, evs, evo, evc, evi, bor, getO, getF, sndR, intR, Res.bind, onR, Fl.seq, fz, usT, us, ub, uss, uso, usc, usi, isiD, okB, D.tru, negD, cmpD, opD, idxD, slcD, biD, okF, endR, setE, bindT, itemsD, f_is_number, c_is_number, g_B, isNum, h1]
  | _ => simp [runD, entE, exs, ex, evT, ev, evs, evo, evc, evi, bor, getO, getF, sndR, intR, Res.bind, onR, Fl.seq, fz, usT, us, ub, uss, uso, usc, usi, isiD, okB, D.tru, negD, cmpD, opD, idxD, slcD, biD, okF, endR, setE, bindT, itemsD, f_is_number, c_is_number, g_B, isNum]
/-! ### the weighing -/
def cV : Te := .and (.val (.var 1)) (.val (.cmp .LtE (.var 2) (.gl "MOST_WEIGHT")))
def bV : Sts := (.cons (.pop (.one 3) 1)
    (.cons (.aug 2 .Add (.lit (.int 1)))
    (.cons (.ifs (.val (.isi (.var 3) .tuple)) (.cons (.ext 1 (.var 3))
    .nil) (.cons (.ifs (.not (.val (.call "is_number" (.cons (.var 3) .nil)))) (.cons (.ret (.lit (.bl false)))
    .nil) .nil)
    .nil))
    .nil)))
theorem last_of {W : List D} (h : W ≠ []) : ∃ W' p, W = W' ++ [p] := ⟨W.dropLast, W.getLast h, (List.dropLast_concat_getLast h).symm⟩
theorem leaf_of {d : D} (h : Tr d) : Leaf d ∨ ∃ xs, d = .tup xs ∧ ∀ x ∈ xs, Tr x := by
  cases h with
  | leaf h => exact .inl h
  | tup h => exact .inr ⟨_, rfl, h⟩
theorem leaf_wt {d : D} (h : Leaf d) : wt d = 1 ∧ gd d = isNum d ∧ dep d = 0 := by cases h <;> simp [wt, gd, dep]
theorem bV_tup {T : Tb} {t : D} {W xs : List D} {k : Int} {x : Option (Bool × D)} (hz : W.length + xs.length ≤ sizeLine) :
    exs T wf bV [some (false, t), some (true, .lst (W ++ [.tup xs])), some (false, .int k), x] = .nx [some (false, t), some (true, .lst (W ++ xs)), some (false, .int (k + 1)), some (false, .tup xs)] := by
  simp [runD, entE, exs, ex, evT, ev, evs, evo, evc, evi, bor, getO, getF, sndR, intR, Res.bind, onR, Fl.seq, fz, usT, us, ub, uss, uso, usc, usi, isiD, okB, D.tru, negD, cmpD, opD, idxD, slcD, biD, okF, endR, setE, bindT, itemsD, bV, iopD, hz]
theorem bV_leaf {T : Tb} {t d : D} {W : List D} {k : Int} {x : Option (Bool × D)} (hl : Leaf d) (hT : T.fn "is_number" [d] = .ok (false, .bl (isNum d))) :
    exs T wf bV [some (false, t), some (true, .lst (W ++ [d])), some (false, .int k), x] = if isNum d = true then .nx [some (false, t), some (true, .lst W), some (false, .int (k + 1)), some (false, d)] else .rt false (.bl false) := by
  cases hl with
  | int i => cases hb : isNum (.int i) <;> simp [runD, entE, exs, ex, evT, ev, evs, evo, evc, evi, bor, getO, getF, sndR, intR, Res.bind, onR, Fl.seq, fz, usT, us, ub, uss, uso, usc, usi, isiD, okB, D.tru, negD, cmpD, opD, idxD, slcD, biD, okF, endR, setE, bindT, itemsD, bV, iopD, hT, hb]
  | _ => simp [runD, entE, exs, ex, evT, ev, evs, evo, evc, evi, bor, getO, getF, sndR, intR, Res.bind, onR, Fl.seq, fz, usT, us, ub, uss, uso, usc, usi, isiD, okB, D.tru, negD, cmpD, opD, idxD, slcD, biD, okF, endR, setE, bindT, itemsD, bV, iopD, hT, isNum]
theorem cV_ok {T : Tb} {t : D} {W : List D} {k : Int} {x : Option (Bool × D)} (hg : T.gl "MOST_WEIGHT" = some (.int 50)) : evT T cV [some (false, t), some (true, .lst W), some (false, .int k), x] = .ok (!W.isEmpty && decide (k ≤ 50)) := by
  cases W <;> simp [runD, entE, exs, ex, evT, ev, evs, evo, evc, evi, bor, getO, getF, sndR, intR, Res.bind, onR, Fl.seq, fz, usT, us, ub, uss, uso, usc, usi, isiD, okB, D.tru, negD, cmpD, opD, idxD, slcD, biD, okF, endR, setE, bindT, itemsD, cV, hg]
theorem fzV (ρ : En) : fz (usT cV) ρ = ρ := rfl
/-- the loop of is_value -/
theorem loopV {T : Tb} (hg : T.gl "MOST_WEIGHT" = some (.int 50)) (hT : ∀ d, Leaf d → T.fn "is_number" [d] = .ok (false, .bl (isNum d))) (t : D) : ∀ (m : Nat) (W : List D) (k : Nat) (x : Option (Bool × D)), (∀ d ∈ W, Tr d) → wts W ≤ 1000000 → k ≤ 51 → 52 ≤ m + k →
    endR ((whN (evT T cV) (fz (usT cV)) (exs T wf bV) m [some (false, t), some (true, .lst W), some (false, .int k), x]).seq (exs T wf (.cons (.ret (.cmp .LtE (.var 2) (.gl "MOST_WEIGHT"))) .nil))) = .ok (false, .bl (gds W && decide (k + wts W ≤ 50)))
  | 0, W, k, x, _, _, h1, h2 => by omega
  | m + 1, W, k, x, hW, hz, h1, h2 => by
    rw [whN]
    simp only [fzV]
    rw [cV_ok hg]
    by_cases hk : (k : Int) ≤ 50
    · by_cases hn : W = []
      · subst hn
        have hk' : k ≤ 50 := by omega
        simp [runD, entE, exs, ex, evT, ev, evs, evo, evc, evi, bor, getO, getF, sndR, intR, Res.bind, onR, Fl.seq, fz, usT, us, ub, uss, uso, usc, usi, isiD, okB, D.tru, negD, cmpD, opD, idxD, slcD, biD, okF, endR, setE, bindT, itemsD, hg, gds, wts, hk, hk']
      · obtain ⟨W', p, rfl⟩ := last_of hn
        have hc : (!(W' ++ [p]).isEmpty && decide ((k : Int) ≤ 50)) = true := by simp [hk]
        have hp : Tr p := hW p (by simp)
        have hW' : ∀ d ∈ W', Tr d := fun d hd => hW d (by simp [hd])
        have ew : wts (W' ++ [p]) = wts W' + wt p := by rw [wts_app]; simp [wts]
        rw [hc]
        simp only [onR, if_true]
        rcases leaf_of hp with hl | ⟨xs, rfl, hx⟩
        · obtain ⟨w1, w2, _⟩ := leaf_wt hl
          rw [bV_leaf hl (hT p hl)]
          cases hb : isNum p with
          | true =>
            have ih := loopV hg hT t m W' (k + 1) (some (false, p)) hW' (by omega) (by omega) (by omega)
            simp only [if_true]
            have e1 : ((k : Int) + 1) = ((k + 1 : Nat) : Int) := by omega
            have e4 : (k + 1 + wts W' ≤ 50) = (k + (wts W' + wt p) ≤ 50) := by rw [w1]; apply propext; omega
            rw [e1, ih, gds_app, ew]
            simp only [e4]
            simp [gds, w2, hb]
          | false =>
            simp [runD, entE, exs, ex, evT, ev, evs, evo, evc, evi, bor, getO, getF, sndR, intR, Res.bind, onR, Fl.seq, fz, usT, us, ub, uss, uso, usc, usi, isiD, okB, D.tru, negD, cmpD, opD, idxD, slcD, biD, okF, endR, setE, bindT, itemsD, gds_app, gds, w2, hb]
        · have e2 : wt (.tup xs) = 1 + wts xs := by simp [wt]
          have l1 := wts_len W'
          have l2 := wts_len xs
          have hsz : W'.length + xs.length ≤ sizeLine := by rw [sizeLine_eq]; omega
          rw [bV_tup hsz]
          have ih := loopV hg hT t m (W' ++ xs) (k + 1) (some (false, .tup xs)) (fun d hd => (List.mem_append.mp hd).elim (hW' d) (hx d)) (by rw [wts_app]; omega) (by omega) (by omega)
          have e1 : ((k : Int) + 1) = ((k + 1 : Nat) : Int) := by omega
          simp only []
          rw [e1, ih, gds_app, gds_app, wts_app, ew]
          have e3 : gds [D.tup xs] = gds xs := by simp [gds, gd]
          have e4 : (k + 1 + (wts W' + wts xs) ≤ 50) = (k + (wts W' + wt (.tup xs)) ≤ 50) := by rw [e2]; apply propext; omega
          rw [e3]
          simp only [e4]
    · have hc : (!W.isEmpty && decide ((k : Int) ≤ 50)) = false := by simp [hk]
      rw [hc]
      have e5 : (decide (k + wts W ≤ 50)) = false := decide_eq_false (by omega)
      have e6 : decide ((k : Int) ≤ 50) = false := decide_eq_false hk
      rw [e5]
      simp [runD, entE, exs, ex, evT, ev, evs, evo, evc, evi, bor, getO, getF, sndR, intR, Res.bind, onR, Fl.seq, fz, usT, us, ub, uss, uso, usc, usi, isiD, okB, D.tru, negD, cmpD, opD, idxD, slcD, biD, okF, endR, setE, bindT, itemsD, hg, e6]
theorem v_value {n : Nat} {d : D} (h : Tr d) (hw : wt d ≤ 1000000) : callN gl wf fs (n + 2) "is_value" [d] = .ok (false, .bl (gd d && decide (wt d ≤ 50))) := by
  rw [cN l_is_value]
  have L := loopV (T := ⟨callN gl wf fs (n + 1), gl⟩) g_M (fun d hd => v_num hd) d wf [d] 0 none (fun x hx => by simp at hx; subst hx; exact h) (by simpa [wts] using hw) (by omega) (by decide)
  have e : runD ⟨callN gl wf fs (n + 1), gl⟩ wf f_is_value [d] = endR ((whN (evT ⟨callN gl wf fs (n + 1), gl⟩ cV) (fz (usT cV)) (exs ⟨callN gl wf fs (n + 1), gl⟩ wf bV) wf [some (false, d), some (true, .lst [d]), some (false, .int (0 : Nat)), none]).seq (exs ⟨callN gl wf fs (n + 1), gl⟩ wf (.cons (.ret (.cmp .LtE (.var 2) (.gl "MOST_WEIGHT"))) .nil))) := by
    rfl
  rw [e, L]
  simp [gds, wts]
/-! ### the weight -/
def bW : Sts := (.cons (.pop (.one 3) 1)
    (.cons (.aug 2 .Add (.lit (.int 1)))
    (.cons (.ifs (.val (.isi (.var 3) .tuple)) (.cons (.ext 1 (.var 3))
    .nil) .nil)
    .nil)))
theorem bW_tup {T : Tb} {t : D} {W xs : List D} {k : Int} {x : Option (Bool × D)} (hz : W.length + xs.length ≤ sizeLine) :
    exs T wf bW [some (false, t), some (true, .lst (W ++ [.tup xs])), some (false, .int k), x] = .nx [some (false, t), some (true, .lst (W ++ xs)), some (false, .int (k + 1)), some (false, .tup xs)] := by
  simp [runD, entE, exs, ex, evT, ev, evs, evo, evc, evi, bor, getO, getF, sndR, intR, Res.bind, onR, Fl.seq, fz, usT, us, ub, uss, uso, usc, usi, isiD, okB, D.tru, negD, cmpD, opD, idxD, slcD, biD, okF, endR, setE, bindT, itemsD, bW, iopD, hz]
theorem bW_leaf {T : Tb} {t d : D} {W : List D} {k : Int} {x : Option (Bool × D)} (hl : Leaf d) :
    exs T wf bW [some (false, t), some (true, .lst (W ++ [d])), some (false, .int k), x] = .nx [some (false, t), some (true, .lst W), some (false, .int (k + 1)), some (false, d)] := by
  cases hl <;> simp [runD, entE, exs, ex, evT, ev, evs, evo, evc, evi, bor, getO, getF, sndR, intR, Res.bind, onR, Fl.seq, fz, usT, us, ub, uss, uso, usc, usi, isiD, okB, D.tru, negD, cmpD, opD, idxD, slcD, biD, okF, endR, setE, bindT, itemsD, bW, iopD]
theorem loopW {T : Tb} (t : D) : ∀ (m : Nat) (W : List D) (k : Nat) (x : Option (Bool × D)), (∀ d ∈ W, Tr d) → wts W < m → wts W ≤ 1000000 →
    endR ((whN (evT T (.val (.var 1))) (fz (usT (.val (.var 1)))) (exs T wf bW) m [some (false, t), some (true, .lst W), some (false, .int k), x]).seq (exs T wf (.cons (.ret (.var 2)) .nil))) = .ok (false, .int ((k + wts W : Nat) : Int))
  | 0, W, k, x, _, h1, _ => by omega
  | m + 1, W, k, x, hW, h1, hz => by
    rw [whN]
    have fz1 : ∀ ρ, fz (usT (.val (.var 1))) ρ = ρ := fun _ => rfl
    simp only [fz1]
    by_cases hn : W = []
    · subst hn
      simp [runD, entE, exs, ex, evT, ev, evs, evo, evc, evi, bor, getO, getF, sndR, intR, Res.bind, onR, Fl.seq, fz, usT, us, ub, uss, uso, usc, usi, isiD, okB, D.tru, negD, cmpD, opD, idxD, slcD, biD, okF, endR, setE, bindT, itemsD, wts]
    · obtain ⟨W', p, rfl⟩ := last_of hn
      have hc : evT T (.val (.var 1)) [some (false, t), some (true, .lst (W' ++ [p])), some (false, .int k), x] = .ok true := by simp [runD, entE, exs, ex, evT, ev, evs, evo, evc, evi, bor, getO, getF, sndR, intR, Res.bind, onR, Fl.seq, fz, usT, us, ub, uss, uso, usc, usi, isiD, okB, D.tru, negD, cmpD, opD, idxD, slcD, biD, okF, endR, setE, bindT, itemsD]
      have hp : Tr p := hW p (by simp)
      have hW' : ∀ d ∈ W', Tr d := fun d hd => hW d (by simp [hd])
      have ew : wts (W' ++ [p]) = wts W' + wt p := by rw [wts_app]; simp [wts]
      have wp := wt_pos p
      rw [hc]
      simp only [onR, if_true]
      have e1 : ((k : Int) + 1) = ((k + 1 : Nat) : Int) := by omega
      rcases leaf_of hp with hl | ⟨xs, rfl, hx⟩
      · obtain ⟨w1, w2, _⟩ := leaf_wt hl
        rw [bW_leaf hl]
        have ih := loopW (T := T) t m W' (k + 1) (some (false, p)) hW' (by omega) (by omega)
        simp only []
        rw [e1, ih, ew, w1]
        congr 4
        omega
      · have e2 : wt (.tup xs) = 1 + wts xs := by simp [wt]
        have l1 := wts_len W'
        have l2 := wts_len xs
        have hsz : W'.length + xs.length ≤ sizeLine := by rw [sizeLine_eq]; omega
        rw [bW_tup hsz]
        have ih := loopW (T := T) t m (W' ++ xs) (k + 1) (some (false, .tup xs)) (fun d hd => (List.mem_append.mp hd).elim (hW' d) (hx d)) (by rw [wts_app]; omega) (by rw [wts_app]; omega)
        simp only []
        rw [e1, ih, wts_app, ew, e2]
        congr 4
        omega
theorem v_weight {n : Nat} {d : D} (h : Tr d) (hw : wt d ≤ 100000) : callN gl wf fs (n + 1) "weight" [d] = .ok (false, .int (wt d)) := by
  rw [cN l_weight]
  have L := loopW (T := ⟨callN gl wf fs n, gl⟩) d wf [d] 0 none (fun x hx => by simp at hx; subst hx; exact h) (by simp only [wts]; show _ < 1000000; omega) (by simp only [wts]; omega)
  have e : runD ⟨callN gl wf fs n, gl⟩ wf f_weight [d] = endR ((whN (evT ⟨callN gl wf fs n, gl⟩ (.val (.var 1))) (fz (usT (.val (.var 1)))) (exs ⟨callN gl wf fs n, gl⟩ wf bW) wf [some (false, d), some (true, .lst [d]), some (false, .int (0 : Nat)), none]).seq (exs ⟨callN gl wf fs n, gl⟩ wf (.cons (.ret (.var 2)) .nil))) := by
    rfl
  rw [e, L]
  simp [wts]
/-! ### the law's own reckoning -/
theorem deps_le {xs : List D} {d : D} (h : d ∈ xs) : dep d ≤ deps xs := by
  induction xs with
  | nil => cases h
  | cons x r ih =>
    simp only [deps]
    rcases List.mem_cons.mp h with e | h
    · subst e; omega
    · have := ih h; omega
theorem compL_fm {f : D → Res (Option D)} {g : D → Option D} : ∀ {xs : List D}, (∀ d ∈ xs, f d = .ok (g d)) → compL f xs = .ok (xs.filterMap g)
  | [], _ => rfl
  | d :: xs, h => by
    rw [compL, h d List.mem_cons_self, compL_fm (xs := xs) fun d hd => h d (List.mem_cons_of_mem _ hd)]
    cases e : g d <;> simp [Res.bind, e]
theorem compL_map {f : D → Res (Option D)} {g : D → D} {xs : List D} (h : ∀ d ∈ xs, f d = .ok (some (g d))) : compL f xs = .ok (xs.map g) := by
  rw [compL_fm (g := fun d => some (g d)) h]
  simp
theorem ints_map (xs : List D) : intsOf (xs.map fun d => D.int (wt d)) = some (xs.map fun d => (wt d : Int)) := by
  induction xs with
  | nil => rfl
  | cons d r ih => simp [intsOf, ih]
theorem sum_wt (xs : List D) : (xs.map fun d => (wt d : Int)).sum = (wts xs : Int) := by
  induction xs with
  | nil => rfl
  | cons d r ih => simp only [List.map_cons, List.sum_cons, ih, wts]; omega
theorem v_lweight : ∀ (n : Nat) (d : D), Tr d → dep d < n → wt d ≤ 1000000 → callN gl wf fs n "_law_weight" [d] = .ok (false, .int (wt d))
  | 0, d, _, h, _ => by omega
  | n + 1, d, ht, h, hw => by
    rw [cN l_lweight]
    rcases leaf_of ht with hl | ⟨xs, rfl, hx⟩
    · cases hl <;> simp [runD, entE, exs, ex, evT, ev, evs, evo, evc, evi, bor, getO, getF, sndR, intR, Res.bind, onR, Fl.seq, fz, usT, us, ub, uss, uso, usc, usi, isiD, okB, D.tru, negD, cmpD, opD, idxD, slcD, biD, okF, endR, setE, bindT, itemsD, f__law_weight, c__law_weight, wt]
    · have e2 : wt (.tup xs) = 1 + wts xs := by simp [wt]
      have e3 : dep (.tup xs) = 1 + deps xs := by simp [dep]
      have hi : ∀ d ∈ xs, callN gl wf fs n "_law_weight" [d] = .ok (false, .int (wt d)) := fun d hd => by
        have hw2 : wt d ≤ wts xs := by
          clear hx ht hw e2 e3 h
          induction xs with
          | nil => cases hd
          | cons x r ih =>
            simp only [wts]
            rcases List.mem_cons.mp hd with e | hd
            · subst e; omega
            · have := ih hd; omega
        exact v_lweight n d (hx d hd) (by have := deps_le hd; omega) (by omega)
      have l2 := wts_len xs
      have hsz : xs.length ≤ sizeLine := by rw [sizeLine_eq]; omega
      simp only [runD, f__law_weight, c__law_weight, exs, ex, ev, evi]
      have hb : ∀ T : Tb, evT T (.val (.isi (.var 0) .tuple)) [some (false, .tup xs), none] = .ok true := fun T => by simp [runD, entE, exs, ex, evT, ev, evs, evo, evc, evi, bor, getO, getF, sndR, intR, Res.bind, onR, Fl.seq, fz, usT, us, ub, uss, uso, usc, usi, isiD, okB, D.tru, negD, cmpD, opD, idxD, slcD, biD, okF, endR, setE, bindT, itemsD]
      simp [runD, entE, exs, ex, evT, ev, evs, evo, evc, evi, bor, getO, getF, sndR, intR, Res.bind, onR, Fl.seq, fz, usT, us, ub, uss, uso, usc, usi, isiD, okB, D.tru, negD, cmpD, opD, idxD, slcD, biD, okF, endR, setE, bindT, itemsD, hb, hsz]
      rw [compL_map (g := fun d => .int (wt d)) (fun d hd => by simp [runD, entE, exs, ex, evT, ev, evs, evo, evc, evi, bor, getO, getF, sndR, intR, Res.bind, onR, Fl.seq, fz, usT, us, ub, uss, uso, usc, usi, isiD, okB, D.tru, negD, cmpD, opD, idxD, slcD, biD, okF, endR, setE, bindT, itemsD, wipeE, noX, hi d hd])]
      simp [runD, entE, exs, ex, evT, ev, evs, evo, evc, evi, bor, getO, getF, sndR, intR, Res.bind, onR, Fl.seq, fz, usT, us, ub, uss, uso, usc, usi, isiD, okB, D.tru, negD, cmpD, opD, idxD, slcD, biD, okF, endR, setE, bindT, itemsD, ints_map, sum_wt, e2]
/-! ### == -/
theorem eq_int (i j : Int) : D.eqD (.int i) (.int j) = .ok (decide (i = j)) := by
  simp [D.eqD, D.pl, D.toP, PyData.canLay0, PyData.depth, PyData.eqv]
  by_cases h : i = j <;> simp [h]
theorem eq_bl (i j : Bool) : D.eqD (.bl i) (.bl j) = .ok (decide (i = j)) := by
  cases i <;> cases j <;> simp [D.eqD, D.pl, D.toP, PyData.canLay0, PyData.depth, PyData.eqv]
mutual
theorem tr_pl : ∀ {d : D}, Tr d → d.pl = true ∧ d.toP.canLay0 = true
  | _, .leaf h => by cases h <;> simp [D.pl, D.toP, PyData.canLay0, *]
  | .tup xs, .tup h => by
    have := trs_pl (xs := xs) h
    simpa [D.pl, D.toP, PyData.canLay0] using this
theorem trs_pl : ∀ {xs : List D}, (∀ d ∈ xs, Tr d) → D.pls xs = true ∧ PyData.canLayAll0 (D.toPs xs) = true
  | [], _ => by simp [D.pls, D.toPs, PyData.canLayAll0]
  | d :: r, h => by
    have h1 := tr_pl (h d (by simp))
    have h2 := trs_pl (xs := r) (fun x hx => h x (by simp [hx]))
    simp [D.pls, D.toPs, PyData.canLayAll0, h1, h2]
end
theorem eq_nil {xs : List D} (h : ∀ d ∈ xs, Tr d) : D.eqD (.lst xs) (.lst []) = .ok xs.isEmpty := by
  obtain ⟨h1, h2⟩ := trs_pl h
  cases xs with
  | nil => simp [D.eqD, D.pl, D.pls, D.toP, D.toPs, PyData.canLay0, PyData.canLayAll0, PyData.depth, PyData.depthAll, PyData.eqv, PyData.eqvAll]
  | cons d r => 
    simp only [D.toPs] at h2
    simp [D.eqD, D.pl, D.pls, D.toP, D.toPs, PyData.canLay0, PyData.canLayAll0, PyData.depth, PyData.depthAll, PyData.eqv, PyData.eqvAll, h2]
    have h1' : d.pl = true ∧ D.pls r = true := by simpa [D.pls] using h1
    simpa [D.pls, PyData.canLayAll0, h1'] using h2
theorem v_good : ∀ (n : Nat) (d : D), Tr d → dep d < n → wt d ≤ 1000000 → callN gl wf fs n "_law_good" [d] = .ok (false, .bl (gd d))
  | 0, d, _, h, _ => by omega
  | n + 1, d, ht, h, hw => by
    rw [cN l_good]
    rcases leaf_of ht with hl | ⟨xs, rfl, hx⟩
    · cases hl with
      | int i =>
        by_cases h1 : -1000000000000000000 < i <;>
        simp [runD, entE, exs, ex, evT, ev, evs, evo, evc, evi, bor, getO, getF, sndR, intR, Res.bind, onR, Fl.seq, fz, usT, us, ub, uss, uso, usc, usi, isiD, okB, D.tru, negD, cmpD, opD, idxD, slcD, biD, okF, endR, setE, bindT, itemsD, f__law_good, c__law_good, gd, isNum, h1]
      | _ => simp [runD, entE, exs, ex, evT, ev, evs, evo, evc, evi, bor, getO, getF, sndR, intR, Res.bind, onR, Fl.seq, fz, usT, us, ub, uss, uso, usc, usi, isiD, okB, D.tru, negD, cmpD, opD, idxD, slcD, biD, okF, endR, setE, bindT, itemsD, f__law_good, c__law_good, gd, isNum]
    · have e2 : wt (.tup xs) = 1 + wts xs := by simp [wt]
      have e3 : dep (.tup xs) = 1 + deps xs := by simp [dep]
      have hi : ∀ d ∈ xs, callN gl wf fs n "_law_good" [d] = .ok (false, .bl (gd d)) := fun d hd => by
        have hw2 : wt d ≤ wts xs := by
          clear hx ht hw e2 e3 h
          induction xs with
          | nil => cases hd
          | cons x r ih =>
            simp only [wts]
            rcases List.mem_cons.mp hd with e | hd
            · subst e; omega
            · have := ih hd; omega
        exact v_good n d (hx d hd) (by have := deps_le hd; omega) (by omega)
      have l2 := wts_len xs
      have hsz : xs.length ≤ sizeLine := by rw [sizeLine_eq]; omega
      simp only [runD, f__law_good, c__law_good, exs, ex, ev, evi]
      have hb : ∀ T : Tb, evT T (.val (.isi (.var 0) .tuple)) [some (false, .tup xs), none] = .ok true := fun T => by simp [runD, entE, exs, ex, evT, ev, evs, evo, evc, evi, bor, getO, getF, sndR, intR, Res.bind, onR, Fl.seq, fz, usT, us, ub, uss, uso, usc, usi, isiD, okB, D.tru, negD, cmpD, opD, idxD, slcD, biD, okF, endR, setE, bindT, itemsD]
      simp [runD, entE, exs, ex, evT, ev, evs, evo, evc, evi, bor, getO, getF, sndR, intR, Res.bind, onR, Fl.seq, fz, usT, us, ub, uss, uso, usc, usi, isiD, okB, D.tru, negD, cmpD, opD, idxD, slcD, biD, okF, endR, setE, bindT, itemsD, hb, hsz]
      rw [compL_fm (g := fun d => if gd d = true then none else some d) (fun d hd => by cases hgd : gd d <;> simp [runD, entE, exs, ex, evT, ev, evs, evo, evc, evi, bor, getO, getF, sndR, intR, Res.bind, onR, Fl.seq, fz, usT, us, ub, uss, uso, usc, usi, isiD, okB, D.tru, negD, cmpD, opD, idxD, slcD, biD, okF, endR, setE, bindT, itemsD, wipeE, noX, hi d hd, hgd])]
      have key : ∀ xs : List D, decide ((xs.filterMap fun d => if gd d = true then none else some d).length = 0) = gds xs := by
        intro xs
        induction xs with
        | nil => rfl
        | cons d r ih => cases hgd : gd d <;> simp [gds, hgd]; simpa using ih
      simp [runD, entE, exs, ex, evT, ev, evs, evo, evc, evi, bor, getO, getF, sndR, intR, Res.bind, onR, Fl.seq, fz, usT, us, ub, uss, uso, usc, usi, isiD, okB, D.tru, negD, cmpD, opD, idxD, slcD, biD, okF, endR, setE, bindT, itemsD, eq_int, gd]
      simpa using key xs

theorem lg (n : Nat) (h : n ≤ 1000 := by decide) : Nat.log2 n < 9000 := by
  have : Nat.log2 n ≤ n := Nat.log2_le_self n
  omega
theorem ix0 (n : Nat) : ixN (n + 1) 0 = some 0 := by
  simp [ixN]
theorem v_cell {n : Nat} (ns : List Int) : ∃ c, callN gl wf fs (n + 1) "_law_cell_at" [.lst (ns.map D.int), .int 0] = .ok (false, .int c) := by
  rw [cN l_cell_at]
  cases ns with
  | nil => exact ⟨0, by simp [runD, entE, exs, ex, evT, ev, evs, evo, evc, evi, bor, getO, getF, sndR, intR, Res.bind, onR, Fl.seq, fz, usT, us, ub, uss, uso, usc, usi, isiD, okB, D.tru, negD, cmpD, opD, idxD, slcD, biD, okF, endR, setE, bindT, itemsD, f__law_cell_at, c__law_cell_at]⟩
  | cons a r => exact ⟨a, by simp [runD, entE, exs, ex, evT, ev, evs, evo, evc, evi, bor, getO, getF, sndR, intR, Res.bind, onR, Fl.seq, fz, usT, us, ub, uss, uso, usc, usi, isiD, okB, D.tru, negD, cmpD, opD, idxD, slcD, biD, okF, endR, setE, bindT, itemsD, f__law_cell_at, c__law_cell_at, atI, ix0]⟩
theorem str7 : PyData.strOk ("7" : Str) = true := by decide +kernel
def lf : List D := [.int 0, .int 1, .int (-1), .int 999999999999999999, .int (-999999999999999999), .int 1000000000000000000, .int (-1000000000000000000), .bl true, .bl false, .non, .str "7", .int 1000000000000000000000000000000]
theorem lf_leaf : ∀ d ∈ lf, Leaf d := by
  intro d h
  simp only [lf, List.mem_cons, List.not_mem_nil, or_false] at h
  rcases h with rfl | rfl | rfl | rfl | rfl | rfl | rfl | rfl | rfl | rfl | rfl | rfl <;> first | exact .int _ | exact .bl _ | exact .non | exact .str _ str7
theorem v_leaf {n : Nat} (c : Int) : ∃ d, Leaf d ∧ callN gl wf fs (n + 1) "_law_leaf" [.int c] = .ok (false, d) := by
  rw [cN l_leaf]
  have zz : 12 ≤ sizeLine := by rw [sizeLine_eq]; decide
  by_cases h : 0 < c % 4
  · exact ⟨_, .int (c / 4 % 1000 - 500), by simp [runD, entE, exs, ex, evT, ev, evs, evo, evc, evi, bor, getO, getF, sndR, intR, Res.bind, onR, Fl.seq, fz, usT, us, ub, uss, uso, usc, usi, isiD, okB, D.tru, negD, cmpD, opD, idxD, slcD, biD, okF, endR, setE, bindT, itemsD, f__law_leaf, c__law_leaf, h, zz, lg 4]⟩
  · have h1 : 0 ≤ c / 4 % 12 := by omega
    have h2 : c / 4 % 12 < 12 := by omega
    obtain ⟨k, hk⟩ : ∃ k : Nat, c / 4 % 12 = k := ⟨(c / 4 % 12).toNat, by omega⟩
    have hk2 : k < lf.length := by show k < 12; omega
    have e : atI lf (c / 4 % 12) = some lf[k] := by
      have : ixN lf.length (c / 4 % 12) = some k := by
        rw [hk]
        simp only [ixN]
        have : (k : Int) < (lf.length : Int) := by omega
        simp [this]
      simp [atI, this]
    refine ⟨lf[k], lf_leaf _ (List.getElem_mem _), ?_⟩
    have e' := e
    simp only [lf] at e'
    simp [runD, entE, exs, ex, evT, ev, evs, evo, evc, evi, bor, getO, getF, sndR, intR, Res.bind, onR, Fl.seq, fz, usT, us, ub, uss, uso, usc, usi, isiD, okB, D.tru, negD, cmpD, opD, idxD, slcD, biD, okF, endR, setE, bindT, itemsD, f__law_leaf, c__law_leaf, h, zz, lg 4]
    rw [e']
    rfl
/-! ### the thing -/
/-- a pile of i turns -/
structure Pile (i : Nat) (P : List D) : Prop where
  t : ∀ d ∈ P, Tr d
  e : deps P ≤ i
  w : wts P ≤ 5 * i
theorem cut_lo (P : List D) (m : Nat) (h : m ≤ P.length) : Hf.cutD P none (some (m : Int)) = P.take m := by
  simp [Hf.cutD, HT.sIx_nat, HT.sIx_none, Nat.min_eq_left h]
theorem cut_hi (P : List D) (m : Nat) (h : m ≤ P.length) : Hf.cutD P (some (m : Int)) none = P.drop m := by
  simp only [Hf.cutD, HT.sIx_nat, HT.sIx_none, Nat.min_eq_left h]
  exact List.take_of_length_le (by rw [List.length_drop]; omega)
theorem Pile.leaf {i : Nat} {P : List D} (h : Pile i P) {d : D} (l : Leaf d) : Pile (i + 1) (P ++ [d]) := by
  obtain ⟨w1, w2, w3⟩ := leaf_wt l
  obtain ⟨a, b, c⟩ := h
  refine ⟨fun x hx => ?_, ?_, ?_⟩
  · rcases List.mem_append.mp hx with hx | hx
    · exact a x hx
    · simp at hx; subst hx; exact .leaf l
  · rw [deps_app]; simp only [deps, w3]; omega
  · rw [wts_app]; simp only [wts, w1]; omega
theorem Pile.cut {i : Nat} {P : List D} (h : Pile i P) (m : Nat) : Pile (i + 1) (P.take m ++ [.tup (P.drop m)]) := by
  obtain ⟨a, b, c⟩ := h
  have e1 : deps P = max (deps (P.take m)) (deps (P.drop m)) := by rw [← deps_app, List.take_append_drop]
  have e2 : wts P = wts (P.take m) + wts (P.drop m) := by rw [← wts_app, List.take_append_drop]
  refine ⟨fun x hx => ?_, ?_, ?_⟩
  · rcases List.mem_append.mp hx with hx | hx
    · exact a x (List.mem_of_mem_take hx)
    · simp at hx; subst hx; exact .tup fun d hd => a d (List.mem_of_mem_drop hd)
  · rw [deps_app]; simp only [deps, dep]; omega
  · rw [wts_app]; simp only [wts, wt]; omega
theorem wts_rep (k : Nat) (r : Int) : wts (List.replicate k (D.int r)) = k := by
  induction k with
  | zero => rfl
  | succ k ih => rw [List.replicate_succ]; simp only [wts, wt, ih]; omega
theorem deps_rep (k : Nat) (r : Int) : deps (List.replicate k (D.int r)) = 0 := by
  induction k with
  | zero => rfl
  | succ k ih => rw [List.replicate_succ]; simp only [deps, dep, ih]; omega
theorem flat_rep (k : Nat) (r : Int) : (List.replicate k [D.int r]).flatten = List.replicate k (D.int r) := by
  induction k with
  | zero => rfl
  | succ k ih => simp [List.replicate_succ, ih]
theorem Pile.rep {i : Nat} {P : List D} (h : Pile i P) (k : Nat) (hk : k ≤ 4) (r : Int) : Pile (i + 1) (P ++ [.tup (List.replicate k (.int r))]) := by
  obtain ⟨a, b, c⟩ := h
  refine ⟨fun x hx => ?_, ?_, ?_⟩
  · rcases List.mem_append.mp hx with hx | hx
    · exact a x hx
    · simp at hx; subst hx; exact .tup fun d hd => by have := (List.mem_replicate.mp hd).2; subst this; exact .leaf (.int _)
  · rw [deps_app]; simp only [deps, dep, deps_rep]; omega
  · rw [wts_app]; simp only [wts, wt, wts_rep]; omega
def bT : Sts := (.cons (.ifs (.val (.cmp .Lt (.bin .Mod (.var 2) (.lit (.int 5))) (.lit (.int 3)))) (.cons (.app 1 (.call "_law_leaf" (.cons (.bin .Add (.bin .Mult (.bin .FloorDiv (.var 2) (.lit (.int 5))) (.lit (.int 4))) (.lit (.int 1))) .nil)))
    .nil) (.cons (.ifs (.val (.cmp .Eq (.bin .Mod (.var 2) (.lit (.int 5))) (.lit (.int 3)))) (.cons (.set 4 (.bin .Mod (.bin .FloorDiv (.var 2) (.lit (.int 5))) (.bin .Add (.lit (.int 1)) (.bi .len (.var 1)))))
    (.cons (.set 1 (.bin .Add (.slc (.var 1) .none (.some (.bin .Sub (.bi .len (.var 1)) (.var 4)))) (.lst (.cons (.bi .tuple (.slc (.var 1) (.some (.bin .Sub (.bi .len (.var 1)) (.var 4))) .none)) .nil))))
    .nil)) (.cons (.app 1 (.bi .tuple (.bin .Mult (.lst (.cons (.bin .Mod (.bin .FloorDiv (.var 2) (.lit (.int 5))) (.lit (.int 7))) .nil)) (.bin .Mod (.bin .FloorDiv (.var 2) (.lit (.int 35))) (.lit (.int 5))))))
    .nil))
    .nil))
    .nil)
theorem bT_ok {T : Tb} (hT : ∀ c, ∃ d, Leaf d ∧ T.fn "_law_leaf" [.int c] = .ok (false, d)) {s : D} {P : List D} {c : Int} {x3 x4 : Option (Bool × D)} {i : Nat} (h : Pile i P) (hi : i ≤ 63) :
    ∃ P' x4', Pile (i + 1) P' ∧ exs T wf bT [some (false, s), some (true, .lst P), some (false, .int c), x3, x4] = .nx [some (false, s), some (true, .lst P'), some (false, .int c), x3, x4'] := by
  have hl := wts_len P
  have hw := h.w
  have hz : P.length < sizeLine := by rw [sizeLine_eq]; omega
  by_cases h1 : c % 5 < 3
  · obtain ⟨d, hd, e⟩ := hT (c / 5 * 4 + 1)
    exact ⟨P ++ [d], x4, h.leaf hd, by simp [runD, entE, exs, ex, evT, ev, evs, evo, evc, evi, bor, getO, getF, sndR, intR, Res.bind, onR, Fl.seq, fz, usT, us, ub, uss, uso, usc, usi, isiD, okB, D.tru, negD, cmpD, opD, idxD, slcD, biD, okF, endR, setE, bindT, itemsD, bT, lg 5, h1, Hf.MulOk, e, hz]⟩
  · have o1 : 1 ≤ sizeLine := by rw [sizeLine_eq]; omega
    by_cases h2 : c % 5 = 3
    · obtain ⟨k, hk⟩ : ∃ k : Nat, c / 5 % (1 + (P.length : Int)) = k := ⟨(c / 5 % (1 + (P.length : Int))).toNat, by have := Int.emod_nonneg (c / 5) (b := 1 + (P.length : Int)) (by omega); omega⟩
      have hk2 : k ≤ P.length := by have := Int.emod_lt_of_pos (c / 5) (b := 1 + (P.length : Int)) (by omega); omega
      obtain ⟨m, hm⟩ : ∃ m : Nat, (P.length : Int) - (k : Int) = m := ⟨P.length - k, by omega⟩
      have hm2 : m ≤ P.length := by omega
      have p1 : (0 : Int) < 1 + (P.length : Int) := by omega
      have z2 : min m P.length + 1 ≤ sizeLine := by rw [sizeLine_eq]; omega
      refine ⟨_, some (false, .int k), h.cut m, ?_⟩
      simp [runD, entE, exs, ex, evT, ev, evs, evo, evc, evi, bor, getO, getF, sndR, intR, Res.bind, onR, Fl.seq, fz, usT, us, ub, uss, uso, usc, usi, isiD, okB, D.tru, negD, cmpD, opD, idxD, slcD, biD, okF, endR, setE, bindT, itemsD, bT, lg 5, h1, h2, hk, hm, p1, cut_lo P m hm2, cut_hi P m hm2, eq_int, o1, z2]
    · obtain ⟨k, hk⟩ : ∃ k : Nat, c / 35 % 5 = k := ⟨(c / 35 % 5).toNat, by omega⟩
      have hk2 : k ≤ 4 := by omega
      have zk : k ≤ sizeLine := by rw [sizeLine_eq]; omega
      have k1 : (k : Int) < 9223372036854775808 := by omega
      have k2 : -9223372036854775808 ≤ (k : Int) := by omega
      exact ⟨_, x4, h.rep k hk2 (c / 5 % 7), by simp [runD, entE, exs, ex, evT, ev, evs, evo, evc, evi, bor, getO, getF, sndR, intR, Res.bind, onR, Fl.seq, fz, usT, us, ub, uss, uso, usc, usi, isiD, okB, D.tru, negD, cmpD, opD, idxD, slcD, biD, okF, endR, setE, bindT, itemsD, bT, lg 5, lg 35, h1, h2, eq_int, o1, hk, zk, k1, k2, hz]⟩

theorem loopT {T : Tb} (hT : ∀ c, ∃ d, Leaf d ∧ T.fn "_law_leaf" [.int c] = .ok (false, d)) {s : D} {x3 : Option (Bool × D)} : ∀ (cs : List Int) (P : List D) (i : Nat) (x2 x4 : Option (Bool × D)), Pile i P → i + cs.length ≤ 63 →
    ∃ P' x2' x4', Pile (i + cs.length) P' ∧ forN (.one 2) (exs T wf bT) (cs.map D.int) [some (false, s), some (true, .lst P), x2, x3, x4] = .nx [some (false, s), some (true, .lst P'), x2', x3, x4']
  | [], P, i, x2, x4, h, _ => ⟨P, x2, x4, h, rfl⟩
  | c :: cs, P, i, x2, x4, h, hi => by
    simp only [List.length_cons] at hi
    obtain ⟨P1, x5, h1, e1⟩ := bT_ok (T := T) hT (s := s) (c := c) (x3 := x3) (x4 := x4) h (by omega)
    obtain ⟨P2, x6, x7, h2, e2⟩ := loopT hT cs P1 (i + 1) (some (false, .int c)) x5 h1 (by omega)
    refine ⟨P2, x6, x7, ?_, ?_⟩
    · have : i + (c :: cs).length = i + 1 + cs.length := by simp only [List.length_cons]; omega
      rw [this]
      exact h2
    · rw [List.map_cons, forN]
      have : bindT (.one 2) (.int c) [some (false, s), some (true, .lst P), x2, x3, x4] = .ok [some (false, s), some (true, .lst P), some (false, .int c), x3, x4] := rfl
      rw [this]
      simp only []
      rw [e1]
      exact e2
def sA : Hf.St := (.ifs (.and (.val (.cmp .Eq (.bin .Mod (.bin .FloorDiv (.call "_law_cell_at" (.cons (.var 0) (.cons (.lit (.int 0)) .nil))) (.lit (.int 61))) (.lit (.int 2))) (.lit (.int 1)))) (.val (.cmp .NotEq (.var 1) (.lst .nil)))) (.cons (.set 3 (.bin .Mod (.bin .FloorDiv (.call "_law_cell_at" (.cons (.var 0) (.cons (.lit (.int 0)) .nil))) (.lit (.int 122))) (.bi .len (.var 1))))
    (.cons (.put 1 (.var 3) (.call "_law_leaf" (.cons (.bin .Mult (.bin .FloorDiv (.bin .FloorDiv (.call "_law_cell_at" (.cons (.var 0) (.cons (.lit (.int 0)) .nil))) (.lit (.int 122))) (.lit (.int 61))) (.lit (.int 4))) .nil)))
    .nil)) .nil)
def sB : Hf.St := (.ifs (.or (.val (.cmp .Eq (.bi .len (.var 1)) (.lit (.int 1)))) (.and (.val (.cmp .Eq (.bin .Mod (.bin .FloorDiv (.call "_law_cell_at" (.cons (.var 0) (.cons (.lit (.int 0)) .nil))) (.lit (.int 2))) (.lit (.int 5))) (.lit (.int 0)))) (.val (.cmp .NotEq (.var 1) (.lst .nil))))) (.cons (.ret (.idx (.var 1) (.lit (.int 0))))
    .nil) .nil)
def sC : Sts := (.cons (.ret (.bi .tuple (.var 1))) .nil)
structure Fin (P : List D) : Prop where
  t : ∀ d ∈ P, Tr d
  e : deps P ≤ 63
  w : wts P ≤ 400
theorem wts_set (P : List D) (k : Nat) (d : D) : wts (P.set k d) ≤ wts P + wt d := by
  induction P generalizing k with
  | nil => simp [wts]
  | cons x r ih =>
    cases k with
    | zero => simp only [List.set_cons_zero, wts]; omega
    | succ k => have := ih k; simp only [List.set_cons_succ, wts]; omega
theorem deps_set (P : List D) (k : Nat) (d : D) : deps (P.set k d) ≤ max (deps P) (dep d) := by
  induction P generalizing k with
  | nil => simp [deps]
  | cons x r ih =>
    cases k with
    | zero => simp only [List.set_cons_zero, deps]; omega
    | succ k => have := ih k; simp only [List.set_cons_succ, deps]; omega
theorem sA_ok {T : Tb} (hT : ∀ c, ∃ d, Leaf d ∧ T.fn "_law_leaf" [.int c] = .ok (false, d)) {s : D} {c : Int} (hc : T.fn "_law_cell_at" [s, .int 0] = .ok (false, .int c)) {P : List D} {x2 x3 x4 : Option (Bool × D)} (h : Pile 63 P) :
    ∃ P' x3', Fin P' ∧ ex T wf sA [some (false, s), some (true, .lst P), x2, x3, x4] = .nx [some (false, s), some (true, .lst P'), x2, x3', x4] := by
  have hl := wts_len P
  have hw := h.w
  have hz : P.length < sizeLine := by rw [sizeLine_eq]; omega
  have h0 : Fin P := ⟨h.t, h.e, by omega⟩
  by_cases h1 : c / 61 % 2 = 1
  · cases hP : P with
    | nil =>
      subst hP
      exact ⟨[], x3, h0, by simp [runD, entE, exs, ex, evT, ev, evs, evo, evc, evi, bor, getO, getF, sndR, intR, Res.bind, onR, Fl.seq, fz, usT, us, ub, uss, uso, usc, usi, isiD, okB, D.tru, negD, cmpD, opD, idxD, slcD, biD, okF, endR, setE, bindT, itemsD, sA, hc, lg 61, eq_int, h1, eq_nil h.t]⟩
    | cons p r =>
      rw [← hP]
      have hn : P.isEmpty = false := by rw [hP]; rfl
      have hl1 : 0 < P.length := by rw [hP]; simp
      have p1 : (0 : Int) < (P.length : Int) := by omega
      obtain ⟨k, hk⟩ : ∃ k : Nat, c / 122 % (P.length : Int) = k := ⟨(c / 122 % (P.length : Int)).toNat, by have := Int.emod_nonneg (c / 122) (b := (P.length : Int)) (by omega); omega⟩
      have hk2 : k < P.length := by have := Int.emod_lt_of_pos (c / 122) p1; omega
      have hk3 : ixN P.length (k : Int) = some k := by simp [ixN, hk2]
      obtain ⟨d, hd, e⟩ := hT (c / 122 / 61 * 4)
      obtain ⟨w1, w2, w3⟩ := leaf_wt hd
      have a1 := wts_set P k d
      have a2 := deps_set P k d
      have a3 := h.e
      refine ⟨P.set k d, some (false, .int k), ⟨fun x hx => ?_, by omega, by omega⟩, ?_⟩
      · rcases List.mem_or_eq_of_mem_set hx with hx | rfl
        · exact h.t x hx
        · exact .leaf hd
      · simp [runD, entE, exs, ex, evT, ev, evs, evo, evc, evi, bor, getO, getF, sndR, intR, Res.bind, onR, Fl.seq, fz, usT, us, ub, uss, uso, usc, usi, isiD, okB, D.tru, negD, cmpD, opD, idxD, slcD, biD, okF, endR, setE, bindT, itemsD, sA, hc, lg 61, lg 122, eq_int, h1, eq_nil h.t, hn, hl1, hk, e, hk3, Hf.MulOk]
  · exact ⟨P, x3, h0, by simp [runD, entE, exs, ex, evT, ev, evs, evo, evc, evi, bor, getO, getF, sndR, intR, Res.bind, onR, Fl.seq, fz, usT, us, ub, uss, uso, usc, usi, isiD, okB, D.tru, negD, cmpD, opD, idxD, slcD, biD, okF, endR, setE, bindT, itemsD, sA, hc, lg 61, eq_int, h1]⟩
theorem sB_ok {T : Tb} {s : D} {c : Int} (hc : T.fn "_law_cell_at" [s, .int 0] = .ok (false, .int c)) {P : List D} {x2 x3 x4 : Option (Bool × D)} (h : Fin P) :
    ∃ d, Tr d ∧ dep d ≤ 64 ∧ wt d ≤ 500 ∧ endR ((ex T wf sB [some (false, s), some (true, .lst P), x2, x3, x4]).seq (exs T wf sC)) = .ok (false, d) := by
  obtain ⟨a, b, e⟩ := h
  cases P with
  | nil =>
    refine ⟨.tup [], .tup (by simp), by simp [dep, deps], by simp [wt, wts], ?_⟩
    by_cases h1 : c / 2 % 5 = 0 <;> simp [runD, entE, exs, ex, evT, ev, evs, evo, evc, evi, bor, getO, getF, sndR, intR, Res.bind, onR, Fl.seq, fz, usT, us, ub, uss, uso, usc, usi, isiD, okB, D.tru, negD, cmpD, opD, idxD, slcD, biD, okF, endR, setE, bindT, itemsD, sB, sC, hc, lg 2, eq_int, h1, eq_nil a]
  | cons p r =>
    have hp : Tr p ∧ dep p ≤ 64 ∧ wt p ≤ 500 := by
      refine ⟨a p (by simp), ?_, ?_⟩
      · simp only [deps] at b; omega
      · simp only [wts] at e; omega
    have ht : Tr (.tup (p :: r)) ∧ dep (.tup (p :: r)) ≤ 64 ∧ wt (.tup (p :: r)) ≤ 500 := ⟨.tup a, by simp only [dep]; omega, by simp only [wt]; omega⟩
    by_cases h2 : r.length + 1 = 1
    · have h3 : r = [] := by cases r with
        | nil => rfl
        | cons _ _ => simp at h2
      subst h3
      exact ⟨p, hp.1, hp.2.1, hp.2.2, by simp [runD, entE, exs, ex, evT, ev, evs, evo, evc, evi, bor, getO, getF, sndR, intR, Res.bind, onR, Fl.seq, fz, usT, us, ub, uss, uso, usc, usi, isiD, okB, D.tru, negD, cmpD, opD, idxD, slcD, biD, okF, endR, setE, bindT, itemsD, sB, sC, hc, lg 2, eq_int, atI, ix0 0]⟩
    · have h2' : ¬ ((r.length : Int) + 1 = 1) := by omega
      by_cases h1 : c / 2 % 5 = 0
      · exact ⟨p, hp.1, hp.2.1, hp.2.2, by simp [runD, entE, exs, ex, evT, ev, evs, evo, evc, evi, bor, getO, getF, sndR, intR, Res.bind, onR, Fl.seq, fz, usT, us, ub, uss, uso, usc, usi, isiD, okB, D.tru, negD, cmpD, opD, idxD, slcD, biD, okF, endR, setE, bindT, itemsD, sB, sC, hc, lg 2, eq_int, atI, ix0, h1, h2', eq_nil a]⟩
      · exact ⟨_, ht.1, ht.2.1, ht.2.2, by simp [runD, entE, exs, ex, evT, ev, evs, evo, evc, evi, bor, getO, getF, sndR, intR, Res.bind, onR, Fl.seq, fz, usT, us, ub, uss, uso, usc, usi, isiD, okB, D.tru, negD, cmpD, opD, idxD, slcD, biD, okF, endR, setE, bindT, itemsD, sB, sC, hc, lg 2, eq_int, h1, h2']⟩

def itT : Is := (.seq (.slc (.var 0) (.some (.lit (.int 1))) (.some (.bin .Add (.lit (.int 1)) (.bin .Mod (.call "_law_cell_at" (.cons (.var 0) (.cons (.lit (.int 0)) .nil))) (.lit (.int 61)))))))
theorem cut_ints (ns : List Int) (lo hi : Option Int) : ∃ cs : List Int, cs.length ≤ ns.length ∧ Hf.cutD (ns.map D.int) lo hi = cs.map D.int := by
  refine ⟨(ns.drop (HT.sIx ns.length 0 lo)).take (HT.sIx ns.length ns.length hi - HT.sIx ns.length 0 lo), ?_, ?_⟩
  · rw [List.length_take, List.length_drop]; omega
  · simp [Hf.cutD, List.map_take, List.map_drop]
theorem v_thing {n : Nat} (ns : List Int) (hn : ns.length ≤ 63) : ∃ d, Tr d ∧ dep d ≤ 64 ∧ wt d ≤ 500 ∧ callN gl wf fs (n + 2) "_law_thing" [.lst (ns.map D.int)] = .ok (false, d) := by
  rw [cN l_thing]
  obtain ⟨c, hc⟩ := v_cell (n := n) ns
  obtain ⟨cs, hcs, ec⟩ := cut_ints ns (some 1) (some (1 + c % 61))
  have hT : ∀ c, ∃ d, Leaf d ∧ (⟨callN gl wf fs (n + 1), gl⟩ : Tb).fn "_law_leaf" [.int c] = .ok (false, d) := fun c => v_leaf c
  have h0 : Pile 0 ([] : List D) := ⟨by simp, by simp [deps], by simp [wts]⟩
  obtain ⟨P, x2, x4, hP, eP⟩ := loopT hT (s := .lst (ns.map D.int)) (x3 := none) cs [] 0 none none h0 (by omega)
  have hP' : Pile 63 P := ⟨hP.t, by have := hP.e; omega, by have := hP.w; omega⟩
  obtain ⟨P2, x3, h2, e2⟩ := sA_ok (T := ⟨callN gl wf fs (n + 1), gl⟩) hT (s := .lst (ns.map D.int)) (c := c) hc (x2 := x2) (x3 := none) (x4 := x4) hP'
  obtain ⟨d, t1, t2, t3, e3⟩ := sB_ok (T := ⟨callN gl wf fs (n + 1), gl⟩) (s := .lst (ns.map D.int)) (c := c) hc (x2 := x2) (x3 := x3) (x4 := x4) h2
  refine ⟨d, t1, t2, t3, ?_⟩
  have z1 : evi ⟨callN gl wf fs (n + 1), gl⟩ itT [some (false, .lst (ns.map D.int)), some (true, .lst []), none, none, none] = .ok (cs.map D.int) := by
    simp [runD, entE, exs, ex, evT, ev, evs, evo, evc, evi, bor, getO, getF, sndR, intR, Res.bind, onR, Fl.seq, fz, usT, us, ub, uss, uso, usc, usi, isiD, okB, D.tru, negD, cmpD, opD, idxD, slcD, biD, okF, endR, setE, bindT, itemsD, itT, hc, ec]
  have z0 : runD ⟨callN gl wf fs (n + 1), gl⟩ wf f__law_thing [.lst (ns.map D.int)] = endR ((onR (evi ⟨callN gl wf fs (n + 1), gl⟩ itT [some (false, .lst (ns.map D.int)), some (true, .lst []), none, none, none]) [some (false, .lst (ns.map D.int)), some (true, .lst []), none, none, none] fun ds => forN (.one 2) (exs ⟨callN gl wf fs (n + 1), gl⟩ wf bT) ds [some (false, .lst (ns.map D.int)), some (true, .lst []), none, none, none]).seq fun ρ => (ex ⟨callN gl wf fs (n + 1), gl⟩ wf sA ρ).seq fun ρ => (ex ⟨callN gl wf fs (n + 1), gl⟩ wf sB ρ).seq (exs ⟨callN gl wf fs (n + 1), gl⟩ wf sC)) := by
    rfl
  rw [z0, z1]
  simp only [onR]
  rw [eP]
  simp only [Fl.seq]
  rw [e2]
  simp only []
  exact e3
/-! ### the law -/
theorem tr_int (i : Int) : Tr (.int i) := .leaf (.int i)
theorem tr_bl (b : Bool) : Tr (.bl b) := .leaf (.bl b)
def e1 : Ex := (.tup (.cons (.lit (.int 1)) (.cons (.tup (.cons (.lit (.int 2)) .nil)) .nil)))
def e2 : Ex := (.tup (.cons (.lit (.bl true)) .nil))
def e3 : Ex := (.bin .Mult (.tup (.cons (.lit (.int 0)) .nil)) (.lit (.int 49)))
def e4 : Ex := (.bin .Add (.bin .Mult (.tup (.cons (.lit (.int 0)) .nil)) (.lit (.int 48))) (.bin .Mult (.tup (.cons (.tup .nil) .nil)) (.lit (.int 2))))
def e5 : Ex := (.bin .Sub (.bin .Pow (.lit (.int 10)) (.lit (.int 18))) (.lit (.int 1)))
def e6 : Ex := (.tup (.cons (.lit (.int 1)) (.cons (.tup (.cons (.bin .Pow (.lit (.int 10)) (.lit (.int 18))) .nil)) .nil)))
theorem call1 {T : Tb} {e : Ex} {ρ : En} {v : D} {b : Bool} (h : ev T e ρ = .ok (false, v)) (hv : T.fn "is_value" [v] = .ok (false, .bl b)) (c : Bool) (hc : c = b) : evT T (.val (.cmp .IsNot (.call "is_value" (.cons e .nil)) (.lit (.bl c)))) ρ = .ok false := by
  subst hc
  simp [runD, entE, exs, ex, evT, ev, evs, evo, evc, evi, bor, getO, getF, sndR, intR, Res.bind, onR, Fl.seq, fz, usT, us, ub, uss, uso, usc, usi, isiD, okB, D.tru, negD, cmpD, opD, idxD, slcD, biD, okF, endR, setE, bindT, itemsD, h, hv]

def q1 : Te := (.or (.val (.cmp .IsNot (.call "is_value" (.cons (.tup (.cons (.lit (.int 1)) (.cons (.tup (.cons (.lit (.int 2)) .nil)) .nil))) .nil)) (.lit (.bl true)))) (.val (.cmp .IsNot (.call "is_value" (.cons (.tup (.cons (.lit (.bl true)) .nil)) .nil)) (.lit (.bl false)))))
def q2 : Te := (.or (.val (.cmp .IsNot (.call "is_value" (.cons (.bin .Mult (.tup (.cons (.lit (.int 0)) .nil)) (.lit (.int 49))) .nil)) (.lit (.bl true)))) (.val (.cmp .IsNot (.call "is_value" (.cons (.bin .Add (.bin .Mult (.tup (.cons (.lit (.int 0)) .nil)) (.lit (.int 48))) (.bin .Mult (.tup (.cons (.tup .nil) .nil)) (.lit (.int 2)))) .nil)) (.lit (.bl false)))))
def q3 : Te := (.or (.val (.cmp .IsNot (.call "is_value" (.cons (.bin .Sub (.bin .Pow (.lit (.int 10)) (.lit (.int 18))) (.lit (.int 1))) .nil)) (.lit (.bl true)))) (.val (.cmp .IsNot (.call "is_value" (.cons (.tup (.cons (.lit (.int 1)) (.cons (.tup (.cons (.bin .Pow (.lit (.int 10)) (.lit (.int 18))) .nil)) .nil))) .nil)) (.lit (.bl false)))))

def bL : Sts := (.cons (.set 5 (.call "is_value" (.cons (.var 1) .nil)))
    (.cons (.ifs (.or (.not (.val (.isi (.var 5) .bool))) (.val (.cmp .NotEq (.var 5) (.var 2)))) (.cons (.ret (.lit (.bl false)))
    .nil) .nil)
    (.cons (.ifs (.or (.val (.cmp .IsNot (.call "is_value" (.cons (.tup (.cons (.lit (.int 1)) (.cons (.tup (.cons (.lit (.int 2)) .nil)) .nil))) .nil)) (.lit (.bl true)))) (.val (.cmp .IsNot (.call "is_value" (.cons (.tup (.cons (.lit (.bl true)) .nil)) .nil)) (.lit (.bl false))))) (.cons (.ret (.lit (.bl false)))
    .nil) .nil)
    (.cons (.ifs (.or (.val (.cmp .IsNot (.call "is_value" (.cons (.bin .Mult (.tup (.cons (.lit (.int 0)) .nil)) (.lit (.int 49))) .nil)) (.lit (.bl true)))) (.val (.cmp .IsNot (.call "is_value" (.cons (.bin .Add (.bin .Mult (.tup (.cons (.lit (.int 0)) .nil)) (.lit (.int 48))) (.bin .Mult (.tup (.cons (.tup .nil) .nil)) (.lit (.int 2)))) .nil)) (.lit (.bl false))))) (.cons (.ret (.lit (.bl false)))
    .nil) .nil)
    (.cons (.ifs (.or (.val (.cmp .IsNot (.call "is_value" (.cons (.bin .Sub (.bin .Pow (.lit (.int 10)) (.lit (.int 18))) (.lit (.int 1))) .nil)) (.lit (.bl true)))) (.val (.cmp .IsNot (.call "is_value" (.cons (.tup (.cons (.lit (.int 1)) (.cons (.tup (.cons (.bin .Pow (.lit (.int 10)) (.lit (.int 18))) .nil)) .nil))) .nil)) (.lit (.bl false))))) (.cons (.ret (.lit (.bl false)))
    .nil) .nil)
    .nil)))))
def sL : Sts :=     (.cons (.ifs (.not (.val (.var 2))) (.cons (.ret (.lit (.bl true)))
    .nil) .nil)
    (.cons (.set 4 (.call "weight" (.cons (.var 1) .nil)))
    (.cons (.ret (.and (.isi (.var 4) .int) (.and (.not (.isi (.var 4) .bool)) (.cmp .Eq (.var 4) (.call "_law_weight" (.cons (.var 1) .nil))))))
    .nil)))
def s12 : Sts := (.cons (.set 1 (.call "_law_thing" (.cons (.var 0) .nil)))
    (.cons (.set 2 (.and (.call "_law_good" (.cons (.var 1) .nil)) (.cmp .LtE (.call "_law_weight" (.cons (.var 1) .nil)) (.lit (.int 50))))) .nil))

theorem sz (k : Nat) (h : k ≤ 1000 := by decide) : k ≤ sizeLine := by rw [sizeLine_eq]; omega
theorem or2 {T : Tb} {a b : Te} {ρ : En} (h : evT T a ρ = .ok false) (k : evT T b ρ = .ok false) : evT T (.or a b) ρ = .ok false := by
  simp [evT, Res.bind, h, k]
section
variable {n : Nat} {ρ : En}
def TT (n : Nat) : Tb := ⟨callN gl wf fs (n + 2), gl⟩
theorem isv (n : Nat) {d : D} (h : Tr d) (hw : wt d ≤ 1000000) {b : Bool} (e : (gd d && decide (wt d ≤ 50)) = b) : (TT n).fn "is_value" [d] = .ok (false, .bl b) := by
  rw [← e]
  exact v_value h hw
theorem tr_ints (xs : List Int) : ∀ d ∈ xs.map D.int, Tr d := by
  intro d h
  obtain ⟨i, _, rfl⟩ := List.mem_map.mp h
  exact tr_int i
theorem q1_ok : evT (TT n) q1 ρ = .ok false := by
  refine or2 (call1 (v := .tup [.int 1, .tup [.int 2]]) (by simp [runD, entE, exs, ex, evT, ev, evs, evo, evc, evi, bor, getO, getF, sndR, intR, Res.bind, onR, Fl.seq, fz, usT, us, ub, uss, uso, usc, usi, isiD, okB, D.tru, negD, cmpD, opD, idxD, slcD, biD, okF, endR, setE, bindT, itemsD, sz 1, sz 2]) (isv n ?_ (by decide) (by decide)) true rfl) (call1 (v := .tup [.bl true]) (by simp [runD, entE, exs, ex, evT, ev, evs, evo, evc, evi, bor, getO, getF, sndR, intR, Res.bind, onR, Fl.seq, fz, usT, us, ub, uss, uso, usc, usi, isiD, okB, D.tru, negD, cmpD, opD, idxD, slcD, biD, okF, endR, setE, bindT, itemsD, sz 1]) (isv n ?_ (by decide) (by decide)) false rfl)
  · exact .tup fun d hd => by
      simp at hd
      rcases hd with rfl | rfl
      · exact tr_int _
      · exact .tup (tr_ints [2])
  · exact .tup fun d hd => by
      simp at hd
      subst hd
      exact tr_bl _
theorem q2_ok : evT (TT n) q2 ρ = .ok false := by
  refine or2 (call1 (v := .tup ((List.replicate 49 0).map D.int)) (by simp [runD, entE, exs, ex, evT, ev, evs, evo, evc, evi, bor, getO, getF, sndR, intR, Res.bind, onR, Fl.seq, fz, usT, us, ub, uss, uso, usc, usi, isiD, okB, D.tru, negD, cmpD, opD, idxD, slcD, biD, okF, endR, setE, bindT, itemsD, sz 1]) (isv n ?_ (by decide +kernel) (by decide +kernel)) true rfl) (call1 (v := .tup ((List.replicate 48 0).map D.int ++ [.tup [], .tup []])) (by simp [runD, entE, exs, ex, evT, ev, evs, evo, evc, evi, bor, getO, getF, sndR, intR, Res.bind, onR, Fl.seq, fz, usT, us, ub, uss, uso, usc, usi, isiD, okB, D.tru, negD, cmpD, opD, idxD, slcD, biD, okF, endR, setE, bindT, itemsD, sz 1, sz 0, sz 50]) (isv n ?_ (by decide +kernel) (by decide +kernel)) false rfl)
  · exact .tup (tr_ints _)
  · exact .tup fun d hd => by
      rcases List.mem_append.mp hd with hd | hd
      · exact tr_ints _ d hd
      · simp at hd
        subst hd
        exact .tup (by simp)
theorem q3_ok : evT (TT n) q3 ρ = .ok false := by
  refine or2 (call1 (v := .int 999999999999999999) (by simp [runD, entE, exs, ex, evT, ev, evs, evo, evc, evi, bor, getO, getF, sndR, intR, Res.bind, onR, Fl.seq, fz, usT, us, ub, uss, uso, usc, usi, isiD, okB, D.tru, negD, cmpD, opD, idxD, slcD, biD, okF, endR, setE, bindT, itemsD]) (isv n (tr_int _) (by decide) (by decide)) true rfl) (call1 (v := .tup [.int 1, .tup [.int 1000000000000000000]]) (by simp [runD, entE, exs, ex, evT, ev, evs, evo, evc, evi, bor, getO, getF, sndR, intR, Res.bind, onR, Fl.seq, fz, usT, us, ub, uss, uso, usc, usi, isiD, okB, D.tru, negD, cmpD, opD, idxD, slcD, biD, okF, endR, setE, bindT, itemsD, sz 1, sz 2]) (isv n ?_ (by decide) (by decide)) false rfl)
  exact .tup fun d hd => by
      simp at hd
      rcases hd with rfl | rfl
      · exact tr_int _
      · exact .tup (tr_ints [1000000000000000000])
end
theorem bL_ok {n : Nat} {s d : D} {x3 x4 x5 : Option (Bool × D)} {b : Bool} (h : (TT n).fn "is_value" [d] = .ok (false, .bl b)) : exs (TT n) wf bL [some (false, s), some (false, d), some (false, .bl b), x3, x4, x5] = .nx [some (false, s), some (false, d), some (false, .bl b), x3, x4, some (false, .bl b)] := by
  have f : ∀ ρ, fz (usT q1) ρ = ρ ∧ fz (usT q2) ρ = ρ ∧ fz (usT q3) ρ = ρ := fun _ => ⟨rfl, rfl, rfl⟩
  have e : bL = .cons (.set 5 (.call "is_value" (.cons (.var 1) .nil))) (.cons (.ifs (.or (.not (.val (.isi (.var 5) .bool))) (.val (.cmp .NotEq (.var 5) (.var 2)))) (.cons (.ret (.lit (.bl false))) .nil) .nil) (.cons (.ifs q1 (.cons (.ret (.lit (.bl false))) .nil) .nil) (.cons (.ifs q2 (.cons (.ret (.lit (.bl false))) .nil) .nil) (.cons (.ifs q3 (.cons (.ret (.lit (.bl false))) .nil) .nil) .nil)))) := rfl
  rw [e]
  simp [exs, ex, f, q1_ok, q2_ok, q3_ok, onR, Fl.seq]
  simp [runD, entE, exs, ex, evT, ev, evs, evo, evc, evi, bor, getO, getF, sndR, intR, Res.bind, onR, Fl.seq, fz, usT, us, ub, uss, uso, usc, usi, isiD, okB, D.tru, negD, cmpD, opD, idxD, slcD, biD, okF, endR, setE, bindT, itemsD, h, eq_bl]

theorem s12_ok {n : Nat} {s d : D} {w : Nat} {g : Bool} (h1 : (TT n).fn "_law_thing" [s] = .ok (false, d)) (h2 : (TT n).fn "_law_good" [d] = .ok (false, .bl g)) (h3 : (TT n).fn "_law_weight" [d] = .ok (false, .int w)) : exs (TT n) wf s12 [some (false, s), none, none, none, none, none] = .nx [some (false, s), some (false, d), some (false, .bl (g && decide (w ≤ 50))), none, none, none] := by
  cases g <;> simp [runD, entE, exs, ex, evT, ev, evs, evo, evc, evi, bor, getO, getF, sndR, intR, Res.bind, onR, Fl.seq, fz, usT, us, ub, uss, uso, usc, usi, isiD, okB, D.tru, negD, cmpD, opD, idxD, slcD, biD, okF, endR, setE, bindT, itemsD, s12, h1, h2, h3]
  omega
theorem sL_ok {n : Nat} {s d : D} {x3 x5 : Option (Bool × D)} {w : Nat} {b : Bool} (h3 : (TT n).fn "_law_weight" [d] = .ok (false, .int w)) (h4 : (TT n).fn "weight" [d] = .ok (false, .int w)) : endR (exs (TT n) wf sL [some (false, s), some (false, d), some (false, .bl b), x3, none, x5]) = .ok (false, .bl true) := by
  cases b <;> simp [runD, entE, exs, ex, evT, ev, evs, evo, evc, evi, bor, getO, getF, sndR, intR, Res.bind, onR, Fl.seq, fz, usT, us, ub, uss, uso, usc, usi, isiD, okB, D.tru, negD, cmpD, opD, idxD, slcD, biD, okF, endR, setE, bindT, itemsD, sL, h3, h4, eq_int]
theorem rng2 : rngD 0 2 = .ok [.int 0, .int 1] := by kernel_rfl
theorem seq_assoc (r : Fl) (f g : En → Fl) : (r.seq f).seq g = r.seq fun ρ => (f ρ).seq g := by cases r <;> rfl
theorem law_val (ns : List Int) (h : ns.length ≤ 63) : callN gl wf fs 201 "law" [.lst (ns.map D.int)] = .ok (false, .bl true) := by
  rw [cN l_law]
  obtain ⟨d, t1, t2, t3, hd⟩ := v_thing (n := 198) ns h
  have hg := v_good 200 d t1 (by omega) (by omega)
  have hw := v_lweight 200 d t1 (by omega) (by omega)
  have hk := v_weight (n := 199) t1 (by omega)
  have hv := isv 198 t1 (by omega) rfl
  have z0 : runD ⟨callN gl wf fs 200, gl⟩ wf f_law [.lst (ns.map D.int)] = endR ((exs (TT 198) wf s12 [some (false, .lst (ns.map D.int)), none, none, none, none, none]).seq fun ρ => (onR (evi (TT 198) (.rng1 (.lit (.int 2))) ρ) ρ fun ds => forN (.one 3) (exs (TT 198) wf bL) ds ρ).seq (exs (TT 198) wf sL)) := by
    have e1 : exs (TT 198) wf s12 = fun ρ => (ex (TT 198) wf (.set 1 (.call "_law_thing" (.cons (.var 0) .nil))) ρ).seq fun ρ => (ex (TT 198) wf (.set 2 (.and (.call "_law_good" (.cons (.var 1) .nil)) (.cmp .LtE (.call "_law_weight" (.cons (.var 1) .nil)) (.lit (.int 50))))) ρ).seq .nx := rfl
    rw [e1]
    simp only [seq_assoc]
    rfl
  rw [z0, s12_ok hd hg hw]
  have z1 : ∀ ρ, evi (TT 198) (.rng1 (.lit (.int 2))) ρ = .ok [.int 0, .int 1] := fun ρ => by simp [runD, entE, exs, ex, evT, ev, evs, evo, evc, evi, bor, getO, getF, sndR, intR, Res.bind, onR, Fl.seq, fz, usT, us, ub, uss, uso, usc, usi, isiD, okB, D.tru, negD, cmpD, opD, idxD, slcD, biD, okF, endR, setE, bindT, itemsD, rng2]
  have z2 : ∀ (i : D) (b : Bool) x y z, bindT (.one 3) i [some (false, .lst (ns.map D.int)), some (false, d), some (false, .bl b), x, y, z] = .ok [some (false, .lst (ns.map D.int)), some (false, d), some (false, .bl b), some (false, i), y, z] := fun _ _ _ _ _ => rfl
  simp only [Fl.seq, z1, onR, forN, z2, bL_ok hv]
  exact sL_ok hw hk

theorem law_holds (ns : List Int) (h : ns.length ≤ 63) : ∃ b, callN gl wf fs (depth + 1) "law" [.lst (ns.map D.int)] = .ok (b, .bl true) := ⟨_, law_val ns h⟩
end K01
open PySem PySem.W PySem.Calls PyProof.Rows
theorem PySem.Challenge.cw_halfrun_k01_values_holds : PySem.Challenge.rw_halfrun_k01_values.Holds := by
  w_on; o_law
  refine HandSHeadRun.head_any (r := OpenLaw.row PySem.Challenge.rw_halfrun_k01_values) (q := view (OpenLaw.row PySem.Challenge.rw_halfrun_k01_values).prog [12]) (H := K01.hk) (ob := K01.ob) (M := 4000) (loose := K01.others) (d := HandSHeadRun.topDef (OpenLaw.row PySem.Challenge.rw_halfrun_k01_values).prog 12) (kwd := []) K01.ob_eq
    (by kernel_rfl) (fun s => by kernel_rfl) K01.run (by kernel_rfl) (by kernel_rfl) (by kernel_rfl) (by rfl) (by first | assumption | decide +kernel) (by decide +kernel) ⟨rfl, rfl, rfl, rfl, rfl, by decide +kernel⟩ ?hw ?hc
  case hw => w_witness2
  case hc =>
    refine L2.walk_ofE (l := PySem.Challenge.rw_halfrun_k01_values) (n := 63) (k := K01.depth + 1) (x := "_law_script") (CX := L2.CX0) rfl (by decide) (by kernel_rfl) ⟨rfl, by decide, by decide⟩ ?F (fun _ _ _ _ z => z)
    intro w mg fa h Y G hmg0
    obtain ⟨K, KX, c⟩ := Y
    have hmg : mg ("law" : PySem.Str) = some (.ref fa) := by
      have e : (HandSHeadRun.topDef (OpenLaw.row PySem.Challenge.rw_halfrun_k01_values).prog 12).name = ("law" : PySem.Str) := by kernel_rfl
      rw [← e]
      exact hmg0
    obtain ⟨fd, hb, hF⟩ := K01.facts (P := (PySem.Challenge.rw_halfrun_k01_values).prog) (w := w) KX G hmg c
    exact ⟨K, fd, (fun vs H Q _ => Hf.spD ⟨K, mg⟩ 1 (Hf.callN K01.gl K01.wf K01.fs (K01.depth + 1) "law") vs H Q L2.E0), KX, hb, fun H a ns hl _ hS => Hf.law_sp (G := ⟨K, mg⟩) K01.law_holds H a ns hl hS, hF⟩

