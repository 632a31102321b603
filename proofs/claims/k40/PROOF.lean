import PyProof.Rows.All
import Wide.All
import OpenK.AllK
import Wide.FinOn
import HandS.ForMost
import HandS.Codes
import HandS.IsInst
import HandS.Wide
import HandS.SortInts
import HandS.MakeKwOnly
import HandS.SortRule
import KE.DatumOrd
import HandS.Zip
import HandS.SetFor
import HandS.Strs
import HandS.Deep
import HandS.Defaults
import HandS.Conv
import HandS.RevRange
import HandS.TupSets
import HandS.Ends
import HandS.WordsExc
import HandS.Head0
import HandS.Head1
import HandS.Head2
import HandS.HeadEnd
import HandS.HeadHook1
import HandS.HeadHook2
import KE.GoesEnum
import HandS.Style
import KE.KRevSl
import HandS.Text
import KE.GoesEnumKw
import HandS.Rev
import HandS.SetBool
import HandS.More
import HandS.DeepEq
import KE.KExcSuper
import HandS.ForExc
import HandS.FStr
import HandS.ExcIs
import KE.KExcIs
import HandS.Gcd
import HandS.SortKw
import HandS.IterVal
import KE.KOwnIter
import PySem.Challenge.RW_fogfleet_k40_tide_gate
set_option Elab.async false
set_option linter.all false
set_option maxRecDepth 100000
universe u v
set_option Elab.async false
set_option linter.all false
set_option maxRecDepth 100000
set_option maxHeartbeats 2000000
/-! Data of plain Lean behind slots and heap: what a name holds, what an expression is worth, what a statement does, all said of plain data. -/
namespace FF
open PySem L2
abbrev Kf := PySem.W.Frag

/-- how a datum stands in the heap -/
class Rp (α : Type) where
  rep : Kf → Hp → V → α → Prop
  mono : ∀ {K : Kf} {H H' : Hp} {v : V} {x : α}, Same H H' → rep K H v x → rep K H' v x
/-- a datum that needs no heap -/
class Sc (α : Type) [i : Rp α] : Prop where
  any : ∀ {K : Kf} {H H' : Hp} {v : V} {x : α}, i.rep K H v x → i.rep K H' v x
abbrev rep {α : Type} [i : Rp α] (K : Kf) (H : Hp) (v : V) (x : α) : Prop := i.rep K H v x

instance : Rp Int := ⟨fun _ _ v x => v = .int x, fun _ h => h⟩
instance : Sc Int := ⟨fun h => h⟩
instance : Rp Bool := ⟨fun _ _ v x => v = .bl x, fun _ h => h⟩
instance : Sc Bool := ⟨fun h => h⟩
instance : Rp PySem.Str := ⟨fun _ _ v x => v = .str x, fun _ h => h⟩
instance : Sc PySem.Str := ⟨fun h => h⟩
instance : Rp Unit := ⟨fun _ _ v _ => v = .non, fun _ h => h⟩
instance : Sc Unit := ⟨fun h => h⟩
instance {α : Type} [i : Rp α] : Rp (Option α) := ⟨fun K H v x => match x with | none => v = .non | some y => v ≠ .non ∧ i.rep K H v y, fun {K H H' v x} s h => by
  cases x with
  | none => exact h
  | some y => exact ⟨h.1, i.mono s h.2⟩⟩
instance {α : Type} [i : Rp α] [s : Sc α] : Sc (Option α) := ⟨fun {K H H' v x} h => by
  cases x with
  | none => exact h
  | some y => exact ⟨h.1, s.any h.2⟩⟩

inductive Prd {α : Type u} {β : Type v} (F : α → β → Prop) : List α → List β → Prop
  | nil : Prd F [] []
  | cons {a b l₁ l₂} : F a b → Prd F l₁ l₂ → Prd F (a :: l₁) (b :: l₂)
theorem prd_mono {α : Type u} {β : Type v} {F G : α → β → Prop} (k : ∀ a b, F a b → G a b) : ∀ {l₁ : List α} {l₂ : List β}, Prd F l₁ l₂ → Prd G l₁ l₂
  | _, _, .nil => .nil
  | _, _, .cons r t => .cons (k _ _ r) (prd_mono k t)
theorem prd_len {α : Type u} {β : Type v} {F : α → β → Prop} : ∀ {l₁ : List α} {l₂ : List β}, Prd F l₁ l₂ → l₁.length = l₂.length
  | _, _, .nil => rfl
  | _, _, .cons _ t => congrArg Nat.succ (prd_len t)
theorem prd_get {α : Type u} {β : Type v} {F : α → β → Prop} : ∀ {l₁ : List α} {l₂ : List β} {n : Nat} {y : β}, Prd F l₁ l₂ → l₂[n]? = some y → ∃ x, l₁[n]? = some x ∧ F x y
  | _, _, _, _, .nil, h => by simp at h
  | _, _, 0, y, .cons (a := a) r t, h => by
    have e := Option.some.inj h
    subst e
    exact ⟨a, rfl, r⟩
  | _, _, n + 1, y, .cons r t, h => prd_get (n := n) t h
theorem prd_getL {α : Type u} {β : Type v} {F : α → β → Prop} : ∀ {l₁ : List α} {l₂ : List β} {n : Nat} {x : α}, Prd F l₁ l₂ → l₁[n]? = some x → ∃ y, l₂[n]? = some y ∧ F x y
  | _, _, _, _, .nil, h => by simp at h
  | _, _, 0, x, .cons (b := b) r t, h => by
    have e := Option.some.inj h
    subst e
    exact ⟨b, rfl, r⟩
  | _, _, n + 1, x, .cons r t, h => prd_getL (n := n) t h
theorem prd_app {α : Type u} {β : Type v} {F : α → β → Prop} : ∀ {l₁ m₁ : List α} {l₂ m₂ : List β}, Prd F l₁ l₂ → Prd F m₁ m₂ → Prd F (l₁ ++ m₁) (l₂ ++ m₂)
  | _, _, _, _, .nil, h => h
  | _, _, _, _, .cons r t, h => .cons r (prd_app t h)
theorem prd_drop {α β : Type} {F : α → β → Prop} : ∀ {l₁ : List α} {l₂ : List β} (n : Nat), Prd F l₁ l₂ → Prd F (l₁.drop n) (l₂.drop n)
  | _, _, 0, h => h
  | _, _, n + 1, .nil => .nil
  | _, _, n + 1, .cons _ t => prd_drop n t
theorem prd_take {α β : Type} {F : α → β → Prop} : ∀ {l₁ : List α} {l₂ : List β} (n : Nat), Prd F l₁ l₂ → Prd F (l₁.take n) (l₂.take n)
  | _, _, 0, _ => .nil
  | _, _, n + 1, .nil => .nil
  | _, _, n + 1, .cons r t => .cons r (prd_take n t)
theorem prd_set {α β : Type} {F : α → β → Prop} {x : α} {y : β} (f : F x y) : ∀ {l₁ : List α} {l₂ : List β} (n : Nat), Prd F l₁ l₂ → Prd F (l₁.set n x) (l₂.set n y)
  | _, _, _, .nil => .nil
  | _, _, 0, .cons _ t => .cons f t
  | _, _, n + 1, .cons r t => .cons r (prd_set f n t)
theorem prd_rev {α β : Type} {F : α → β → Prop} : ∀ {l₁ : List α} {l₂ : List β}, Prd F l₁ l₂ → Prd F l₁.reverse l₂.reverse
  | _, _, .nil => .nil
  | _, _, .cons r t => by
    rw [List.reverse_cons, List.reverse_cons]
    exact prd_app (prd_rev t) (.cons r .nil)
theorem same_t {K : Kf} {H H' : Hp} {a : Addr} {xs : List V} (e : Same H H') (h : SqT K H a xs) : SqT K H' a xs := by
  rcases h with (h | ⟨o, h⟩) | h
  · exact .inl (.inl (e _ _ h))
  · exact .inl (.inr ⟨o, e _ _ h⟩)
  · exact .inr h

/-- a Python list -/
instance {α : Type} [i : Rp α] : Rp (List α) := ⟨fun K H v xs => ∃ a vs, v = .ref a ∧ H a = some (.lst vs) ∧ Prd (i.rep K H) vs xs, fun s ⟨a, vs, e, h, p⟩ => ⟨a, vs, e, s _ _ h, prd_mono (fun _ _ r => i.mono s r) p⟩⟩
theorem rl {α : Type} [i : Rp α] {K : Kf} {H : Hp} {v : V} {xs : List α} (h : rep K H v xs) : ∃ a vs, v = .ref a ∧ SqL K H a vs ∧ Prd (i.rep K H) vs xs := by
  obtain ⟨a, vs, e, h, p⟩ := h
  exact ⟨a, vs, e, SqL.of h, p⟩
/-- a Python tuple of like items -/
structure Tu (α : Type) where
  l : List α
deriving DecidableEq
instance {α : Type} : Inhabited (Tu α) := ⟨⟨[]⟩⟩
instance {α : Type} [i : Rp α] : Rp (Tu α) := ⟨fun K H v xs => ∃ a vs, v = .ref a ∧ SqT K H a vs ∧ Prd (i.rep K H) vs xs.l, fun s ⟨a, vs, e, h, p⟩ => ⟨a, vs, e, same_t s h, prd_mono (fun _ _ r => i.mono s r) p⟩⟩
/-- a list or a tuple -/
structure Sq (α : Type) where
  l : List α
deriving DecidableEq
instance {α : Type} [i : Rp α] : Rp (Sq α) := ⟨fun K H v xs => ∃ a vs, v = .ref a ∧ (SqL K H a vs ∨ SqT K H a vs) ∧ Prd (i.rep K H) vs xs.l, fun s ⟨a, vs, e, h, p⟩ => ⟨a, vs, e, h.imp s.seq (same_t s), prd_mono (fun _ _ r => i.mono s r) p⟩⟩
/-- tuples of two, three, four, five -/
instance {α β : Type} [i : Rp α] [j : Rp β] : Rp (α × β) := ⟨fun K H v x => ∃ a u w, v = .ref a ∧ SqT K H a [u, w] ∧ i.rep K H u x.1 ∧ j.rep K H w x.2, fun s ⟨a, u, w, e, h, p, q⟩ => ⟨a, u, w, e, same_t s h, i.mono s p, j.mono s q⟩⟩
structure T3 (α β γ : Type) where
  a : α
  b : β
  c : γ
deriving DecidableEq, Inhabited
structure T4 (α β γ δ : Type) where
  a : α
  b : β
  c : γ
  d : δ
deriving DecidableEq, Inhabited
structure T5 (α β γ δ ε : Type) where
  a : α
  b : β
  c : γ
  d : δ
  e : ε
deriving DecidableEq, Inhabited
instance {α β γ : Type} [i : Rp α] [j : Rp β] [k : Rp γ] : Rp (T3 α β γ) := ⟨fun K H v x => ∃ a u1 u2 u3, v = .ref a ∧ SqT K H a [u1, u2, u3] ∧ i.rep K H u1 x.a ∧ j.rep K H u2 x.b ∧ k.rep K H u3 x.c,
  fun s ⟨a, u1, u2, u3, e, h, p, q, r⟩ => ⟨a, u1, u2, u3, e, same_t s h, i.mono s p, j.mono s q, k.mono s r⟩⟩
instance {α β γ δ : Type} [i : Rp α] [j : Rp β] [k : Rp γ] [l : Rp δ] : Rp (T4 α β γ δ) := ⟨fun K H v x => ∃ a u1 u2 u3 u4, v = .ref a ∧ SqT K H a [u1, u2, u3, u4] ∧ i.rep K H u1 x.a ∧ j.rep K H u2 x.b ∧ k.rep K H u3 x.c ∧ l.rep K H u4 x.d,
  fun s ⟨a, u1, u2, u3, u4, e, h, p, q, r, t⟩ => ⟨a, u1, u2, u3, u4, e, same_t s h, i.mono s p, j.mono s q, k.mono s r, l.mono s t⟩⟩
instance {α β γ δ ε : Type} [i : Rp α] [j : Rp β] [k : Rp γ] [l : Rp δ] [m : Rp ε] : Rp (T5 α β γ δ ε) := ⟨fun K H v x => ∃ a u1 u2 u3 u4 u5, v = .ref a ∧ SqT K H a [u1, u2, u3, u4, u5] ∧ i.rep K H u1 x.a ∧ j.rep K H u2 x.b ∧ k.rep K H u3 x.c ∧ l.rep K H u4 x.d ∧ m.rep K H u5 x.e,
  fun s ⟨a, u1, u2, u3, u4, u5, e, h, p, q, r, t, z⟩ => ⟨a, u1, u2, u3, u4, u5, e, same_t s h, i.mono s p, j.mono s q, k.mono s r, l.mono s t, m.mono s z⟩⟩

structure Pv : Type 1 where
  {α : Type}
  i : Rp α
  x : α
@[reducible] def pv' {α : Type} [i : Rp α] (x : α) : Pv := ⟨i, x⟩
/-- an instance's attributes -/
def FsOk (K : Kf) (H : Hp) : List (Str × V) → List (Str × Pv) → Prop := Prd fun p q => p.1 = q.1 ∧ q.2.i.rep K H p.2 q.2.x
theorem FsOk.mono {K : Kf} {H H' : Hp} {vs : List (Str × V)} {fs : List (Str × Pv)} (s : Same H H') (h : FsOk K H vs fs) : FsOk K H' vs fs := prd_mono (fun _ q r => ⟨r.1, q.2.i.mono s r.2⟩) h
/-- a thing of one's own of any shape, whose lists stand at these places -/
structure Gn : Type 1 where
  ok : Kf → Hp → Hp → V → Prop
  bs : List Addr
  mono0 : ∀ {K : Kf} {H0 H0' H : Hp} {v : V}, Same H0 H0' → ok K H0 H v → ok K H0' H v
  monoH : ∀ {K : Kf} {H0 H H' : Hp} {v : V}, (∀ b ∈ bs, ∀ o, H b = some o → H' b = some o) → ok K H0 H v → ok K H0 H' v
/-- what a slot holds (ob: an instance that is being made): nothing that is known; a datum that stands for good; a datum that stands as long as this def runs; a list of one's own (its address, where it has a name) -/
inductive Sl : Type 1
  | un
  | ob (a C dx : Addr) (fs : List (Str × Pv))
  | per {α : Type} (i : Rp α) (x : α)
  | bor {α : Type} (i : Rp α) (x : α)
  | bl {α : Type} (i : Rp α) (xs : List α)
  | own {α : Type} (i : Rp α) (a : Option Addr) (xs : List α)
  | dp {α : Type} (i : Rp α) (a : Option Addr) (xss : List (List α))
  | gn (G : Gn)
@[reducible] def pr {α : Type} [i : Rp α] (x : α) : Sl := .per i x
@[reducible] def bw {α : Type} [i : Rp α] (x : α) : Sl := .bor i x
/-- a lent list whose items stand for good -/
@[reducible] def bls {α : Type} [i : Rp α] (xs : List α) : Sl := .bl i xs
@[reducible] def ow {α : Type} [i : Rp α] (xs : List α) : Sl := .own i none xs
@[reducible] def owp {α : Type} [i : Rp α] (p : Addr) (xs : List α) : Sl := .own i (some p) xs
def isOwn : Option Sl → Prop
  | some (.own _ _ _) => True
  | some (.dp _ _ _) => True
  | some (.gn _) => True
  | _ => False
/-- a list of one's own whose items are lists of one's own -/
@[reducible] def dw {α : Type} [i : Rp α] (xss : List (List α)) : Sl := .dp i none xss
@[reducible] def dwp {α : Type} [i : Rp α] (p : Addr) (xss : List (List α)) : Sl := .dp i (some p) xss
theorem get_set {α : Type u} {l : List α} {i j : Nat} {x y : α} (h : (l.set i x)[j]? = some y) : (j = i ∧ y = x) ∨ (j ≠ i ∧ l[j]? = some y) := by
  by_cases e : j = i
  · subst e
    have hl : j < (l.set j x).length := (List.getElem?_eq_some_iff.mp h).1
    rw [List.length_set] at hl
    rw [List.getElem?_set_self hl] at h
    exact .inl ⟨rfl, (Option.some.inj h).symm⟩
  · rw [List.getElem?_set_ne (Ne.symm e)] at h
    exact .inr ⟨e, h⟩
/-- what must be kept; what borrowed data stand in -/
structure Fm where
  k : Hp
  b : Hp
  sub : Same b k
def blOk (K : Kf) (F : Fm) (H0 : Hp) (ov : Option V) {α : Type} (i : Rp α) (xs : List α) : Prop := ∃ a vs, ov = some (.ref a) ∧ F.b a = some (.lst vs) ∧ Prd (i.rep K H0) vs xs
theorem blOk.mono {K : Kf} {F : Fm} {H0 H0' : Hp} {ov : Option V} {α : Type} {i : Rp α} {xs : List α} (s : Same H0 H0') (h : blOk K F H0 ov i xs) : blOk K F H0' ov i xs := by
  obtain ⟨a, vs, e1, e2, e3⟩ := h
  exact ⟨a, vs, e1, e2, prd_mono (fun _ _ z => i.mono s z) e3⟩
def inOk (K : Kf) (F : Fm) (H0 H : Hp) {α : Type} (i : Rp α) (b : Addr) (xs : List α) : Prop := F.k b = none ∧ H0 b = none ∧ ∃ vs, H b = some (.lst vs) ∧ Prd (i.rep K H0) vs xs
def dpOk (K : Kf) (F : Fm) (H0 H : Hp) (ov : Option V) {α : Type} (i : Rp α) (p : Option Addr) (xss : List (List α)) : Prop :=
  ∃ (a : Addr) (bs : List Addr), ov = some (.ref a) ∧ (∀ q, p = some q → a = q) ∧ F.k a = none ∧ H0 a = none ∧ H a = some (.lst (bs.map V.ref)) ∧ bs.Nodup ∧ a ∉ bs ∧ Prd (inOk K F H0 H i) bs xss
/-- the addresses of a slot's own lists -/
def ft (H : Hp) (ov : Option V) : Sl → Addr → Prop
  | .own _ _ _, b => ov = some (.ref b)
  | .dp _ _ _, b => ov = some (.ref b) ∨ ∃ (a : Addr) (bs : List Addr), ov = some (.ref a) ∧ H a = some (.lst (bs.map V.ref)) ∧ b ∈ bs
  | .gn G, b => b ∈ G.bs
  | _, _ => False
def Ftp (H : Hp) (σ : St) (Γ : List Sl) (n : Nat) (b : Addr) : Prop := ∃ s ov, Γ[n]? = some s ∧ σ[n]? = some ov ∧ ft H ov s b
/-- nobody's own list stands there -/
def Fre (H : Hp) (σ : St) (Γ : List Sl) (b : Addr) : Prop := ∀ n : Nat, ¬ Ftp H σ Γ n b
theorem refs_inj : ∀ {l m : List Addr}, l.map V.ref = m.map V.ref → l = m
  | [], [], _ => rfl
  | [], _ :: _, h => by cases h
  | _ :: _, [], h => by cases h
  | a :: l, b :: m, h => by
    rw [List.map_cons, List.map_cons] at h
    injection h with h1 h2
    injection h1 with h1
    rw [h1, refs_inj h2]
theorem prd_monoM {α : Type u} {β : Type v} {F G : α → β → Prop} : ∀ {l₁ : List α} {l₂ : List β}, (∀ a ∈ l₁, ∀ b, F a b → G a b) → Prd F l₁ l₂ → Prd G l₁ l₂
  | _, _, _, .nil => .nil
  | _, _, k, .cons r t => .cons (k _ List.mem_cons_self _ r) (prd_monoM (fun a h => k a (List.mem_cons_of_mem _ h)) t)
theorem dpOk.mono {K : Kf} {F F' : Fm} {H0 H0' H H' : Hp} {ov : Option V} {α : Type} {i : Rp α} {p p' : Option Addr} {xss : List (List α)} (h : dpOk K F H0 H ov i p xss) (hF : ∀ b, ft H ov (.dp i p' xss) b → F.k b = none → F'.k b = none)
    (h0 : ∀ b, ft H ov (.dp i p' xss) b → H0 b = none → H0' b = none) (hH : ∀ b o, ft H ov (.dp i p' xss) b → H b = some o → H' b = some o) (hr : ∀ v x, i.rep K H0 v x → i.rep K H0' v x) : dpOk K F' H0' H' ov i p xss := by
  obtain ⟨a, bs, e1, e2, e3, e4, e5, e6, e7, e8⟩ := h
  have fa : ft H ov (.dp i p' xss) a := .inl e1
  refine ⟨a, bs, e1, e2, hF a fa e3, h0 a fa e4, hH a _ fa e5, e6, e7, prd_monoM (fun b hb xs q => ?_) e8⟩
  have fb : ft H ov (.dp i p' xss) b := .inr ⟨a, bs, e1, e5, hb⟩
  obtain ⟨q1, q2, vs, q3, q4⟩ := q
  exact ⟨hF b fb q1, h0 b fb q2, vs, hH b _ fb q3, prd_mono (fun _ _ z => hr _ _ z) q4⟩
def gnOk (K : Kf) (F : Fm) (H0 H : Hp) (ov : Option V) (G : Gn) : Prop := ∃ v, ov = some v ∧ G.ok K H0 H v ∧ ∀ b ∈ G.bs, F.k b = none ∧ H0 b = none ∧ ∃ vs, H b = some (.lst vs)
theorem gnOk.mono {K : Kf} {F F' : Fm} {H0 H0' H H' : Hp} {ov : Option V} {G : Gn} (h : gnOk K F H0 H ov G) (hF : ∀ b, b ∈ G.bs → F.k b = none → F'.k b = none) (h0 : ∀ b, b ∈ G.bs → H0 b = none → H0' b = none) (hH : ∀ b o, b ∈ G.bs → H b = some o → H' b = some o)
    (hr : ∀ v, G.ok K H0 H v → G.ok K H0' H v) : gnOk K F' H0' H' ov G := by
  obtain ⟨v, e, h1, h2⟩ := h
  exact ⟨v, e, G.monoH (fun b hb o z => hH b o hb z) (hr v h1), fun b hb => ⟨hF b hb (h2 b hb).1, h0 b hb (h2 b hb).2.1, by obtain ⟨vs, z⟩ := (h2 b hb).2.2; exact ⟨vs, hH b _ hb z⟩⟩⟩
/-- H0: what stands for good; F: what must be kept -/
def slOk (K : Kf) (F : Fm) (H0 H : Hp) (ov : Option V) : Sl → Prop
  | .un => True
  | .ob a C dx fs => ov = some (.ref a) ∧ F.k a = none ∧ H0 a = none ∧ F.k dx = none ∧ H0 dx = none ∧ H dx = some (.own a) ∧ ∃ vs, H a = some (.ins C dx vs) ∧ FsOk K H0 vs fs
  | .per i x => ∃ v, ov = some v ∧ i.rep K H0 v x
  | .bor i x => ∃ v, ov = some v ∧ i.rep K F.b v x
  | .bl i xs => blOk K F H0 ov i xs
  | .own i p xs => ∃ a vs, ov = some (.ref a) ∧ (∀ q, p = some q → a = q) ∧ F.k a = none ∧ H0 a = none ∧ H a = some (.lst vs) ∧ Prd (i.rep K H0) vs xs
  | .dp i p xss => dpOk K F H0 H ov i p xss
  | .gn G => gnOk K F H0 H ov G
structure SR (K : Kf) (F : Fm) (I H0 H : Hp) (σ : St) (Γ : List Sl) : Prop where
  f : Same F.k H
  i : Same I H0
  g : ∀ a o, F.k a = some o → I a = none → H0 a = none
  h : Same H0 H
  len : Γ.length ≤ σ.length
  ok : ∀ (n : Nat) (s : Sl), Γ[n]? = some s → ∃ ov, σ[n]? = some ov ∧ slOk K F H0 H ov s
  dj : ∀ (n m : Nat) (a : Addr), n ≠ m → Ftp H σ Γ n a → Ftp H σ Γ m a → False
section
variable {K : Kf} {F : Fm} {I H0 H H0' H' : Hp} {σ : St} {Γ : List Sl}
/-- what own lists are: none of them is lent or stands for good; they are there -/
theorem ft_own {s : Sl} {ov : Option V} {b : Addr} (h : slOk K F H0 H ov s) (f : ft H ov s b) : F.k b = none ∧ H0 b = none ∧ ∃ vs, H b = some (.lst vs) := by
  cases s with
  | own i p xs =>
    obtain ⟨a, vs, e1, e2, e3, e4, e5, e6⟩ := h
    have e : some (V.ref a) = some (V.ref b) := e1.symm.trans f
    cases e
    exact ⟨e3, e4, vs, e5⟩
  | dp i p xss =>
    obtain ⟨a, bs, e1, e2, e3, e4, e5, e6, e7, e8⟩ := h
    rcases f with f | ⟨c, ds, f1, f2, f3⟩
    · have e : some (V.ref a) = some (V.ref b) := e1.symm.trans f
      cases e
      exact ⟨e3, e4, _, e5⟩
    · have e : some (V.ref a) = some (V.ref c) := e1.symm.trans f1
      cases e
      have e9 : bs = ds := refs_inj (by
        have := e5.symm.trans f2
        injection this with this
        injection this)
      subst e9
      obtain ⟨n, hn⟩ := List.getElem?_of_mem f3
      obtain ⟨x, _, q1, q2, vs, q3, _⟩ := prd_getL e8 hn
      exact ⟨q1, q2, vs, q3⟩
  | gn G => exact h.choose_spec.2.2 b f
  | _ => exact f.elim
theorem ft_back {s : Sl} {ov : Option V} {b : Addr} (h : slOk K F H0 H ov s) (hH : ∀ a o, ft H ov s a → H a = some o → H' a = some o) (f : ft H' ov s b) : ft H ov s b := by
  cases s with
  | own i p xs => exact f
  | dp i p xss =>
    rcases f with f | ⟨c, ds, f1, f2, f3⟩
    · exact .inl f
    · obtain ⟨a, bs, e1, e2, e3, e4, e5, e6, e7, e8⟩ := h
      have e : some (V.ref a) = some (V.ref c) := e1.symm.trans f1
      cases e
      have q := (hH _ _ (.inl e1) e5).symm.trans f2
      exact .inr ⟨_, ds, e1, e5.trans q, f3⟩
  | gn G => exact f
  | _ => exact f.elim
theorem ft_isOwn {s : Sl} {ov : Option V} {b : Addr} (h : ft H ov s b) : isOwn (some s) := by
  cases s <;> first | trivial | exact h
theorem ftp_isOwn {n : Nat} {b : Addr} (h : Ftp H σ Γ n b) : isOwn Γ[n]? := by
  obtain ⟨s, ov, e, _, f⟩ := h
  rw [e]
  exact ft_isOwn f
theorem ftp_back (r : SR K F I H0 H σ Γ) (hH : ∀ a n o, Ftp H σ Γ n a → H a = some o → H' a = some o) {n : Nat} {b : Addr} (h : Ftp H' σ Γ n b) : Ftp H σ Γ n b := by
  obtain ⟨s, ov, e1, e2, f⟩ := h
  obtain ⟨ov', q1, q2⟩ := r.ok n s e1
  rw [q1] at e2
  cases e2
  exact ⟨s, ov, e1, q1, ft_back q2 (fun a o z => hH a n o ⟨s, ov, e1, q1, z⟩) f⟩
theorem ftp_own (r : SR K F I H0 H σ Γ) {n : Nat} {b : Addr} (h : Ftp H σ Γ n b) : F.k b = none ∧ H0 b = none ∧ ∃ vs, H b = some (.lst vs) := by
  obtain ⟨s, ov, e1, e2, f⟩ := h
  obtain ⟨ov', q1, q2⟩ := r.ok n s e1
  rw [q1] at e2
  cases e2
  exact ft_own q2 f
theorem fre_of (r : SR K F I H0 H σ Γ) {a : Addr} (ha : H a = none) : Fre H σ Γ a := fun n h => by
  obtain ⟨_, _, vs, e⟩ := ftp_own r h
  rw [ha] at e
  cases e
theorem fre_same (r : SR K F I H0 H σ Γ) (s : Same H H') {a : Addr} (h : Fre H σ Γ a) : Fre H' σ Γ a := fun n f => h n (ftp_back r (fun b _ o _ z => s b o z) f)
theorem ftp_at {α : Type} {i : Rp α} {p : Option Addr} {xs : List α} {n : Nat} {a : Addr} (hn : Γ[n]? = some (.own i p xs)) (ha : σ[n]? = some (some (.ref a))) : Ftp H σ Γ n a := ⟨_, _, hn, ha, rfl⟩
theorem ftp_set {n k : Nat} {s : Sl} {b : Addr} (h : Ftp H σ (Γ.set n s) k b) : (k = n ∧ ∃ ov, σ[k]? = some ov ∧ ft H ov s b) ∨ (k ≠ n ∧ Ftp H σ Γ k b) := by
  obtain ⟨t, ov, e1, e2, f⟩ := h
  rcases get_set e1 with ⟨rfl, rfl⟩ | ⟨hk, e1⟩
  · exact .inl ⟨rfl, ov, e2, f⟩
  · exact .inr ⟨hk, t, ov, e1, e2, f⟩
theorem fre_set (r : SR K F I H0 H σ Γ) {n : Nat} {b : Addr} {s : Sl} (hb : Ftp H σ Γ n b) (hs : ∀ ov c, ¬ ft H ov s c) : Fre H σ (Γ.set n s) b := fun k h => by
  rcases ftp_set h with ⟨_, ov, _, f⟩ | ⟨hk, h⟩
  · exact hs _ _ f
  · exact r.dj k n b hk h hb
theorem fre_un (r : SR K F I H0 H σ Γ) {n : Nat} {b : Addr} (hb : Ftp H σ Γ n b) : Fre H σ (Γ.set n .un) b := fre_set r hb fun _ _ z => z
theorem SR.weak (r : SR K F I H0 H σ Γ) {Γ' : List Sl} (hl : Γ'.length ≤ Γ.length) (h : ∀ (n : Nat) (s : Sl), Γ'[n]? = some s → s = .un ∨ Γ[n]? = some s) : SR K F I H0 H σ Γ' := by
  refine ⟨r.f, r.i, r.g, r.h, Nat.le_trans hl r.len, fun n s e => ?_, fun n m c ne h1 h2 => ?_⟩
  · rcases h n s e with rfl | q
    · have hn : n < Γ'.length := (List.getElem?_eq_some_iff.mp e).1
      have : n < σ.length := Nat.lt_of_lt_of_le hn (Nat.le_trans hl r.len)
      exact ⟨σ[n], List.getElem?_eq_getElem this, trivial⟩
    · exact r.ok n s q
  · have up : ∀ n : Nat, Ftp H σ Γ' n c → Ftp H σ Γ n c := fun n hn => by
      obtain ⟨s, ov, e1, e2, f⟩ := hn
      rcases h n s e1 with rfl | q
      · exact f.elim
      · exact ⟨s, ov, q, e2, f⟩
    exact r.dj n m c ne (up n h1) (up m h2)
/-- the heaps go on, the lists of one's own stay as they are -/
theorem SR.step (r : SR K F I H0 H σ Γ) (e0 : Same H0 H0') (e : Same H H') (e1 : Same H0' H') (g : ∀ a o, H a = some o → H0 a = none → H0' a = none) : SR K F I H0' H' σ Γ := by
  refine ⟨fun a o q => e _ _ (r.f a o q), fun a o q => e0 _ _ (r.i a o q), fun a o q n => g a o (r.f a o q) (r.g a o q n), e1, r.len, fun n s q => ?_, fun n m a ne h1 h2 => r.dj n m a ne (ftp_back r (fun a _ o _ z => e a o z) h1) (ftp_back r (fun a _ o _ z => e a o z) h2)⟩
  obtain ⟨ov, q1, q2⟩ := r.ok n s q
  refine ⟨ov, q1, ?_⟩
  cases s with
  | un => trivial
  | per i x => obtain ⟨v, e2, p⟩ := q2; exact ⟨v, e2, i.mono e0 p⟩
  | bor i x => exact q2
  | bl i x => exact blOk.mono e0 q2
  | own i p xs =>
    obtain ⟨a, vs, e2, e3, e4, e5, e6, e7⟩ := q2
    exact ⟨a, vs, e2, e3, e4, g a _ e6 e5, e a _ e6, prd_mono (fun _ _ r => i.mono e0 r) e7⟩
  | dp i p xss => exact dpOk.mono (p' := p) q2 (fun _ _ z => z) (fun b hb z => let ⟨_, _, vs, w⟩ := ft_own (s := .dp i p xss) q2 hb; g b _ w z) (fun b o _ z => e b o z) fun _ _ z => i.mono e0 z
  | gn G => exact gnOk.mono q2 (fun _ _ z => z) (fun b hb z => let ⟨_, _, vs, w⟩ := ft_own (s := .gn G) q2 hb; g b _ w z) (fun b o _ z => e b o z) fun _ z => G.mono0 e0 z
  | ob a C dx fs =>
    obtain ⟨e2, e3, e4, e5, e6, e7, vs, e8, e9⟩ := q2
    exact ⟨e2, e3, g a _ e8 e4, e5, g dx _ e7 e6, e _ _ e7, vs, e _ _ e8, e9.mono e0⟩
/-- a new thing that stands for good -/
theorem SR.alloc (r : SR K F I H0 H σ Γ) {p : Addr} {o : HO} (hp : H p = none) : SR K F I (upd H0 p o) (upd H p o) σ Γ ∧ Same H0 (upd H0 p o) ∧ Same H (upd H p o) := by
  have h0 : H0 p = none := Same.free r.h hp
  have s0 : Same H0 (upd H0 p o) := fun b u e => by rw [upd_ne (ne_of_none e h0)]; exact e
  have s1 : Same H (upd H p o) := fun b u e => by rw [upd_ne (ne_of_none e hp)]; exact e
  refine ⟨r.step s0 s1 (fun b u e => ?_) (fun a u e n => ?_), s0, s1⟩
  · by_cases hb : b = p
    · subst hb; rw [upd_same] at e ⊢; exact e
    · rw [upd_ne hb] at e ⊢; exact r.h _ _ e
  · rw [upd_ne (ne_of_none e hp)]; exact n
/-- a new thing beside -/
theorem SR.beside (r : SR K F I H0 H σ Γ) {p : Addr} {o : HO} (hp : H p = none) : SR K F I H0 (upd H p o) σ Γ ∧ Same H (upd H p o) := by
  have s1 : Same H (upd H p o) := fun b u e => by rw [upd_ne (ne_of_none e hp)]; exact e
  exact ⟨r.step (Same.refl H0) s1 (fun b u e => s1 _ _ (r.h _ _ e)) (fun a u e n => n), s1⟩
theorem SR.ext (r : SR K F I H0 H σ Γ) (e : Same H H') : SR K F I H0 H' σ Γ := r.step (Same.refl _) e (fun a o q => e _ _ (r.h _ _ q)) fun _ _ _ n => n
/-- a slot is stored -/
theorem SR.set (r : SR K F I H0 H σ Γ) {i : Nat} {v : V} {s : Sl} (hs : slOk K F H0 H (some v) s) (hd : ∀ b, ft H (some v) s b → ∀ m, m ≠ i → ¬ Ftp H σ Γ m b) (hi : i < Γ.length) : SR K F I H0 H (σ.set i (some v)) (Γ.set i s) := by
  have hσ : i < σ.length := Nat.lt_of_lt_of_le hi r.len
  have up : ∀ {k b}, Ftp H (σ.set i (some v)) (Γ.set i s) k b → (k = i ∧ ft H (some v) s b) ∨ (k ≠ i ∧ Ftp H σ Γ k b) := fun {k b} h => by
    rcases ftp_set h with ⟨rfl, ov, e, f⟩ | ⟨hk, t, ov, e1, e2, f⟩
    · rw [List.getElem?_set_self hσ] at e
      cases e
      exact .inl ⟨rfl, f⟩
    · rw [List.getElem?_set_ne (Ne.symm hk)] at e2
      exact .inr ⟨hk, t, ov, e1, e2, f⟩
  refine ⟨r.f, r.i, r.g, r.h, by simpa using r.len, fun n t e => ?_, fun n m a ne h1 h2 => ?_⟩
  · rcases get_set e with ⟨rfl, rfl⟩ | ⟨hn, e⟩
    · exact ⟨some v, List.getElem?_set_self hσ, hs⟩
    · obtain ⟨ov, q1, q2⟩ := r.ok n t e
      exact ⟨ov, by rw [List.getElem?_set_ne (Ne.symm hn)]; exact q1, q2⟩
  · rcases up h1 with ⟨z1, f1⟩ | ⟨z1, f1⟩ <;> rcases up h2 with ⟨z2, f2⟩ | ⟨z2, f2⟩
    · exact ne (z1.trans z2.symm)
    · exact hd a f1 m z2 f2
    · exact hd a f2 n z1 f1
    · exact r.dj n m a ne f1 f2
/-- a list of one's own is changed -/
theorem SR.mut (r : SR K F I H0 H σ Γ) {n : Nat} {α : Type} {i : Rp α} {p : Option Addr} {xs ys : List α} {a : Addr} {ws : List V} (hn : Γ[n]? = some (.own i p xs)) (ha : σ[n]? = some (some (.ref a))) (hy : Prd (i.rep K H0) ws ys) :
    SR K F I H0 (upd H a (.lst ws)) σ (Γ.set n (.own i p ys)) := by
  obtain ⟨ov, q1, b, vs, q2, q3, q4, q5, q6, q7⟩ := r.ok n _ hn
  have eb : a = b := by
    rw [ha] at q1
    rw [q2] at q1
    injection q1 with q1
    injection q1 with q1
    injection q1
  subst eb
  have hl : n < Γ.length := (List.getElem?_eq_some_iff.mp hn).1
  have nf : ∀ {X : Hp} {c : Addr} {o : HO}, X a = none → X c = some o → c ≠ a := fun h1 h2 => ne_of_none h2 h1
  have fa : Ftp H σ Γ n a := ftp_at hn ha
  have off : ∀ {m c}, m ≠ n → Ftp H σ Γ m c → c ≠ a := fun {m c} hm hc z => by
    subst z
    exact r.dj m n c hm hc fa
  have up : ∀ {k c}, Ftp (upd H a (.lst ws)) σ (Γ.set n (.own i p ys)) k c → Ftp H σ Γ k c := fun {k c} h => by
    rcases ftp_set h with ⟨rfl, ov', e, f⟩ | ⟨hk, t, ov', e1, e2, f⟩
    · exact ⟨_, _, hn, e, f⟩
    · obtain ⟨ov2, w1, w2⟩ := r.ok k t e1
      rw [w1] at e2
      cases e2
      exact ⟨t, ov', e1, w1, ft_back w2 (fun d o z1 z2 => by rw [upd_ne (off hk ⟨t, ov', e1, w1, z1⟩)]; exact z2) f⟩
  refine ⟨fun c o e => by rw [upd_ne (nf q4 e)]; exact r.f _ _ e, r.i, r.g, fun c o e => by rw [upd_ne (nf q5 e)]; exact r.h _ _ e, by simpa using r.len, fun m t e => ?_, fun k m c ne h1 h2 => r.dj k m c ne (up h1) (up h2)⟩
  · rcases get_set e with ⟨rfl, rfl⟩ | ⟨hm, e⟩
    · exact ⟨_, ha, a, ws, rfl, q3, q4, q5, upd_same, hy⟩
    · obtain ⟨ov', w1, w2⟩ := r.ok m t e
      refine ⟨ov', w1, ?_⟩
      cases t with
      | un => trivial
      | per j x => exact w2
      | bor j x => exact w2
      | bl j x => exact w2
      | own j p' xs' =>
        obtain ⟨c, vs', w3, w4, w5, w6, w7, w8⟩ := w2
        have nc : c ≠ a := off hm ⟨_, _, e, w1, w3⟩
        exact ⟨c, vs', w3, w4, w5, w6, by rw [upd_ne nc]; exact w7, w8⟩
      | dp j p' xss => exact dpOk.mono (p' := p') w2 (fun _ _ z => z) (fun _ _ z => z) (fun b o hb z => by rw [upd_ne (off hm ⟨_, _, e, w1, hb⟩)]; exact z) fun _ _ z => z
      | gn G => exact gnOk.mono w2 (fun _ _ z => z) (fun _ _ z => z) (fun b o hb z => by rw [upd_ne (off hm ⟨_, _, e, w1, hb⟩)]; exact z) fun _ z => z
      | ob c C dx fs =>
        obtain ⟨w3, w4, w5, w6, w7, w8, vs', w9, w10⟩ := w2
        exact ⟨w3, w4, w5, w6, w7, by rw [upd_ne (ne_of w8 q6 (fun z => nomatch z))]; exact w8, vs', by rw [upd_ne (ne_of w9 q6 (fun z => nomatch z))]; exact w9, w10⟩
/-- a list that nobody owns is changed -/
theorem SR.aside (r : SR K F I H0 H σ Γ) {D : Addr} {ws us : List V} (hF : F.k D = none) (h0 : H0 D = none) (hn : Fre H σ Γ D) (hD : H D = some (.lst ws)) : SR K F I H0 (upd H D (.lst us)) σ Γ ∧ Fre (upd H D (.lst us)) σ Γ D := by
  have off : ∀ {n c}, Ftp H σ Γ n c → c ≠ D := fun h z => by subst z; exact hn _ h
  have up : ∀ {n c}, Ftp (upd H D (.lst us)) σ Γ n c → Ftp H σ Γ n c := fun h => ftp_back r (fun a n o z1 z2 => by rw [upd_ne (off z1)]; exact z2) h
  refine ⟨⟨fun b o e => by rw [upd_ne (ne_of_none e hF)]; exact r.f b o e, r.i, r.g, fun b o e => by rw [upd_ne (ne_of_none e h0)]; exact r.h b o e, r.len, fun n s e => ?_, fun n m a ne h1 h2 => r.dj n m a ne (up h1) (up h2)⟩, fun n h => hn n (up h)⟩
  obtain ⟨ov, q1, q2⟩ := r.ok n s e
  refine ⟨ov, q1, ?_⟩
  cases s with
  | un => trivial
  | per _ _ => exact q2
  | bor _ _ => exact q2
  | bl _ _ => exact q2
  | own i p xs =>
    obtain ⟨b, vs, e2, e3, e4, e5, e6, e7⟩ := q2
    exact ⟨b, vs, e2, e3, e4, e5, by rw [upd_ne (off ⟨_, _, e, q1, e2⟩)]; exact e6, e7⟩
  | dp i p xss => exact dpOk.mono (p' := p) q2 (fun _ _ z => z) (fun _ _ z => z) (fun b o hb z => by rw [upd_ne (off ⟨_, _, e, q1, hb⟩)]; exact z) fun _ _ z => z
  | gn G => exact gnOk.mono q2 (fun _ _ z => z) (fun _ _ z => z) (fun b o hb z => by rw [upd_ne (off ⟨_, _, e, q1, hb⟩)]; exact z) fun _ z => z
  | ob b C dx fs =>
    obtain ⟨e2, e3, e4, e5, e6, e7, us', e8, e9⟩ := q2
    exact ⟨e2, e3, e4, e5, e6, by rw [upd_ne (ne_of e7 hD (fun z => nomatch z))]; exact e7, us', by rw [upd_ne (ne_of e8 hD (fun z => nomatch z))]; exact e8, e9⟩
end

/-! ### what expressions, tests, arguments are worth -/
/-- m: lists of one's own may be changed on the way; p: the value stands for good (else: as the heap is now) -/
def E (K : Kf) (m p : Bool) (te : TE) (Γ Γ' : List Sl) {α : Type} [Rp α] (x : α) : Prop :=
  ∀ (F : Fm) (I H0 H : Hp) (σ : St), SR K F I H0 H σ Γ → ∀ Q : VK, (∀ v H0' H', SR K F I H0' H' σ Γ' → Same H0 H0' → (m = false → Same H H') → rep K (if p = true then H0' else H') v x → Q v H') → te σ H Q
def Tt (K : Kf) (m : Bool) (tt : TT) (Γ Γ' : List Sl) (b : Bool) : Prop :=
  ∀ (F : Fm) (I H0 H : Hp) (σ : St), SR K F I H0 H σ Γ → ∀ Q : Bool → Hp → Prop, (∀ H0' H', SR K F I H0' H' σ Γ' → Same H0 H0' → (m = false → Same H H') → Q b H') → tt σ H Q
inductive Ar : Type 1
  | per {α : Type} (i : Rp α) (x : α)
  | bor {α : Type} (i : Rp α) (x : α)
  | bl {α : Type} (i : Rp α) (xs : List α)
  | slot (n : Nat)
@[reducible] def ap {α : Type} [i : Rp α] (x : α) : Ar := .per i x
@[reducible] def ab {α : Type} [i : Rp α] (x : α) : Ar := .bor i x
def arOk (K : Kf) (H0 H : Hp) (σ : St) (v : V) : Ar → Prop
  | .per i x => i.rep K H0 v x
  | .bor i x => i.rep K H v x
  | .bl i xs => ∃ a vs, v = .ref a ∧ H a = some (.lst vs) ∧ Prd (i.rep K H0) vs xs
  | .slot n => σ[n]? = some (some v)
def A (K : Kf) (m : Bool) (ta : TA) (Γ Γ' : List Sl) (as : List Ar) : Prop :=
  ∀ (F : Fm) (I H0 H : Hp) (σ : St), SR K F I H0 H σ Γ → ∀ Q : List V → Hp → Prop, (∀ vs H0' H', SR K F I H0' H' σ Γ' → Same H0 H0' → (m = false → Same H H') → Prd (arOk K H0' H' σ) vs as → Q vs H') → ta σ H Q
section
variable {K : Kf} {m m1 m2 m3 p p1 p2 : Bool} {te ta tb tc : TE} {tt : TT} {Γ Γ1 Γ2 Γ3 : List Sl}
theorem same_mm {m1 m2 : Bool} {H H1 H2 : Hp} (a : m1 = false → Same H H1) (b : m2 = false → Same H1 H2) : (m1 || m2) = false → Same H H2 := fun h => by
  rw [Bool.or_eq_false_iff] at h
  exact (a h.1).trans (b h.2)
theorem E.sc {α : Type} [i : Rp α] [s : Sc α] {x : α} (h : E K m p te Γ Γ1 x) : E K m true te Γ Γ1 x := fun F I H0 H σ r Q q => h F I H0 H σ r Q fun v H0' H' r' a b c => q v H0' H' r' a b (s.any c)
/-- what stands for good stands now -/
theorem E.now {α : Type} [i : Rp α] {x : α} (h : E K m true te Γ Γ1 x) : E K m false te Γ Γ1 x := fun F I H0 H σ r Q q => h F I H0 H σ r Q fun v H0' H' r' a b c => q v H0' H' r' a b (i.mono r'.h (by simpa using c))
theorem E.nowP {α : Type} [i : Rp α] {x : α} (h : E K m p te Γ Γ1 x) : E K m false te Γ Γ1 x := by
  cases p with
  | true => exact h.now
  | false => exact h
theorem e_var {α : Type} [i : Rp α] {x : α} {n : Nat} (hn : Γ[n]? = some (.per i x)) : E K false true (tVar n) Γ Γ x := fun F I H0 H σ r Q q => by
  obtain ⟨ov, e1, v, e2, e3⟩ := r.ok n _ hn
  subst e2
  exact ⟨v, e1, q v H0 H r (Same.refl _) (fun _ => Same.refl _) e3⟩
theorem e_varB {α : Type} [i : Rp α] {x : α} {n : Nat} (hn : Γ[n]? = some (.bor i x)) : E K false false (tVar n) Γ Γ x := fun F I H0 H σ r Q q => by
  obtain ⟨ov, e1, v, e2, e3⟩ := r.ok n _ hn
  subst e2
  exact ⟨v, e1, q v H0 H r (Same.refl _) (fun _ => Same.refl _) (i.mono (F.sub.trans r.f) e3)⟩
/-- a list of one's own, read -/
theorem e_varO {α : Type} [i : Rp α] {xs : List α} {n : Nat} {a : Option Addr} (hn : Γ[n]? = some (.own i a xs)) : E K false false (tVar n) Γ Γ xs := fun F I H0 H σ r Q q => by
  obtain ⟨ov, e1, b, vs, e2, e3, e4, e5, e6, e7⟩ := r.ok n _ hn
  subst e2
  exact ⟨.ref b, e1, q _ H0 H r (Same.refl _) (fun _ => Same.refl _) ⟨b, vs, rfl, e6, prd_mono (fun _ _ z => i.mono r.h z) e7⟩⟩
theorem e_c {α : Type} [i : Rp α] {x : α} {v : V} (h : ∀ K H, i.rep K H v x) : E K false true (tC v) Γ Γ x := fun F I H0 H σ r Q q => q v H0 H r (Same.refl _) (fun _ => Same.refl _) (h _ _)
theorem e_int {n : Int} : E K false true (tC (.int n)) Γ Γ n := e_c fun _ _ => rfl
theorem e_bl {b : Bool} : E K false true (tC (.bl b)) Γ Γ b := e_c fun _ _ => rfl
theorem e_str {x : PySem.Str} : E K false true (tC (.str x)) Γ Γ x := e_c fun _ _ => rfl
theorem e_non {α : Type} [Rp α] : E K false true (tC .non) Γ Γ (none : Option α) := e_c fun _ _ => rfl
theorem e_unit : E K false true (tC .non) Γ Γ () := e_c fun _ _ => rfl
theorem e_some {α : Type} [i : Rp α] {x : α} (h : E K m p te Γ Γ1 x) (hz : ∀ K H, ¬ i.rep K H .non x) : E K m p te Γ Γ1 (some x) := fun F I H0 H σ r Q q => h F I H0 H σ r Q fun v H0' H' r' a b c => q v H0' H' r' a b ⟨fun e => hz _ _ (e ▸ c), c⟩
/-- an operator on two values -/
theorem e_op {α β γ : Type} [i : Rp α] [j : Rp β] [k : Rp γ] [Sc γ] {r2 : R2} {x : α} {y : β} {z : γ} (ha : E K m1 true ta Γ Γ1 x) (hb : E K m2 true tb Γ1 Γ2 y)
    (hr : ∀ v w H0 H Q, i.rep K H0 v x → j.rep K H0 w y → Same H0 H → (∀ u, (∀ H, k.rep K H u z) → Q u H) → r2 v w H Q) : E K (m1 || m2) true (tOp r2 ta tb) Γ Γ2 z := fun F I H0 H σ r Q q =>
  ha F I H0 H σ r _ fun v H1 H1' r1 a1 b1 c1 => hb F I H1 H1' σ r1 _ fun w H2 H2' r2' a2 b2 c2 => hr v w H2 H2' Q (i.mono a2 c1) c2 r2'.h fun u hu => q u H2 H2' r2' (a1.trans a2) (same_mm b1 b2) (hu _)
/-- .. where one reads what stands now -/
theorem e_opB {α β γ : Type} [i : Rp α] [j : Rp β] [k : Rp γ] [Sc γ] {r2 : R2} {x : α} {y : β} {z : γ} (ha : E K m1 p1 ta Γ Γ1 x) (hb : E K false p2 tb Γ1 Γ2 y)
    (hr : ∀ v w H Q, i.rep K H v x → j.rep K H w y → (∀ u, (∀ H, k.rep K H u z) → Q u H) → r2 v w H Q) : E K m1 true (tOp r2 ta tb) Γ Γ2 z := fun F I H0 H σ r Q q =>
  ha.nowP F I H0 H σ r _ fun v H1 H1' r1 a1 b1 c1 => hb.nowP F I H1 H1' σ r1 _ fun w H2 H2' r2' a2 b2 c2 => hr v w H2' Q (i.mono (b2 rfl) c1) c2 fun u hu => q u H2 H2' r2' (a1.trans a2) (fun h => (b1 h).trans (b2 rfl)) (hu _)
end
end FF

set_option Elab.async false
set_option linter.all false
set_option maxRecDepth 100000
set_option maxHeartbeats 2000000
namespace FF
open PySem L2
/-! ### items and slices, by ints -/
def gi {α : Type} [Inhabited α] (xs : List α) (i : Int) : α := if 0 ≤ i then xs.getD i.toNat default else xs.getD (i + xs.length).toNat default
def gs {α : Type} (xs : List α) (lo hi : Option Int) : List α :=
  let a := match lo with | none => 0 | some v => if v < 0 then (v + (xs.length : Int)).toNat else min v.toNat xs.length
  let b := match hi with | none => xs.length | some v => if v < 0 then (v + (xs.length : Int)).toNat else min v.toNat xs.length
  (xs.drop a).take (b - a)
def ls {α : Type} (xs : List α) (i : Int) (x : α) : List α := if 0 ≤ i then xs.set i.toNat x else xs.set (i + xs.length).toNat x
def rng (lo hi : Int) : List Int := (List.range (hi - lo).toNat).map fun k : Nat => lo + (k : Int)
section
variable {K : Kf} {m m1 m2 m3 p p1 p2 p3 : Bool} {te ta tb tc : TE} {tt tu : TT} {Γ Γ1 Γ2 Γ3 : List Sl}
/-! ### ints -/
theorem e_i0 {γ : Type} [k : Rp γ] {g : Int → Int → V} {x y : Int} {z : γ} (ha : E K m1 p1 ta Γ Γ1 x) (hb : E K m2 p2 tb Γ1 Γ2 y) (hz : ∀ H, k.rep K H (g x y) z) : E K (m1 || m2) true (tOp (rI0 g) ta tb) Γ Γ2 z := fun F I H0 H σ r Q q =>
  ha.sc F I H0 H σ r _ fun v H1 H1' r1 a1 b1 c1 => hb.sc F I H1 H1' σ r1 _ fun w H2 H2' r2' a2 b2 c2 => by
    subst c1; subst c2
    exact ⟨x, y, rfl, rfl, q _ H2 H2' r2' (a1.trans a2) (same_mm b1 b2) (hz _)⟩
theorem e_i {γ : Type} [k : Rp γ] {C : Int → Int → Prop} {g : Int → Int → V} {x y : Int} {z : γ} (ha : E K m1 p1 ta Γ Γ1 x) (hb : E K m2 p2 tb Γ1 Γ2 y) (hc : C x y) (hz : ∀ H, k.rep K H (g x y) z) : E K (m1 || m2) true (tOp (rI C g) ta tb) Γ Γ2 z := fun F I H0 H σ r Q q =>
  ha.sc F I H0 H σ r _ fun v H1 H1' r1 a1 b1 c1 => hb.sc F I H1 H1' σ r1 _ fun w H2 H2' r2' a2 b2 c2 => by
    subst c1; subst c2
    exact ⟨x, y, rfl, rfl, hc, q _ H2 H2' r2' (a1.trans a2) (same_mm b1 b2) (hz _)⟩
theorem e_add {x y : Int} (ha : E K m1 p1 ta Γ Γ1 x) (hb : E K m2 p2 tb Γ1 Γ2 y) : E K (m1 || m2) true (tOp (rI0 fun i j => .int (i + j)) ta tb) Γ Γ2 (x + y) := e_i0 ha hb fun _ => rfl
theorem e_sub {x y : Int} (ha : E K m1 p1 ta Γ Γ1 x) (hb : E K m2 p2 tb Γ1 Γ2 y) : E K (m1 || m2) true (tOp (rI0 fun i j => .int (i - j)) ta tb) Γ Γ2 (x - y) := e_i0 ha hb fun _ => rfl
theorem e_mul {x y : Int} (ha : E K m1 p1 ta Γ Γ1 x) (hb : E K m2 p2 tb Γ1 Γ2 y) (hc : (-(2 ^ 64) < x ∧ x < 2 ^ 64) ∨ (-(2 ^ 64) < y ∧ y < 2 ^ 64)) : E K (m1 || m2) true (tOp (rI CMul fun i j => .int (i * j)) ta tb) Γ Γ2 (x * y) := e_i ha hb hc fun _ => rfl
theorem e_mod {x y : Int} (ha : E K m1 p1 ta Γ Γ1 x) (hb : E K m2 p2 tb Γ1 Γ2 y) (hc : 0 < y) : E K (m1 || m2) true (tOp (rI (fun _ j => 0 < j) fun i j => .int (i % j)) ta tb) Γ Γ2 (x % y) := e_i ha hb hc fun _ => rfl
theorem e_div {x y : Int} (ha : E K m1 p1 ta Γ Γ1 x) (hb : E K m2 p2 tb Γ1 Γ2 y) (hc : 0 < y ∧ y.natAbs < 2 ^ 9000) : E K (m1 || m2) true (tOp (rI CDivW fun i j => .int (i / j)) ta tb) Γ Γ2 (x / y) := e_i ha hb (wide_div hc.1 hc.2 (by decide) (by decide)) fun _ => rfl
theorem e_pow {x y : Int} (ha : E K m1 p1 ta Γ Γ1 x) (hb : E K m2 p2 tb Γ1 Γ2 y) (hc : 0 ≤ y ∧ y ≤ 1000000 ∧ x.natAbs < 2 ^ 64) : E K (m1 || m2) true (tOp (rI CPow fun i j => .int (i ^ j.toNat)) ta tb) Γ Γ2 (x ^ y.toNat) := e_i ha hb hc fun _ => rfl
theorem e_neg {x : Int} (ha : E K m p ta Γ Γ1 x) : E K m true (tUn (rU fun i => .int (-i)) ta) Γ Γ1 (-x) := fun F I H0 H σ r Q q =>
  ha.sc F I H0 H σ r _ fun v H1 H1' r1 a1 b1 c1 => by subst c1; exact ⟨x, rfl, q _ H1 H1' r1 a1 b1 rfl⟩
theorem e_lt {x y : Int} (ha : E K m1 p1 ta Γ Γ1 x) (hb : E K m2 p2 tb Γ1 Γ2 y) : E K (m1 || m2) true (tOp (rI0 fun i j => .bl (decide (i < j))) ta tb) Γ Γ2 (decide (x < y)) := e_i0 ha hb fun _ => rfl
theorem e_le {x y : Int} (ha : E K m1 p1 ta Γ Γ1 x) (hb : E K m2 p2 tb Γ1 Γ2 y) : E K (m1 || m2) true (tOp (rI0 fun i j => .bl (decide (i ≤ j))) ta tb) Γ Γ2 (decide (x ≤ y)) := e_i0 ha hb fun _ => rfl
theorem e_gt {x y : Int} (ha : E K m1 p1 ta Γ Γ1 x) (hb : E K m2 p2 tb Γ1 Γ2 y) : E K (m1 || m2) true (tOp (rI0 fun i j => .bl (decide (j < i))) ta tb) Γ Γ2 (decide (x > y)) := e_i0 ha hb fun _ => rfl
theorem e_ge {x y : Int} (ha : E K m1 p1 ta Γ Γ1 x) (hb : E K m2 p2 tb Γ1 Γ2 y) : E K (m1 || m2) true (tOp (rI0 fun i j => .bl (decide (j ≤ i))) ta tb) Γ Γ2 (decide (x ≥ y)) := e_i0 ha hb fun _ => rfl
/-! ### equality of scalars; None -/
class Eqs (α : Type) [i : Rp α] [DecidableEq α] : Prop where
  eq : ∀ {K : Kf} {H H' : Hp} {v w : V} {x y : α}, i.rep K H v x → i.rep K H' w y → scal v w = true ∧ decide (v = w) = decide (x = y)
instance : Eqs Int := ⟨fun a b => by subst a; subst b; exact ⟨rfl, by simp⟩⟩
instance : Eqs Bool := ⟨fun a b => by subst a; subst b; exact ⟨rfl, by simp⟩⟩
instance : Eqs PySem.Str := ⟨fun a b => by subst a; subst b; exact ⟨rfl, by simp⟩⟩
instance : Eqs (Option Int) := ⟨fun {K H H' v w x y} a b => by
  cases x with
  | none =>
    cases y with
    | none => subst a; subst b; exact ⟨rfl, by simp⟩
    | some y => subst a; obtain ⟨_, rfl⟩ := b; exact ⟨rfl, by simp⟩
  | some x =>
    obtain ⟨_, rfl⟩ := a
    cases y with
    | none => subst b; exact ⟨rfl, by simp⟩
    | some y => obtain ⟨_, rfl⟩ := b; exact ⟨rfl, by simp⟩⟩
instance : Eqs (Option PySem.Str) := ⟨fun {K H H' v w x y} a b => by
  cases x with
  | none =>
    cases y with
    | none => subst a; subst b; exact ⟨rfl, by simp⟩
    | some y => subst a; obtain ⟨_, rfl⟩ := b; exact ⟨rfl, by simp⟩
  | some x =>
    obtain ⟨_, rfl⟩ := a
    cases y with
    | none => subst b; exact ⟨rfl, by simp⟩
    | some y => obtain ⟨_, rfl⟩ := b; exact ⟨rfl, by simp⟩⟩
theorem e_eq {α : Type} [i : Rp α] [Sc α] [DecidableEq α] [Eqs α] {x y : α} (ha : E K m1 p1 ta Γ Γ1 x) (hb : E K m2 p2 tb Γ1 Γ2 y) : E K (m1 || m2) true (tOp rEq ta tb) Γ Γ2 (decide (x = y)) := fun F I H0 H σ r Q q =>
  ha.sc F I H0 H σ r _ fun v H1 H1' r1 a1 b1 c1 => hb.sc F I H1 H1' σ r1 _ fun w H2 H2' r2' a2 b2 c2 => by
    obtain ⟨e1, e2⟩ := Eqs.eq (H := H1) (H' := H2) c1 c2
    exact ⟨e1, q _ H2 H2' r2' (a1.trans a2) (same_mm b1 b2) (congrArg V.bl e2)⟩
theorem e_ne {α : Type} [i : Rp α] [Sc α] [DecidableEq α] [Eqs α] {x y : α} (ha : E K m1 p1 ta Γ Γ1 x) (hb : E K m2 p2 tb Γ1 Γ2 y) : E K (m1 || m2) true (tOp rNe ta tb) Γ Γ2 (!decide (x = y)) := fun F I H0 H σ r Q q =>
  ha.sc F I H0 H σ r _ fun v H1 H1' r1 a1 b1 c1 => hb.sc F I H1 H1' σ r1 _ fun w H2 H2' r2' a2 b2 c2 => by
    obtain ⟨e1, e2⟩ := Eqs.eq (H := H1) (H' := H2) c1 c2
    exact ⟨e1, q _ H2 H2' r2' (a1.trans a2) (same_mm b1 b2) (by rw [e2]; rfl)⟩
/-- a datum that may be None, or not (the text is the same) -/
theorem e_isN {α : Type} [i : Rp α] {x : Option α} (ha : E K m p ta Γ Γ1 x) : E K m true (tIsN ta) Γ Γ1 x.isNone := fun F I H0 H σ r Q q =>
  ha.nowP F I H0 H σ r _ fun v H1 H1' r1 a1 b1 c1 => by
    cases x with
    | none =>
      have e : v = .non := c1
      subst e
      exact q _ H1 H1' r1 a1 b1 rfl
    | some y =>
      have e : v ≠ .non := c1.1
      exact q _ H1 H1' r1 a1 b1 (by rw [decide_eq_false e]; rfl)
theorem e_notN {α : Type} [i : Rp α] {x : Option α} (ha : E K m p ta Γ Γ1 x) : E K m true (tNotN ta) Γ Γ1 x.isSome := fun F I H0 H σ r Q q =>
  ha.nowP F I H0 H σ r _ fun v H1 H1' r1 a1 b1 c1 => by
    cases x with
    | none =>
      have e : v = .non := c1
      subst e
      exact q _ H1 H1' r1 a1 b1 rfl
    | some y =>
      have e : v ≠ .non := c1.1
      exact q _ H1 H1' r1 a1 b1 (by rw [decide_eq_false e]; rfl)
/-- what is known not to be None -/
theorem e_the {α : Type} [i : Rp α] [Inhabited α] {x : Option α} (ha : E K m p ta Γ Γ1 x) (h : x.isSome = true) : E K m p ta Γ Γ1 (x.getD default) := fun F I H0 H σ r Q q =>
  ha F I H0 H σ r _ fun v H1 H1' r1 a1 b1 c1 => by
    cases x with
    | none => cases h
    | some y => exact q _ H1 H1' r1 a1 b1 c1.2
theorem not_non_int {K : Kf} {H : Hp} {x : Int} : ¬ rep K H .non x := fun h => nomatch h
/-! ### tests -/
theorem t_test {b : Bool} (h : E K m p te Γ Γ1 b) : Tt K m (tTest te) Γ Γ1 b := fun F I H0 H σ r Q q => h.sc F I H0 H σ r _ fun v H1 H1' r1 a1 b1 c1 => ⟨b, c1, q H1 H1' r1 a1 b1⟩
theorem t_B {b : Bool} (h : E K m p te Γ Γ1 b) : Tt K m (tB te) Γ Γ1 b := fun F I H0 H σ r Q q => h.sc F I H0 H σ r _ fun v H1 H1' r1 a1 b1 c1 => ⟨b, c1, q H1 H1' r1 a1 b1⟩
theorem t_and {a b : Bool} (h1 : Tt K m1 tt Γ Γ a) (h2 : a = true → Tt K m2 tu Γ Γ b) : Tt K (m1 || m2) (tAnd tt tu) Γ Γ (a && b) := fun F I H0 H σ r Q q => h1 F I H0 H σ r _ fun H1 H1' r1 a1 b1 => by
  cases a with
  | true => exact h2 rfl F I H1 H1' σ r1 _ fun H2 H2' r2 a2 b2 => q H2 H2' r2 (a1.trans a2) (same_mm b1 b2)
  | false => exact q H1 H1' r1 a1 fun h => b1 (Bool.or_eq_false_iff.mp h).1
theorem t_or {a b : Bool} (h1 : Tt K m1 tt Γ Γ a) (h2 : a = false → Tt K m2 tu Γ Γ b) : Tt K (m1 || m2) (tOr tt tu) Γ Γ (a || b) := fun F I H0 H σ r Q q => h1 F I H0 H σ r _ fun H1 H1' r1 a1 b1 => by
  cases a with
  | false => exact h2 rfl F I H1 H1' σ r1 _ fun H2 H2' r2 a2 b2 => q H2 H2' r2 (a1.trans a2) (same_mm b1 b2)
  | true => exact q H1 H1' r1 a1 fun h => b1 (Bool.or_eq_false_iff.mp h).1
theorem t_not {a : Bool} (h1 : Tt K m tt Γ Γ1 a) : Tt K m (tNot tt) Γ Γ1 (!a) := fun F I H0 H σ r Q q => h1 F I H0 H σ r _ q
theorem e_and {a b : Bool} (h1 : E K m1 p1 ta Γ Γ a) (h2 : a = true → E K m2 p2 tb Γ Γ b) : E K (m1 || m2) true (tAndV ta tb) Γ Γ (a && b) := fun F I H0 H σ r Q q => h1.sc F I H0 H σ r _ fun v H1 H1' r1 a1 b1 c1 => ⟨a, c1, by
  cases a with
  | true => exact (h2 rfl).sc F I H1 H1' σ r1 _ fun w H2 H2' r2 a2 b2 c2 => q w H2 H2' r2 (a1.trans a2) (same_mm b1 b2) c2
  | false => exact q _ H1 H1' r1 a1 (fun h => b1 (Bool.or_eq_false_iff.mp h).1) rfl⟩
theorem e_or {a b : Bool} (h1 : E K m1 p1 ta Γ Γ a) (h2 : a = false → E K m2 p2 tb Γ Γ b) : E K (m1 || m2) true (tOrV ta tb) Γ Γ (a || b) := fun F I H0 H σ r Q q => h1.sc F I H0 H σ r _ fun v H1 H1' r1 a1 b1 c1 => ⟨a, c1, by
  cases a with
  | false => exact (h2 rfl).sc F I H1 H1' σ r1 _ fun w H2 H2' r2 a2 b2 c2 => q w H2 H2' r2 (a1.trans a2) (same_mm b1 b2) c2
  | true => exact q _ H1 H1' r1 a1 (fun h => b1 (Bool.or_eq_false_iff.mp h).1) rfl⟩
theorem e_not {a : Bool} (h1 : E K m p ta Γ Γ1 a) : E K m true (tNotV ta) Γ Γ1 (!a) := fun F I H0 H σ r Q q => h1.sc F I H0 H σ r _ fun v H1 H1' r1 a1 b1 c1 => ⟨a, c1, q _ H1 H1' r1 a1 b1 rfl⟩
theorem e_if {α : Type} [Rp α] {b : Bool} {x y : α} (h : Tt K m1 tt Γ Γ1 b) (h1 : b = true → E K m2 p ta Γ1 Γ2 x) (h2 : b = false → E K m3 p tb Γ1 Γ2 y) : E K (m1 || (m2 || m3)) p (tIf tt ta tb) Γ Γ2 (if b = true then x else y) := fun F I H0 H σ r Q q => h F I H0 H σ r _ fun H1 H1' r1 a1 b1 => by
  cases b with
  | true => exact h1 rfl F I H1 H1' σ r1 _ fun v H2 H2' r2 a2 b2 c2 => q v H2 H2' r2 (a1.trans a2) (same_mm b1 fun h => b2 (Bool.or_eq_false_iff.mp h).1) c2
  | false => exact h2 rfl F I H1 H1' σ r1 _ fun v H2 H2' r2 a2 b2 c2 => q v H2 H2' r2 (a1.trans a2) (same_mm b1 fun h => b2 (Bool.or_eq_false_iff.mp h).2) c2
/-- chains: a < b < c; a < b < c < d -/
theorem e_chain {f g : Int → Int → Bool} {x y z : Int} (ha : E K false p1 ta Γ Γ x) (hb : E K false p2 tb Γ Γ y) (hc : E K false p3 tc Γ Γ z) :
    E K false true (tChain (rI0 fun i j => .bl (f i j)) (rI0 fun i j => .bl (g i j)) ta tb tc) Γ Γ (f x y && g y z) := fun F I H0 H σ r Q q =>
  ha.sc F I H0 H σ r _ fun v H1 H1' r1 a1 b1 c1 => hb.sc F I H1 H1' σ r1 _ fun w H2 H2' r2 a2 b2 c2 => by
    subst c1; subst c2
    refine ⟨x, y, rfl, rfl, f x y, rfl, ?_⟩
    cases e : f x y with
    | true =>
      rw [if_pos rfl]
      exact hc.sc F I H2 H2' σ r2 _ fun u H3 H3' r3 a3 b3 c3 => by
        subst c3
        refine ⟨y, z, rfl, rfl, q _ H3 H3' r3 ((a1.trans a2).trans a3) (fun _ => ((b1 rfl).trans (b2 rfl)).trans (b3 rfl)) ?_⟩
        rw [e]
        rfl
    | false =>
      rw [if_neg (by decide)]
      refine q _ H2 H2' r2 (a1.trans a2) (fun _ => (b1 rfl).trans (b2 rfl)) ?_
      rw [e]
      rfl

/-! ### argument lists, displays -/
theorem a_nil : A K false tNil Γ Γ [] := fun F I H0 H σ r Q q => q [] H0 H r (Same.refl _) (fun _ => Same.refl _) .nil
theorem ar_mono {K : Kf} {H0 H H0' H' : Hp} {σ : St} {v : V} {a : Ar} (e0 : Same H0 H0') (e : Same H H') (h : arOk K H0 H σ v a) : arOk K H0' H' σ v a := by
  cases a with
  | per i x => exact i.mono e0 h
  | bor i x => exact i.mono e h
  | bl i x => obtain ⟨a, vs, e1, e2, e3⟩ := h; exact ⟨a, vs, e1, e _ _ e2, prd_mono (fun _ _ z => i.mono e0 z) e3⟩
  | slot n => exact h
theorem a_per {α : Type} [i : Rp α] {x : α} {t : TA} {as : List Ar} (h : E K m1 true te Γ Γ1 x) (hr : A K m2 t Γ1 Γ2 as) : A K (m1 || m2) (tCons te t) Γ Γ2 (ap x :: as) := fun F I H0 H σ r Q q =>
  h F I H0 H σ r _ fun v H1 H1' r1 a1 b1 c1 => hr F I H1 H1' σ r1 _ fun vs H2 H2' r2 a2 b2 c2 => q _ H2 H2' r2 (a1.trans a2) (same_mm b1 b2) (.cons (i.mono a2 c1) c2)
theorem a_bor {α : Type} [i : Rp α] {x : α} {t : TA} {as : List Ar} (h : E K m1 p te Γ Γ1 x) (hr : A K false t Γ1 Γ2 as) : A K m1 (tCons te t) Γ Γ2 (ab x :: as) := fun F I H0 H σ r Q q =>
  h.nowP F I H0 H σ r _ fun v H1 H1' r1 a1 b1 c1 => hr F I H1 H1' σ r1 _ fun vs H2 H2' r2 a2 b2 c2 => q _ H2 H2' r2 (a1.trans a2) (fun z => (b1 z).trans (b2 rfl)) (.cons (i.mono (b2 rfl) c1) c2)
theorem a_slot {n : Nat} {t : TA} {as : List Ar} {α : Type} {i : Rp α} {a : Option Addr} {xs : List α} (hn : Γ[n]? = some (.own i a xs)) (hr : A K m t Γ Γ1 as) : A K m (tCons (tVar n) t) Γ Γ1 (.slot n :: as) := fun F I H0 H σ r Q q => by
  obtain ⟨ov, e1, b, vs, e2, _⟩ := r.ok n _ hn
  subst e2
  exact ⟨.ref b, e1, hr F I H0 H σ r _ fun vs H2 H2' r2 a2 b2 c2 => q _ H2 H2' r2 a2 b2 (.cons e1 c2)⟩
/-- the arguments' data are like one another -/
inductive Lk {α : Type} (i : Rp α) : List Ar → List α → Prop
  | nil : Lk i [] []
  | cons {as xs} (x : α) : Lk i as xs → Lk i (.per i x :: as) (x :: xs)
theorem Lk.prd {α : Type} {i : Rp α} {K : Kf} {H0 H : Hp} {σ : St} : ∀ {as : List Ar} {xs : List α} {vs : List V}, Lk i as xs → Prd (arOk K H0 H σ) vs as → Prd (i.rep K H0) vs xs
  | _, _, _, .nil, .nil => .nil
  | _, _, _, .cons x l, .cons h t => .cons h (l.prd t)
/-- [a, b, ..] that stands for good -/
theorem e_lst {α : Type} [i : Rp α] {t : TA} {as : List Ar} {xs : List α} (h : A K m t Γ Γ1 as) (l : Lk i as xs) (hz : xs.length ≤ 100000 := by exact Nat.le_of_ble_eq_true rfl) : E K m true (tLst t) Γ Γ1 xs := fun F I H0 H σ r Q q =>
  h F I H0 H σ r _ fun vs H1 H1' r1 a1 b1 c1 => by
    have c := l.prd c1
    refine ⟨by rw [prd_len c]; exact Nat.le_trans hz (by decide), fun p hp => ?_⟩
    obtain ⟨r2, s0, s1⟩ := r1.alloc (o := .lst vs) hp
    exact q _ _ _ r2 (a1.trans s0) (fun z => (b1 z).trans s1) ⟨p, vs, rfl, upd_same, prd_mono (fun _ _ z => i.mono s0 z) c⟩
theorem e_tu {α : Type} [i : Rp α] {t : TA} {as : List Ar} {xs : List α} (h : A K m t Γ Γ1 as) (l : Lk i as xs) (hz : xs.length ≤ 100000 := by exact Nat.le_of_ble_eq_true rfl) : E K m true (tTup t) Γ Γ1 (Tu.mk xs) := fun F I H0 H σ r Q q =>
  h F I H0 H σ r _ fun vs H1 H1' r1 a1 b1 c1 => by
    have c := l.prd c1
    refine ⟨by rw [prd_len c]; exact Nat.le_trans hz (by decide), fun p hp => ?_⟩
    obtain ⟨r2, s0, s1⟩ := r1.alloc (o := .tup vs) hp
    exact q _ _ _ r2 (a1.trans s0) (fun z => (b1 z).trans s1) ⟨p, vs, rfl, SqT.of upd_same, prd_mono (fun _ _ z => i.mono s0 z) c⟩
theorem e_t2 {α β : Type} [i : Rp α] [j : Rp β] {t : TA} {x : α} {y : β} (h : A K m t Γ Γ1 [ap x, ap y]) : E K m true (tTup t) Γ Γ1 (x, y) := fun F I H0 H σ r Q q =>
  h F I H0 H σ r _ fun vs H1 H1' r1 a1 b1 c1 => by
    cases c1 with | cons z1 c1 => cases c1 with | cons z2 c1 => cases c1 with | nil =>
    refine ⟨by show 2 ≤ sizeLine; decide, fun p hp => ?_⟩
    obtain ⟨r2, s0, s1⟩ := r1.alloc (o := .tup _) hp
    exact q _ _ _ r2 (a1.trans s0) (fun z => (b1 z).trans s1) ⟨p, _, _, rfl, SqT.of upd_same, i.mono s0 z1, j.mono s0 z2⟩
theorem e_t3 {α β γ : Type} [i : Rp α] [j : Rp β] [k : Rp γ] {t : TA} {x : α} {y : β} {z : γ} (h : A K m t Γ Γ1 [ap x, ap y, ap z]) : E K m true (tTup t) Γ Γ1 (T3.mk x y z) := fun F I H0 H σ r Q q =>
  h F I H0 H σ r _ fun vs H1 H1' r1 a1 b1 c1 => by
    cases c1 with | cons z1 c1 => cases c1 with | cons z2 c1 => cases c1 with | cons z3 c1 => cases c1 with | nil =>
    refine ⟨by show 3 ≤ sizeLine; decide, fun p hp => ?_⟩
    obtain ⟨r2, s0, s1⟩ := r1.alloc (o := .tup _) hp
    exact q _ _ _ r2 (a1.trans s0) (fun z => (b1 z).trans s1) ⟨p, _, _, _, rfl, SqT.of upd_same, i.mono s0 z1, j.mono s0 z2, k.mono s0 z3⟩
theorem e_t4 {α β γ δ : Type} [i : Rp α] [j : Rp β] [k : Rp γ] [l : Rp δ] {t : TA} {x : α} {y : β} {z : γ} {w : δ} (h : A K m t Γ Γ1 [ap x, ap y, ap z, ap w]) : E K m true (tTup t) Γ Γ1 (T4.mk x y z w) := fun F I H0 H σ r Q q =>
  h F I H0 H σ r _ fun vs H1 H1' r1 a1 b1 c1 => by
    cases c1 with | cons z1 c1 => cases c1 with | cons z2 c1 => cases c1 with | cons z3 c1 => cases c1 with | cons z4 c1 => cases c1 with | nil =>
    refine ⟨by show 4 ≤ sizeLine; decide, fun p hp => ?_⟩
    obtain ⟨r2, s0, s1⟩ := r1.alloc (o := .tup _) hp
    exact q _ _ _ r2 (a1.trans s0) (fun z => (b1 z).trans s1) ⟨p, _, _, _, _, rfl, SqT.of upd_same, i.mono s0 z1, j.mono s0 z2, k.mono s0 z3, l.mono s0 z4⟩
theorem e_t5 {α β γ δ ε : Type} [i : Rp α] [j : Rp β] [k : Rp γ] [l : Rp δ] [o : Rp ε] {t : TA} {x : α} {y : β} {z : γ} {w : δ} {u : ε} (h : A K m t Γ Γ1 [ap x, ap y, ap z, ap w, ap u]) : E K m true (tTup t) Γ Γ1 (T5.mk x y z w u) := fun F I H0 H σ r Q q =>
  h F I H0 H σ r _ fun vs H1 H1' r1 a1 b1 c1 => by
    cases c1 with | cons z1 c1 => cases c1 with | cons z2 c1 => cases c1 with | cons z3 c1 => cases c1 with | cons z4 c1 => cases c1 with | cons z5 c1 => cases c1 with | nil =>
    refine ⟨by show 5 ≤ sizeLine; decide, fun p hp => ?_⟩
    obtain ⟨r2, s0, s1⟩ := r1.alloc (o := .tup _) hp
    exact q _ _ _ r2 (a1.trans s0) (fun z => (b1 z).trans s1) ⟨p, _, _, _, _, _, rfl, SqT.of upd_same, i.mono s0 z1, j.mono s0 z2, k.mono s0 z3, l.mono s0 z4, o.mono s0 z5⟩

/-! ### items -/
theorem gi_at {α : Type} [Inhabited α] {F : V → α → Prop} {vs : List V} {xs : List α} {k : Int} (p : Prd F vs xs) (h : -(xs.length : Int) ≤ k ∧ k < xs.length) : ∃ v, atI vs k = some v ∧ F v (gi xs k) := by
  have el := prd_len p
  unfold atI ixN gi
  by_cases h0 : 0 ≤ k
  · have hk : k.toNat < xs.length := by omega
    obtain ⟨v, e1, e2⟩ := prd_get (n := k.toNat) (y := xs[k.toNat]) p (List.getElem?_eq_getElem hk)
    refine ⟨v, ?_, ?_⟩
    · rw [if_pos h0, if_pos (by omega)]
      exact e1
    · rw [if_pos h0]
      have : xs.getD k.toNat default = xs[k.toNat] := by simp [List.getD, hk]
      rw [this]
      exact e2
  · have hk : (k + xs.length).toNat < xs.length := by omega
    obtain ⟨v, e1, e2⟩ := prd_get (n := (k + xs.length).toNat) (y := xs[(k + xs.length).toNat]) p (List.getElem?_eq_getElem hk)
    refine ⟨v, ?_, ?_⟩
    · rw [if_neg h0, if_pos (by omega), el]
      exact e1
    · rw [if_neg h0]
      have : xs.getD (k + xs.length).toNat default = xs[(k + xs.length).toNat] := by simp [List.getD, hk]
      rw [this]
      exact e2
/-- xs[k] -/
theorem e_ix {α : Type} [i : Rp α] [Inhabited α] {xs : List α} {k : Int} (ha : E K m1 true ta Γ Γ1 xs) (hb : E K m2 p2 tb Γ1 Γ2 k) (h : -(xs.length : Int) ≤ k ∧ k < xs.length) : E K (m1 || m2) true (tOp (rIxL K) ta tb) Γ Γ2 (gi xs k) := fun F I H0 H σ r Q q =>
  ha F I H0 H σ r _ fun v H1 H1' r1 a1 b1 c1 => hb.sc F I H1 H1' σ r1 _ fun w H2 H2' r2 a2 b2 c2 => by
    obtain ⟨a, vs, rfl, hs, hp⟩ := rl c1
    subst c2
    obtain ⟨u, e1, e2⟩ := gi_at hp h
    exact ⟨a, vs, k, u, rfl, rfl, (a2.trans r2.h).seq hs, e1, q _ H2 H2' r2 (a1.trans a2) (same_mm b1 b2) (i.mono a2 e2)⟩
theorem e_ixB {α : Type} [i : Rp α] [Inhabited α] {xs : List α} {k : Int} (ha : E K m1 p1 ta Γ Γ1 xs) (hb : E K false p2 tb Γ1 Γ2 k) (h : -(xs.length : Int) ≤ k ∧ k < xs.length) : E K m1 false (tOp (rIxL K) ta tb) Γ Γ2 (gi xs k) := fun F I H0 H σ r Q q =>
  ha.nowP F I H0 H σ r _ fun v H1 H1' r1 a1 b1 c1 => hb.sc F I H1 H1' σ r1 _ fun w H2 H2' r2 a2 b2 c2 => by
    obtain ⟨a, vs, rfl, hs, hp⟩ := rl c1
    subst c2
    obtain ⟨u, e1, e2⟩ := gi_at hp h
    exact ⟨a, vs, k, u, rfl, rfl, (b2 rfl).seq hs, e1, q _ H2 H2' r2 (a1.trans a2) (fun z => (b1 z).trans (b2 rfl)) (i.mono (b2 rfl) e2)⟩
/-- an item of a list of one's own: as good as the items are -/
theorem e_ixO {α : Type} [i : Rp α] [Inhabited α] {xs : List α} {k : Int} {n : Nat} {a : Option Addr} (hb : E K m p tb Γ Γ1 k) (hn : Γ1[n]? = some (.own i a xs)) (h : -(xs.length : Int) ≤ k ∧ k < xs.length) (h0 : isOwn Γ[n]?) : E K m true (tOp (rIxL K) (tVar n) tb) Γ Γ1 (gi xs k) := fun F I H0 H σ r Q q => by
  have z : ∃ s, Γ[n]? = some s ∧ isOwn (some s) := by
    cases e : Γ[n]? with
    | none => rw [e] at h0; exact h0.elim
    | some s => rw [e] at h0; exact ⟨s, rfl, h0⟩
  obtain ⟨s, es, os⟩ := z
  obtain ⟨ov, e1, k1⟩ := r.ok n s es
  cases s with
  | un => exact os.elim
  | per _ _ => exact os.elim
  | bor _ _ => exact os.elim
  | bl _ _ => exact os.elim
  | ob _ _ _ _ => exact os.elim
  | own j a' ys =>
    obtain ⟨b, vs, e2, _⟩ := k1
    subst e2
    refine ⟨.ref b, e1, hb.sc F I H0 H σ r _ fun w H2 H2' r2 a2 b2 c2 => ?_⟩
    subst c2
    obtain ⟨ov', w1, c, ws, w2, w3, w4, w5, w6, w7⟩ := r2.ok n _ hn
    rw [e1] at w1
    cases w1
    cases w2
    obtain ⟨u, u1, u2⟩ := gi_at w7 h
    exact ⟨b, ws, k, u, rfl, rfl, SqL.of w6, u1, q _ H2 H2' r2 a2 b2 u2⟩
  | dp j a' ys =>
    obtain ⟨b, vs, e2, _⟩ := k1
    subst e2
    refine ⟨.ref b, e1, hb.sc F I H0 H σ r _ fun w H2 H2' r2 a2 b2 c2 => ?_⟩
    subst c2
    obtain ⟨ov', w1, c, ws, w2, w3, w4, w5, w6, w7⟩ := r2.ok n _ hn
    rw [e1] at w1
    cases w1
    cases w2
    obtain ⟨u, u1, u2⟩ := gi_at w7 h
    exact ⟨b, ws, k, u, rfl, rfl, SqL.of w6, u1, q _ H2 H2' r2 a2 b2 u2⟩
  | gn G =>
    obtain ⟨b, e2, _⟩ := k1
    subst e2
    refine ⟨b, e1, hb.sc F I H0 H σ r _ fun w H2 H2' r2 a2 b2 c2 => ?_⟩
    subst c2
    obtain ⟨ov', w1, c, ws, w2, w3, w4, w5, w6, w7⟩ := r2.ok n _ hn
    rw [e1] at w1
    cases w1
    cases w2
    obtain ⟨u, u1, u2⟩ := gi_at w7 h
    exact ⟨_, ws, k, u, rfl, rfl, SqL.of w6, u1, q _ H2 H2' r2 a2 b2 u2⟩
theorem e_ixP {α : Type} [i : Rp α] [Inhabited α] {xs : List α} {k : Int} {n : Nat} {a : Option Addr} (hb : E K false p tb Γ Γ k) (hn : Γ[n]? = some (.own i a xs)) (h : -(xs.length : Int) ≤ k ∧ k < xs.length) : E K false true (tOp (rIxL K) (tVar n) tb) Γ Γ (gi xs k) := e_ixO hb hn h (by rw [hn]; trivial)
theorem e_hd0 {n : Nat} {a : Option Addr} {x y z : Int} (hn : Γ[n]? = some (.own inferInstance a [x, y, z])) : E K false true (tOp (rIxL K) (tVar n) (tC (.int 0))) Γ Γ x := e_ixP (k := 0) e_int hn ⟨by show -(3 : Int) ≤ 0; decide, by show (0 : Int) < 3; decide⟩
theorem e_hd1 {n : Nat} {a : Option Addr} {x y z : Int} (hn : Γ[n]? = some (.own inferInstance a [x, y, z])) : E K false true (tOp (rIxL K) (tVar n) (tC (.int 1))) Γ Γ y := e_ixP (k := 1) e_int hn ⟨by show -(3 : Int) ≤ 1; decide, by show (1 : Int) < 3; decide⟩
theorem e_hd2 {n : Nat} {a : Option Addr} {x y z : Int} (hn : Γ[n]? = some (.own inferInstance a [x, y, z])) : E K false true (tOp (rIxL K) (tVar n) (tC (.int 2))) Γ Γ z := e_ixP (k := 2) e_int hn ⟨by show -(3 : Int) ≤ 2; decide, by show (2 : Int) < 3; decide⟩
theorem e_ixT {α : Type} [i : Rp α] [Inhabited α] {xs : Tu α} {k : Int} (ha : E K m1 true ta Γ Γ1 xs) (hb : E K m2 p2 tb Γ1 Γ2 k) (h : -(xs.l.length : Int) ≤ k ∧ k < xs.l.length) : E K (m1 || m2) true (tOp (rIxT K) ta tb) Γ Γ2 (gi xs.l k) := fun F I H0 H σ r Q q =>
  ha F I H0 H σ r _ fun v H1 H1' r1 a1 b1 c1 => hb.sc F I H1 H1' σ r1 _ fun w H2 H2' r2 a2 b2 c2 => by
    obtain ⟨a, vs, rfl, hs, hp⟩ := c1
    subst c2
    obtain ⟨u, e1, e2⟩ := gi_at hp h
    exact ⟨a, vs, k, u, rfl, rfl, same_t (a2.trans r2.h) hs, e1, q _ H2 H2' r2 (a1.trans a2) (same_mm b1 b2) (i.mono a2 e2)⟩
end
end FF

set_option Elab.async false
set_option linter.all false
set_option maxRecDepth 100000
set_option maxHeartbeats 2000000
namespace FF
open PySem L2
/-! ### built-in calls by the shape of what they are given -/
def rLen1 (K : Kf) : List V → Hp → VK → Prop := fun xs H Q => ∃ p ys, xs = [.ref p] ∧ (SqL K H p ys ∨ SqT K H p ys) ∧ Q (.int ys.length) H
def rLenStr : List V → Hp → VK → Prop := fun xs H Q => ∃ z, xs = [.str z] ∧ z.length ≤ sizeLine ∧ Q (.int z.length) H
def rInt1 : List V → Hp → VK → Prop := fun xs H Q => (∃ i, xs = [.int i] ∧ Q (.int i) H) ∨ ∃ k, xs = [.bl k] ∧ Q (.int (if k then 1 else 0)) H
def rList1 (K : Kf) : List V → Hp → VK → Prop := fun xs H Q => ∃ p ys, xs = [.ref p] ∧ (SqL K H p ys ∨ SqT K H p ys) ∧ ∀ l, H l = none → Q (.ref l) (upd H l (.lst ys))
def rTuple1 (K : Kf) : List V → Hp → VK → Prop := fun xs H Q => ∃ p ys, xs = [.ref p] ∧ ((SqL K H p ys ∧ ∀ l, H l = none → Q (.ref l) (upd H l (.tup ys))) ∨ (SqT K H p ys ∧ Q (.ref p) H))
def rMax2i : List V → Hp → VK → Prop := fun xs H Q => ∃ i j, xs = [.int i, .int j] ∧ Q (.int (if j > i then j else i)) H
def rMin2i : List V → Hp → VK → Prop := fun xs H Q => ∃ i j, xs = [.int i, .int j] ∧ Q (.int (if j < i then j else i)) H
section
variable {X : Cx}
theorem cr_len1 : CallR X (.builtin "len") (rLen1 X.K) := call_len_seq
theorem cr_lenStr : CallR X (.builtin "len") rLenStr := call_len_str
theorem cr_int1 : CallR X (.type "int") rInt1 := call_int1
theorem cr_list1 : CallR X (.type "list") (rList1 X.K) := call_list_of
theorem cr_tuple1 : CallR X (.type "tuple") (rTuple1 X.K) := call_tuple_of
theorem cr_max2i (hc : X.calm = true) : CallR X (.builtin "max") rMax2i := call_max2 hc
theorem cr_min2i (hc : X.calm = true) : CallR X (.builtin "min") rMin2i := call_min2 hc
end
/-! ### which built-in type a datum has -/
class TyC (α : Type) [i : Rp α] where
  ty : String
  ok : ∀ {K : Kf} {H : Hp} {v : V} {x : α}, i.rep K H v x → TyX K H v (.type ty)
instance : TyC Int := ⟨"int", fun h => by subst h; exact .base (.int _)⟩
instance : TyC Bool := ⟨"bool", fun h => by subst h; exact .base (.bl _)⟩
instance : TyC PySem.Str := ⟨"str", fun h => by subst h; exact .base (.str _)⟩
theorem ty_l {K : Kf} {H : Hp} {a : Addr} {vs : List V} (h : SqL K H a vs) : TyX K H (.ref a) (.type "list") := by
  rcases h with (h | ⟨o, h⟩) | ⟨o, its, n, hk, hc, _⟩
  · exact .base (.lst h)
  · exact .base (.frz h)
  · exact .kList hk hc
theorem ty_t {K : Kf} {H : Hp} {a : Addr} {vs : List V} (h : SqT K H a vs) : TyX K H (.ref a) (.type "tuple") := by
  rcases h with (h | ⟨o, h⟩) | ⟨o, its, n, hk, hc, _⟩
  · exact .base (.tup h)
  · exact .fTuple h
  · exact .kTuple hk hc
instance {α : Type} [Rp α] : TyC (List α) := ⟨"list", fun ⟨a, vs, e, h, _⟩ => by subst e; exact ty_l (SqL.of h)⟩
instance {α : Type} [Rp α] : TyC (Tu α) := ⟨"tuple", fun ⟨a, vs, e, h, _⟩ => by subst e; exact ty_t h⟩
instance {α β : Type} [Rp α] [Rp β] : TyC (α × β) := ⟨"tuple", fun ⟨a, _, _, e, h, _⟩ => by subst e; exact ty_t h⟩
instance {α β γ : Type} [Rp α] [Rp β] [Rp γ] : TyC (T3 α β γ) := ⟨"tuple", fun ⟨a, _, _, _, e, h, _⟩ => by subst e; exact ty_t h⟩
instance {α β γ δ : Type} [Rp α] [Rp β] [Rp γ] [Rp δ] : TyC (T4 α β γ δ) := ⟨"tuple", fun ⟨a, _, _, _, _, e, h, _⟩ => by subst e; exact ty_t h⟩
section
variable {K : Kf} {m m1 m2 m3 p p1 p2 p3 : Bool} {te ta tb tc : TE} {tt tu : TT} {Γ Γ1 Γ2 Γ3 : List Sl}
theorem e_isi {α : Type} [i : Rp α] [t : TyC α] {x : α} {c : String} {b : Bool} (h : E K m p ta Γ Γ1 x) (hk : kitB t.ty c = some b) : E K m true (tCB (rIsi K) (tCons ta (tCons (tC (.ty c)) tNil))) Γ Γ1 b := fun F I H0 H σ r Q q =>
  h.nowP F I H0 H σ r _ fun v H1 H1' r1 a1 b1 c1 => ⟨v, .ty c, _, _, b, rfl, .ty c, t.ok c1, kit_ty hk, q _ H1 H1' r1 a1 b1 rfl⟩
theorem e_isiO {α : Type} [i : Rp α] [t : TyC α] {x : Option α} {c : String} {b b' : Bool} (h : E K m p ta Γ Γ1 x) (hk : kitB t.ty c = some b) (hn : kitB "NoneType" c = some b') : E K m true (tCB (rIsi K) (tCons ta (tCons (tC (.ty c)) tNil))) Γ Γ1 (if x.isSome = true then b else b') := fun F I H0 H σ r Q q =>
  h.nowP F I H0 H σ r _ fun v H1 H1' r1 a1 b1 c1 => by
    cases x with
    | none =>
      have e : v = .non := c1
      subst e
      exact ⟨.non, .ty c, _, _, b', rfl, .ty c, .base .non, kit_ty hn, q _ H1 H1' r1 a1 b1 rfl⟩
    | some y => exact ⟨v, .ty c, _, _, b, rfl, .ty c, t.ok c1.2, kit_ty hk, q _ H1 H1' r1 a1 b1 rfl⟩
/-! ### len, int, list, tuple, max, min -/
theorem e_len {α : Type} [i : Rp α] {xs : List α} (h : E K m p ta Γ Γ1 xs) : E K m true (tCB (rLen1 K) (tCons ta tNil)) Γ Γ1 (xs.length : Int) := fun F I H0 H σ r Q q =>
  h.nowP F I H0 H σ r _ fun v H1 H1' r1 a1 b1 c1 => by
    obtain ⟨a, vs, rfl, hs, hp⟩ := rl c1
    exact ⟨a, vs, rfl, .inl hs, q _ H1 H1' r1 a1 b1 (by rw [prd_len hp]; rfl)⟩
theorem e_lenT {α : Type} [i : Rp α] {xs : Tu α} (h : E K m p ta Γ Γ1 xs) : E K m true (tCB (rLen1 K) (tCons ta tNil)) Γ Γ1 (xs.l.length : Int) := fun F I H0 H σ r Q q =>
  h.nowP F I H0 H σ r _ fun v H1 H1' r1 a1 b1 c1 => by
    obtain ⟨a, vs, rfl, hs, hp⟩ := c1
    exact ⟨a, vs, rfl, .inr hs, q _ H1 H1' r1 a1 b1 (by rw [prd_len hp]; rfl)⟩
theorem e_lenS {α : Type} [i : Rp α] {xs : Sq α} (h : E K m p ta Γ Γ1 xs) : E K m true (tCB (rLen1 K) (tCons ta tNil)) Γ Γ1 (xs.l.length : Int) := fun F I H0 H σ r Q q =>
  h.nowP F I H0 H σ r _ fun v H1 H1' r1 a1 b1 c1 => by
    obtain ⟨a, vs, rfl, hs, hp⟩ := c1
    exact ⟨a, vs, rfl, hs, q _ H1 H1' r1 a1 b1 (by rw [prd_len hp]; rfl)⟩
theorem e_len2 {α β : Type} [i : Rp α] [j : Rp β] {x : α × β} (h : E K m p ta Γ Γ1 x) : E K m true (tCB (rLen1 K) (tCons ta tNil)) Γ Γ1 (2 : Int) := fun F I H0 H σ r Q q =>
  h.nowP F I H0 H σ r _ fun v H1 H1' r1 a1 b1 c1 => by
    obtain ⟨a, _, _, rfl, hs, _⟩ := c1
    exact ⟨a, _, rfl, .inr hs, q _ H1 H1' r1 a1 b1 rfl⟩
theorem e_len3 {α β γ : Type} [i : Rp α] [j : Rp β] [k : Rp γ] {x : T3 α β γ} (h : E K m p ta Γ Γ1 x) : E K m true (tCB (rLen1 K) (tCons ta tNil)) Γ Γ1 (3 : Int) := fun F I H0 H σ r Q q =>
  h.nowP F I H0 H σ r _ fun v H1 H1' r1 a1 b1 c1 => by
    obtain ⟨a, _, _, _, rfl, hs, _⟩ := c1
    exact ⟨a, _, rfl, .inr hs, q _ H1 H1' r1 a1 b1 rfl⟩
theorem e_toInt {x : Int} (h : E K m p ta Γ Γ1 x) : E K m true (tCB rInt1 (tCons ta tNil)) Γ Γ1 x := fun F I H0 H σ r Q q =>
  h.sc F I H0 H σ r _ fun v H1 H1' r1 a1 b1 c1 => .inl ⟨x, by rw [show v = .int x from c1], q _ H1 H1' r1 a1 b1 rfl⟩
theorem e_max2 {x y : Int} {t : TA} (h : A K m t Γ Γ1 [ap x, ap y]) : E K m true (tCB rMax2i t) Γ Γ1 (if y > x then y else x) := fun F I H0 H σ r Q q =>
  h F I H0 H σ r _ fun vs H1 H1' r1 a1 b1 c1 => by
    cases c1 with | cons z1 c1 => cases c1 with | cons z2 c1 => cases c1 with | nil =>
    cases (show _ = V.int x from z1); cases (show _ = V.int y from z2)
    exact ⟨x, y, rfl, q _ H1 H1' r1 a1 b1 rfl⟩
theorem e_min2 {x y : Int} {t : TA} (h : A K m t Γ Γ1 [ap x, ap y]) : E K m true (tCB rMin2i t) Γ Γ1 (if y < x then y else x) := fun F I H0 H σ r Q q =>
  h F I H0 H σ r _ fun vs H1 H1' r1 a1 b1 c1 => by
    cases c1 with | cons z1 c1 => cases c1 with | cons z2 c1 => cases c1 with | nil =>
    cases (show _ = V.int x from z1); cases (show _ = V.int y from z2)
    exact ⟨x, y, rfl, q _ H1 H1' r1 a1 b1 rfl⟩
/-- list(xs): new; its items stand for good (of ints and the like whatever xs is) -/
theorem e_list {α : Type} [i : Rp α] {xs : List α} (h : E K m true ta Γ Γ1 xs) : E K m true (tCB (rList1 K) (tCons ta tNil)) Γ Γ1 xs := fun F I H0 H σ r Q q =>
  h F I H0 H σ r _ fun v H1 H1' r1 a1 b1 c1 => by
    obtain ⟨a, vs, rfl, hs, hp⟩ := rl c1
    refine ⟨a, vs, rfl, .inl (r1.h.seq hs), fun l hl => ?_⟩
    obtain ⟨r2, s0, s1⟩ := r1.alloc (o := .lst vs) hl
    exact q _ _ _ r2 (a1.trans s0) (fun z => (b1 z).trans s1) ⟨l, vs, rfl, upd_same, prd_mono (fun _ _ z => i.mono s0 z) hp⟩
theorem e_listB {α : Type} [i : Rp α] [Sc α] {xs : List α} (h : E K m p ta Γ Γ1 xs) : E K m true (tCB (rList1 K) (tCons ta tNil)) Γ Γ1 xs := fun F I H0 H σ r Q q =>
  h.nowP F I H0 H σ r _ fun v H1 H1' r1 a1 b1 c1 => by
    obtain ⟨a, vs, rfl, hs, hp⟩ := rl c1
    refine ⟨a, vs, rfl, .inl hs, fun l hl => ?_⟩
    obtain ⟨r2, s0, s1⟩ := r1.alloc (o := .lst vs) hl
    exact q _ _ _ r2 (a1.trans s0) (fun z => (b1 z).trans s1) ⟨l, vs, rfl, upd_same, prd_mono (fun _ _ z => Sc.any z) hp⟩
theorem e_listT {α : Type} [i : Rp α] {xs : Tu α} (h : E K m true ta Γ Γ1 xs) : E K m true (tCB (rList1 K) (tCons ta tNil)) Γ Γ1 xs.l := fun F I H0 H σ r Q q =>
  h F I H0 H σ r _ fun v H1 H1' r1 a1 b1 c1 => by
    obtain ⟨a, vs, rfl, hs, hp⟩ := c1
    refine ⟨a, vs, rfl, .inr (same_t r1.h hs), fun l hl => ?_⟩
    obtain ⟨r2, s0, s1⟩ := r1.alloc (o := .lst vs) hl
    exact q _ _ _ r2 (a1.trans s0) (fun z => (b1 z).trans s1) ⟨l, vs, rfl, upd_same, prd_mono (fun _ _ z => i.mono s0 z) hp⟩
/-- a list or tuple of data that stand for good: what tuple(..) makes of it -/
theorem e_tup {α : Type} [i : Rp α] {xs : List α} (h : E K m true ta Γ Γ1 xs) : E K m true (tCB (rTuple1 K) (tCons ta tNil)) Γ Γ1 (Tu.mk xs) := fun F I H0 H σ r Q q =>
  h F I H0 H σ r _ fun v H1 H1' r1 a1 b1 c1 => by
    obtain ⟨a, vs, rfl, hs, hp⟩ := rl c1
    refine ⟨a, vs, rfl, .inl ⟨r1.h.seq hs, fun l hl => ?_⟩⟩
    obtain ⟨r2, s0, s1⟩ := r1.alloc (o := .tup vs) hl
    exact q _ _ _ r2 (a1.trans s0) (fun z => (b1 z).trans s1) ⟨l, vs, rfl, SqT.of upd_same, prd_mono (fun _ _ z => i.mono s0 z) hp⟩
theorem e_tupB {α : Type} [i : Rp α] [Sc α] {xs : List α} (h : E K m p ta Γ Γ1 xs) : E K m true (tCB (rTuple1 K) (tCons ta tNil)) Γ Γ1 (Tu.mk xs) := fun F I H0 H σ r Q q =>
  h.nowP F I H0 H σ r _ fun v H1 H1' r1 a1 b1 c1 => by
    obtain ⟨a, vs, rfl, hs, hp⟩ := rl c1
    refine ⟨a, vs, rfl, .inl ⟨hs, fun l hl => ?_⟩⟩
    obtain ⟨r2, s0, s1⟩ := r1.alloc (o := .tup vs) hl
    exact q _ _ _ r2 (a1.trans s0) (fun z => (b1 z).trans s1) ⟨l, vs, rfl, SqT.of upd_same, prd_mono (fun _ _ z => Sc.any z) hp⟩
theorem e_tupT {α : Type} [i : Rp α] {xs : Tu α} (h : E K m true ta Γ Γ1 xs) : E K m true (tCB (rTuple1 K) (tCons ta tNil)) Γ Γ1 xs := fun F I H0 H σ r Q q =>
  h F I H0 H σ r _ fun v H1 H1' r1 a1 b1 c1 => by
    obtain ⟨a, vs, rfl, hs, hp⟩ := c1
    exact ⟨a, vs, rfl, .inr ⟨same_t r1.h hs, q _ _ _ r1 a1 b1 ⟨a, vs, rfl, hs, hp⟩⟩⟩
theorem e_tupS {α : Type} [i : Rp α] {xs : Sq α} (h : E K m true ta Γ Γ1 xs) : E K m true (tCB (rTuple1 K) (tCons ta tNil)) Γ Γ1 (Tu.mk xs.l) := fun F I H0 H σ r Q q =>
  h F I H0 H σ r _ fun v H1 H1' r1 a1 b1 c1 => by
    obtain ⟨a, vs, rfl, hs, hp⟩ := c1
    rcases hs with hs | hs
    · refine ⟨a, vs, rfl, .inl ⟨r1.h.seq hs, fun l hl => ?_⟩⟩
      obtain ⟨r2, s0, s1⟩ := r1.alloc (o := .tup vs) hl
      exact q _ _ _ r2 (a1.trans s0) (fun z => (b1 z).trans s1) ⟨l, vs, rfl, SqT.of upd_same, prd_mono (fun _ _ z => i.mono s0 z) hp⟩
    · exact ⟨a, vs, rfl, .inr ⟨same_t r1.h hs, q _ _ _ r1 a1 b1 ⟨a, vs, rfl, hs, hp⟩⟩⟩
/-- of a borrowed list or tuple of scalars: a tuple that stands for good only where it is made anew -/
theorem e_tupSB {α : Type} [i : Rp α] [Sc α] {xs : Sq α} (h : E K m p ta Γ Γ1 xs) : E K m false (tCB (rTuple1 K) (tCons ta tNil)) Γ Γ1 (Tu.mk xs.l) := fun F I H0 H σ r Q q =>
  h.nowP F I H0 H σ r _ fun v H1 H1' r1 a1 b1 c1 => by
    obtain ⟨a, vs, rfl, hs, hp⟩ := c1
    rcases hs with hs | hs
    · refine ⟨a, vs, rfl, .inl ⟨hs, fun l hl => ?_⟩⟩
      obtain ⟨r2, s0, s1⟩ := r1.alloc (o := .tup vs) hl
      exact q _ _ _ r2 (a1.trans s0) (fun z => (b1 z).trans s1) ⟨l, vs, rfl, SqT.of upd_same, prd_mono (fun _ _ z => Sc.any z) hp⟩
    · exact ⟨a, vs, rfl, .inr ⟨hs, q _ _ _ r1 a1 b1 ⟨a, vs, rfl, hs, hp⟩⟩⟩
/-- a list, a tuple as either -/
theorem e_sqL {α : Type} [i : Rp α] {xs : List α} (h : E K m p ta Γ Γ1 xs) : E K m p ta Γ Γ1 (Sq.mk xs) := fun F I H0 H σ r Q q => h F I H0 H σ r _ fun v H1 H1' r1 a1 b1 ⟨a, vs, e, hs, hp⟩ => q v H1 H1' r1 a1 b1 ⟨a, vs, e, .inl (SqL.of hs), hp⟩
theorem e_sqT {α : Type} [i : Rp α] {xs : Tu α} (h : E K m p ta Γ Γ1 xs) : E K m p ta Γ Γ1 (Sq.mk xs.l) := fun F I H0 H σ r Q q => h F I H0 H σ r _ fun v H1 H1' r1 a1 b1 ⟨a, vs, e, hs, hp⟩ => q v H1 H1' r1 a1 b1 ⟨a, vs, e, .inr hs, hp⟩
/-! ### slices -/
def O (K : Kf) (to : TO) (Γ : List Sl) (o : Option Int) : Prop :=
  ∀ (F : Fm) (I H0 H : Hp) (σ : St), SR K F I H0 H σ Γ → ∀ Q : Option Int → Hp → Prop, (∀ H0' H', SR K F I H0' H' σ Γ → Same H0 H0' → Same H H' → Q o H') → to σ H Q
theorem o_none : O K tNoPart Γ none := fun F I H0 H σ r Q q => q H0 H r (Same.refl _) (Same.refl _)
theorem o_some {x : Int} (h : E K false p te Γ Γ x) : O K (tPart te) Γ (some x) := fun F I H0 H σ r Q q => h.sc F I H0 H σ r _ fun v H1 H1' r1 a1 b1 c1 => ⟨x, c1, q H1 H1' r1 a1 (b1 rfl)⟩
theorem gs_cut {α : Type} {F : V → α → Prop} {vs : List V} {xs : List α} (p : Prd F vs xs) (lo hi : Option Int) : Prd F (cutV vs lo hi) (gs xs lo hi) := by
  have e := prd_len p
  unfold cutV
  rw [e]
  have e2 : gs xs lo hi = (xs.drop (HT.sIx xs.length 0 lo)).take (HT.sIx xs.length xs.length hi - HT.sIx xs.length 0 lo) := by
    unfold gs HT.sIx
    cases lo <;> cases hi <;> rfl
  rw [e2]
  exact prd_take _ (prd_drop _ p)
theorem e_sl {α : Type} [i : Rp α] {xs : List α} {tl th : TO} {lo hi : Option Int} (h : E K m true te Γ Γ1 xs) (hl : O K tl Γ1 lo) (hh : O K th Γ1 hi) : E K m true (tSl (rSlL K) te tl th) Γ Γ1 (gs xs lo hi) := fun F I H0 H σ r Q q =>
  h F I H0 H σ r _ fun v H1 H1' r1 a1 b1 c1 => hl F I H1 H1' σ r1 _ fun H2 H2' r2 a2 b2 => hh F I H2 H2' σ r2 _ fun H3 H3' r3 a3 b3 => by
    obtain ⟨a, vs, rfl, hs, hp⟩ := rl c1
    refine ⟨a, vs, rfl, ((a2.trans a3).trans r3.h).seq hs, fun l hl => ?_⟩
    obtain ⟨r4, s0, s1⟩ := r3.alloc (o := .lst (cutV vs lo hi)) hl
    exact q _ _ _ r4 (((a1.trans a2).trans a3).trans s0) (fun z => (((b1 z).trans b2).trans b3).trans s1) ⟨l, _, rfl, upd_same, prd_mono (fun _ _ z => i.mono ((a2.trans a3).trans s0) z) (gs_cut hp lo hi)⟩
theorem e_slB {α : Type} [i : Rp α] [Sc α] {xs : List α} {tl th : TO} {lo hi : Option Int} (h : E K m p te Γ Γ1 xs) (hl : O K tl Γ1 lo) (hh : O K th Γ1 hi) : E K m true (tSl (rSlL K) te tl th) Γ Γ1 (gs xs lo hi) := fun F I H0 H σ r Q q =>
  h.nowP F I H0 H σ r _ fun v H1 H1' r1 a1 b1 c1 => hl F I H1 H1' σ r1 _ fun H2 H2' r2 a2 b2 => hh F I H2 H2' σ r2 _ fun H3 H3' r3 a3 b3 => by
    obtain ⟨a, vs, rfl, hs, hp⟩ := rl c1
    refine ⟨a, vs, rfl, (b2.trans b3).seq hs, fun l hl => ?_⟩
    obtain ⟨r4, s0, s1⟩ := r3.alloc (o := .lst (cutV vs lo hi)) hl
    exact q _ _ _ r4 (((a1.trans a2).trans a3).trans s0) (fun z => (((b1 z).trans b2).trans b3).trans s1) ⟨l, _, rfl, upd_same, prd_mono (fun _ _ z => Sc.any z) (gs_cut hp lo hi)⟩
/-! ### places of tuples, by written indices -/
theorem sel_t {p : Bool} {H0 H : Hp} {a : Addr} {vs : List V} (s : Same H0 H) (h : SqT K (if p = true then H0 else H) a vs) : SqT K H a vs := by
  cases p with
  | true => exact same_t s h
  | false => exact h
theorem e_p2a {α β : Type} [i : Rp α] [j : Rp β] {x : α × β} (h : E K m p ta Γ Γ1 x) : E K m p (tOp (rIxT K) ta (tC (.int 0))) Γ Γ1 x.1 := fun F I H0 H σ r Q q => h F I H0 H σ r _ fun v H1 H1' r1 a1 b1 c1 => by
  obtain ⟨a, u1, u2, rfl, hs, e1, e2⟩ := c1
  exact ⟨a, _, 0, u1, rfl, rfl, sel_t r1.h hs, by rfl, q _ H1 H1' r1 a1 b1 e1⟩
theorem e_p2b {α β : Type} [i : Rp α] [j : Rp β] {x : α × β} (h : E K m p ta Γ Γ1 x) : E K m p (tOp (rIxT K) ta (tC (.int 1))) Γ Γ1 x.2 := fun F I H0 H σ r Q q => h F I H0 H σ r _ fun v H1 H1' r1 a1 b1 c1 => by
  obtain ⟨a, u1, u2, rfl, hs, e1, e2⟩ := c1
  exact ⟨a, _, 1, u2, rfl, rfl, sel_t r1.h hs, by rfl, q _ H1 H1' r1 a1 b1 e2⟩
end
section
variable {K : Kf} {m p : Bool} {ta : TE} {Γ Γ1 : List Sl} {α β γ δ ε : Type} [i : Rp α] [j : Rp β] [k : Rp γ] [l : Rp δ] [o : Rp ε]
theorem e_p3a {x : T3 α β γ} (h : E K m p ta Γ Γ1 x) : E K m p (tOp (rIxT K) ta (tC (.int 0))) Γ Γ1 x.a := fun F I H0 H σ r Q q => h F I H0 H σ r _ fun v H1 H1' r1 a1 b1 c1 => by
  obtain ⟨a, u1, u2, u3, rfl, hs, e1, e2, e3⟩ := c1
  exact ⟨a, _, 0, u1, rfl, rfl, sel_t r1.h hs, by rfl, q _ H1 H1' r1 a1 b1 e1⟩
theorem e_p3b {x : T3 α β γ} (h : E K m p ta Γ Γ1 x) : E K m p (tOp (rIxT K) ta (tC (.int 1))) Γ Γ1 x.b := fun F I H0 H σ r Q q => h F I H0 H σ r _ fun v H1 H1' r1 a1 b1 c1 => by
  obtain ⟨a, u1, u2, u3, rfl, hs, e1, e2, e3⟩ := c1
  exact ⟨a, _, 1, u2, rfl, rfl, sel_t r1.h hs, by rfl, q _ H1 H1' r1 a1 b1 e2⟩
theorem e_p3c {x : T3 α β γ} (h : E K m p ta Γ Γ1 x) : E K m p (tOp (rIxT K) ta (tC (.int 2))) Γ Γ1 x.c := fun F I H0 H σ r Q q => h F I H0 H σ r _ fun v H1 H1' r1 a1 b1 c1 => by
  obtain ⟨a, u1, u2, u3, rfl, hs, e1, e2, e3⟩ := c1
  exact ⟨a, _, 2, u3, rfl, rfl, sel_t r1.h hs, by rfl, q _ H1 H1' r1 a1 b1 e3⟩
theorem e_p4a {x : T4 α β γ δ} (h : E K m p ta Γ Γ1 x) : E K m p (tOp (rIxT K) ta (tC (.int 0))) Γ Γ1 x.a := fun F I H0 H σ r Q q => h F I H0 H σ r _ fun v H1 H1' r1 a1 b1 c1 => by
  obtain ⟨a, u1, u2, u3, u4, rfl, hs, e1, e2, e3, e4⟩ := c1
  exact ⟨a, _, 0, u1, rfl, rfl, sel_t r1.h hs, by rfl, q _ H1 H1' r1 a1 b1 e1⟩
theorem e_p4b {x : T4 α β γ δ} (h : E K m p ta Γ Γ1 x) : E K m p (tOp (rIxT K) ta (tC (.int 1))) Γ Γ1 x.b := fun F I H0 H σ r Q q => h F I H0 H σ r _ fun v H1 H1' r1 a1 b1 c1 => by
  obtain ⟨a, u1, u2, u3, u4, rfl, hs, e1, e2, e3, e4⟩ := c1
  exact ⟨a, _, 1, u2, rfl, rfl, sel_t r1.h hs, by rfl, q _ H1 H1' r1 a1 b1 e2⟩
theorem e_p4c {x : T4 α β γ δ} (h : E K m p ta Γ Γ1 x) : E K m p (tOp (rIxT K) ta (tC (.int 2))) Γ Γ1 x.c := fun F I H0 H σ r Q q => h F I H0 H σ r _ fun v H1 H1' r1 a1 b1 c1 => by
  obtain ⟨a, u1, u2, u3, u4, rfl, hs, e1, e2, e3, e4⟩ := c1
  exact ⟨a, _, 2, u3, rfl, rfl, sel_t r1.h hs, by rfl, q _ H1 H1' r1 a1 b1 e3⟩
theorem e_p4d {x : T4 α β γ δ} (h : E K m p ta Γ Γ1 x) : E K m p (tOp (rIxT K) ta (tC (.int 3))) Γ Γ1 x.d := fun F I H0 H σ r Q q => h F I H0 H σ r _ fun v H1 H1' r1 a1 b1 c1 => by
  obtain ⟨a, u1, u2, u3, u4, rfl, hs, e1, e2, e3, e4⟩ := c1
  exact ⟨a, _, 3, u4, rfl, rfl, sel_t r1.h hs, by rfl, q _ H1 H1' r1 a1 b1 e4⟩
end
end FF

set_option Elab.async false
set_option linter.all false
set_option maxRecDepth 100000
set_option maxHeartbeats 2000000
namespace FF
open PySem L2
/-- a step whose worth bears a name -/
def bnd {α : Sort u} {β : Sort v} (x : α) (f : α → β) : β := f x
theorem bnd_eq {α : Sort u} {β : Sort v} (x : α) (f : α → β) : bnd x f = f x := rfl
/-! ### lists that are made anew -/
/-- a new list: nobody else holds it -/
def EN (K : Kf) (m : Bool) (te : TE) (Γ Γ' : List Sl) {α : Type} [i : Rp α] (xs : List α) : Prop :=
  ∀ (F : Fm) (I H0 H : Hp) (σ : St), SR K F I H0 H σ Γ → ∀ Q : VK, (∀ a vs H0' H', SR K F I H0' H' σ Γ' → Same H0 H0' → (m = false → Same H H') → F.k a = none → H0' a = none → Fre H' σ Γ' a → H' a = some (.lst vs) → Prd (i.rep K H0') vs xs → Q (.ref a) H') → te σ H Q
/-- a list that the slots do not own, put among what stands for good -/
theorem SR.keep {K : Kf} {F : Fm} {I H0 H : Hp} {σ : St} {Γ : List Sl} {a : Addr} {vl : List V} (r : SR K F I H0 H σ Γ) (hF : F.k a = none) (h0 : H0 a = none) (hn : Fre H σ Γ a) (ha : H a = some (.lst vl)) : SR K F I (upd H0 a (.lst vl)) H σ Γ ∧ Same H0 (upd H0 a (.lst vl)) := by
  have s0 : Same H0 (upd H0 a (.lst vl)) := fun b u e => by rw [upd_ne (ne_of_none e h0)]; exact e
  refine ⟨⟨r.f, r.i.trans s0, fun b u e n => ?_, fun b u e => ?_, r.len, fun n s e => ?_, r.dj⟩, s0⟩
  · rw [upd_ne (ne_of_none e hF)]; exact r.g b u e n
  · by_cases hb : b = a
    · subst hb; rw [upd_same] at e; cases e; exact ha
    · rw [upd_ne hb] at e; exact r.h b u e
  · obtain ⟨ov, q1, q2⟩ := r.ok n s e
    refine ⟨ov, q1, ?_⟩
    cases s with
    | un => trivial
    | per i x => obtain ⟨v, e2, p⟩ := q2; exact ⟨v, e2, i.mono s0 p⟩
    | bor i x => exact q2
    | bl i x => exact blOk.mono s0 q2
    | own i p xs =>
      obtain ⟨b, vs, e2, e3, e4, e5, e6, e7⟩ := q2
      have nb : b ≠ a := fun z => hn n ⟨_, _, e, q1, by show ov = _; rw [e2, z]⟩
      exact ⟨b, vs, e2, e3, e4, by rw [upd_ne nb]; exact e5, e6, prd_mono (fun _ _ r => i.mono s0 r) e7⟩
    | dp i p xss => exact dpOk.mono (p' := p) q2 (fun _ _ z => z) (fun b hb z => by rw [upd_ne (fun w => by subst w; exact hn n ⟨_, _, e, q1, hb⟩)]; exact z) (fun _ _ _ z => z) fun _ _ z => i.mono s0 z
    | gn G => exact gnOk.mono q2 (fun _ _ z => z) (fun b hb z => by rw [upd_ne (fun w => by subst w; exact hn n ⟨_, _, e, q1, hb⟩)]; exact z) (fun _ _ _ z => z) fun _ z => G.mono0 s0 z
    | ob b C dx fs =>
      obtain ⟨e2, e3, e4, e5, e6, e7, vs, e8, e9⟩ := q2
      exact ⟨e2, e3, by rw [upd_ne (ne_of e8 ha (fun z => nomatch z))]; exact e4, e5, by rw [upd_ne (ne_of e7 ha (fun z => nomatch z))]; exact e6, e7, vs, e8, e9.mono s0⟩
theorem EN.e {K : Kf} {m : Bool} {te : TE} {Γ Γ' : List Sl} {α : Type} [i : Rp α] {xs : List α} (h : EN K m te Γ Γ' xs) : E K m true te Γ Γ' xs := fun F I H0 H σ r Q q =>
  h F I H0 H σ r Q fun a vs H1 H1' r1 a1 b1 hF h0 hn ha hp => by
    obtain ⟨r2, s0⟩ := r1.keep hF h0 hn ha
    exact q _ _ _ r2 (a1.trans s0) b1 ⟨a, vs, rfl, upd_same, prd_mono (fun _ _ z => i.mono s0 z) hp⟩
section
variable {K : Kf} {F : Fm} {I H0 H : Hp} {σ : St} {Γ : List Sl}
/-- a fresh list laid beside: what EN asks of it -/
theorem SR.fresh (r : SR K F I H0 H σ Γ) {l : Addr} {vs : List V} (hl : H l = none) : SR K F I H0 (upd H l (.lst vs)) σ Γ ∧ Same H (upd H l (.lst vs)) ∧ F.k l = none ∧ H0 l = none ∧ Fre (upd H l (.lst vs)) σ Γ l := by
  obtain ⟨r2, s1⟩ := r.beside (o := .lst vs) hl
  exact ⟨r2, s1, Same.free r.f hl, Same.free r.h hl, fre_same r s1 (fre_of r hl)⟩
end
section
variable {K : Kf} {m m1 m2 m3 p p1 p2 p3 : Bool} {te ta tb tc : TE} {tt tu : TT} {Γ Γ1 Γ2 Γ3 : List Sl}
theorem n_lst {α : Type} [i : Rp α] {t : TA} {as : List Ar} {xs : List α} (h : A K m t Γ Γ1 as) (l : Lk i as xs) (hz : xs.length ≤ 100000 := by exact Nat.le_of_ble_eq_true rfl) : EN K m (tLst t) Γ Γ1 xs := fun F I H0 H σ r Q q =>
  h F I H0 H σ r _ fun vs H1 H1' r1 a1 b1 c1 => by
    have c := l.prd c1
    refine ⟨by rw [prd_len c]; exact Nat.le_trans hz (by decide), fun p hp => ?_⟩
    obtain ⟨r2, s1, z1, z2, z3⟩ := r1.fresh (vs := vs) hp
    exact q _ _ _ _ r2 a1 (fun z => (b1 z).trans s1) z1 z2 z3 upd_same c
theorem n_list {α : Type} [i : Rp α] {xs : List α} (h : E K m true ta Γ Γ1 xs) : EN K m (tCB (rList1 K) (tCons ta tNil)) Γ Γ1 xs := fun F I H0 H σ r Q q =>
  h F I H0 H σ r _ fun v H1 H1' r1 a1 b1 c1 => by
    obtain ⟨a, vs, rfl, hs, hp⟩ := rl c1
    refine ⟨a, vs, rfl, .inl (r1.h.seq hs), fun l hl => ?_⟩
    obtain ⟨r2, s1, z1, z2, z3⟩ := r1.fresh (vs := vs) hl
    exact q _ _ _ _ r2 a1 (fun z => (b1 z).trans s1) z1 z2 z3 upd_same hp
theorem n_listB {α : Type} [i : Rp α] [Sc α] {xs : List α} (h : E K m p ta Γ Γ1 xs) : EN K m (tCB (rList1 K) (tCons ta tNil)) Γ Γ1 xs := fun F I H0 H σ r Q q =>
  h.nowP F I H0 H σ r _ fun v H1 H1' r1 a1 b1 c1 => by
    obtain ⟨a, vs, rfl, hs, hp⟩ := rl c1
    refine ⟨a, vs, rfl, .inl hs, fun l hl => ?_⟩
    obtain ⟨r2, s1, z1, z2, z3⟩ := r1.fresh (vs := vs) hl
    exact q _ _ _ _ r2 a1 (fun z => (b1 z).trans s1) z1 z2 z3 upd_same (prd_mono (fun _ _ z => Sc.any z) hp)
/-! ### statements that go on -/
def Go (K : Kf) (t : TS) (Γ Γ' : List Sl) : Prop :=
  ∀ (F : Fm) (I H0 H : Hp) (σ : St) (D : Ends), SR K F I H0 H σ Γ → (∀ H0' H' σ', Same H0 H0' → SR K F I H0' H' σ' Γ' → D.nx σ' H') → t D σ H
theorem pr_set {F : Fm} {I H0 H : Hp} {σ : St} {α : Type} [i : Rp α] {x : α} {v : V} {n : Nat} (r : SR K F I H0 H σ Γ) (h : i.rep K H0 v x) (hn : n < Γ.length) : SR K F I H0 H (σ.set n (some v)) (Γ.set n (pr x)) :=
  r.set (s := pr x) ⟨v, rfl, h⟩ (fun _ z => z.elim) hn
theorem g_set {α : Type} [i : Rp α] {x : α} {n : Nat} (h : E K m true te Γ Γ1 x) (hn : n < Γ1.length := by exact Nat.le_of_ble_eq_true rfl) : Go K (tAsg te (gName n)) Γ (Γ1.set n (pr x)) := fun F I H0 H σ D r q =>
  h F I H0 H σ r _ fun v H1 H1' r1 a1 b1 c1 => q H1 H1' _ a1 (pr_set r1 (by simpa using c1) hn)
/-- a borrowed datum is named: it stands as long as the frame's heap: only from what stands in the frame -/
theorem g_setN {α : Type} [i : Rp α] {xs : List α} {n : Nat} (h : EN K m te Γ Γ1 xs) (hn : n < Γ1.length := by exact Nat.le_of_ble_eq_true rfl) : Go K (tAsg te (gName n)) Γ (Γ1.set n (ow xs)) := fun F I H0 H σ D r q =>
  h F I H0 H σ r _ fun a vs H1 H1' r1 a1 b1 hF h0 hx ha hp => q H1 H1' _ a1 (r1.set (s := ow xs) ⟨a, vs, rfl, (fun _ z => nomatch z), hF, h0, ha, hp⟩ (fun b hb k _ ho => by
    have e : some (V.ref a) = some (V.ref b) := hb
    cases e
    exact hx k ho) hn)
theorem g_drop {α : Type} [i : Rp α] {x : α} (h : E K m p te Γ Γ1 x) : Go K (tDrop te) Γ Γ1 := fun F I H0 H σ D r q => h F I H0 H σ r _ fun v H1 H1' r1 a1 b1 c1 => q H1 H1' σ a1 r1
theorem g_pass : Go K tNext Γ Γ := fun F I H0 H σ D r q => q H0 H σ (Same.refl _) r
theorem own_at {F : Fm} {I H0 H : Hp} {σ : St} {α : Type} {i : Rp α} {xs : List α} {n : Nat} {a : Option Addr} (r : SR K F I H0 H σ Γ) (hn : Γ[n]? = some (.own i a xs)) : ∃ (b : Addr) (vs : List V), σ[n]? = some (some (.ref b)) ∧ F.k b = none ∧ H0 b = none ∧ H b = some (.lst vs) ∧ Prd (i.rep K H0) vs xs := by
  obtain ⟨ov, e1, b, vs, e2, e3, e4, e5, e6, e7⟩ := r.ok n _ hn
  subst e2
  exact ⟨b, vs, e1, e4, e5, e6, e7⟩
/-- xs.append(e) -/
theorem g_app {α : Type} [i : Rp α] {x : α} {xs : List α} {n : Nat} {a a' : Option Addr} {ys : List α} (h0 : Γ[n]? = some (.own i a' ys)) (h : E K m true te Γ Γ1 x) (hn : Γ1[n]? = some (.own i a xs)) (hz : xs.length < 100000) :
    Go K (tDrop (tBM K "list" rAppend (tVar n) (tCons te tNil))) Γ (Γ1.set n (.own i a (xs ++ [x]))) := fun F I H0 H σ D r q => by
  obtain ⟨b, vs, e1, f1, f2, f3, f4⟩ := own_at r h0
  refine ⟨.ref b, e1, Or.inl ⟨rfl, vs, SqL.of f3⟩, h F I H0 H σ r _ fun v H1 H1' r1 a1 b1 c1 => ?_⟩
  obtain ⟨b', vs', e1', g1, g2, g3, g4⟩ := own_at r1 hn
  rw [e1] at e1'
  cases e1'
  refine ⟨b, vs', v, rfl, rfl, g3, ?_, q _ _ σ a1 (r1.mut hn e1 (prd_app g4 (.cons (by simpa using c1) .nil)))⟩
  rw [prd_len g4]
  exact Nat.lt_of_lt_of_le hz (by decide)
/-- xs.clear() -/
theorem g_clear {α : Type} [i : Rp α] {xs : List α} {n : Nat} {a : Option Addr} (hn : Γ[n]? = some (.own i a xs)) : Go K (tDrop (tBM0 K "list" rClear (tVar n))) Γ (Γ.set n (.own i a [])) := fun F I H0 H σ D r q => by
  obtain ⟨b, vs, e1, f1, f2, f3, f4⟩ := own_at r hn
  exact ⟨.ref b, e1, Or.inl ⟨rfl, vs, SqL.of f3⟩, b, vs, rfl, rfl, f3, q _ _ σ (Same.refl _) (r.mut hn e1 .nil)⟩
theorem prd_dropLast {α β : Type} {F : α → β → Prop} {l₁ : List α} {l₂ : List β} (h : Prd F l₁ l₂) : Prd F l₁.dropLast l₂.dropLast := by
  rw [List.dropLast_eq_take, List.dropLast_eq_take, prd_len h]
  exact prd_take _ h
/-- xs.pop() -/
theorem e_pop {α : Type} [i : Rp α] [Inhabited α] {xs : List α} {n : Nat} {a : Option Addr} (hn : Γ[n]? = some (.own i a xs)) (hz : 0 < xs.length) : E K true true (tBM0 K "list" rPop (tVar n)) Γ (Γ.set n (.own i a xs.dropLast)) (gi xs (-1)) := fun F I H0 H σ r Q q => by
  obtain ⟨b, vs, e1, f1, f2, f3, f4⟩ := own_at r hn
  have el := prd_len f4
  obtain ⟨u, u1, u2⟩ := gi_at f4 (k := -1) (by omega)
  have u3 : vs[vs.length - 1]? = some u := by
    unfold atI ixN at u1
    rw [if_neg (by omega), if_pos (by omega)] at u1
    have e : (-1 + (vs.length : Int)).toNat = vs.length - 1 := by omega
    rw [e] at u1
    exact u1
  exact ⟨.ref b, e1, Or.inl ⟨rfl, vs, SqL.of f3⟩, b, vs, u, rfl, rfl, f3, u3, q _ _ _ (r.mut hn e1 (prd_dropLast f4)) (Same.refl _) (fun z => nomatch z) u2⟩
theorem ls_at {α : Type} {F : V → α → Prop} {vs : List V} {xs : List α} {k : Int} {v : V} {x : α} (p : Prd F vs xs) (h : 0 ≤ k ∧ k < xs.length) (f : F v x) : ∃ j, ixN vs.length k = some j ∧ Prd F (vs.set j v) (ls xs k x) := by
  have e := prd_len p
  refine ⟨k.toNat, ?_, ?_⟩
  · unfold ixN
    rw [if_pos h.1, if_pos (by omega)]
  · unfold ls
    rw [if_pos h.1]
    exact prd_set f _ p
/-- xs[k] = e -/
theorem g_setI {α : Type} [i : Rp α] {x : α} {xs ys : List α} {n : Nat} {a a' : Option Addr} {k : Int} (h : E K m1 true te Γ Γ1 x) (h1 : Γ1[n]? = some (.own i a' ys)) (hk : E K m2 p tb Γ1 Γ2 k) (hn : Γ2[n]? = some (.own i a xs)) (hz : 0 ≤ k ∧ k < xs.length) :
    Go K (tAsg te (gSub (tVar n) tb rSetL)) Γ (Γ2.set n (.own i a (ls xs k x))) := fun F I H0 H σ D r q =>
  h F I H0 H σ r _ fun v H1 H1' r1 a1 b1 c1 => by
    obtain ⟨b, vs, e1, f1, f2, f3, f4⟩ := own_at r1 h1
    refine ⟨.ref b, e1, hk.sc F I H1 H1' σ r1 _ fun w H2 H2' r2 a2 b2 c2 => ?_⟩
    obtain ⟨b', vs', e1', g1, g2, g3, g4⟩ := own_at r2 hn
    rw [e1] at e1'
    cases e1'
    subst c2
    obtain ⟨j, j1, j2⟩ := ls_at g4 hz (i.mono a2 (by simpa using c1))
    exact ⟨b, vs', k, j, rfl, rfl, g3, j1, q _ _ σ (a1.trans a2) (r2.mut hn e1 j2)⟩
theorem g_hd0 {n : Nat} {a : Option Addr} {x y z w : Int} (h : E K m1 true te Γ Γ w) (hn : Γ[n]? = some (.own inferInstance a [x, y, z])) : Go K (tAsg te (gSub (tVar n) (tC (.int 0)) rSetL)) Γ (Γ.set n (.own inferInstance a [w, y, z])) := g_setI (k := 0) h hn e_int hn ⟨by decide, by show (0 : Int) < 3; decide⟩
theorem g_hd1 {n : Nat} {a : Option Addr} {x y z w : Int} (h : E K m1 true te Γ Γ w) (hn : Γ[n]? = some (.own inferInstance a [x, y, z])) : Go K (tAsg te (gSub (tVar n) (tC (.int 1)) rSetL)) Γ (Γ.set n (.own inferInstance a [x, w, z])) := g_setI (k := 1) h hn e_int hn ⟨by decide, by show (1 : Int) < 3; decide⟩
theorem g_hd2 {n : Nat} {a : Option Addr} {x y z w : Int} (h : E K m1 true te Γ Γ w) (hn : Γ[n]? = some (.own inferInstance a [x, y, z])) : Go K (tAsg te (gSub (tVar n) (tC (.int 2)) rSetL)) Γ (Γ.set n (.own inferInstance a [x, y, w])) := g_setI (k := 2) h hn e_int hn ⟨by decide, by show (2 : Int) < 3; decide⟩
/-- a list of one's own is given up: it stands for good -/
theorem e_frz {α : Type} [i : Rp α] {xs : List α} {n : Nat} (hn : Γ[n]? = some (.own i none xs)) : E K false true (tVar n) Γ (Γ.set n (.per inferInstance xs)) xs := fun F I H0 H σ r Q q => by
  obtain ⟨b, vs, e1, f1, f2, f3, f4⟩ := own_at r hn
  have hl : n < Γ.length := (List.getElem?_eq_some_iff.mp hn).1
  have r1 : SR K F I H0 H σ (Γ.set n .un) := r.weak (by simp) fun k s e => by
    rcases get_set e with ⟨_, z⟩ | ⟨_, z⟩
    · exact .inl z
    · exact .inr z
  have hx : Fre H σ (Γ.set n .un) b := fre_un r (ftp_at hn e1)
  obtain ⟨r2, s0⟩ := r1.keep f1 f2 hx f3
  have rp : Rp.rep K (upd H0 b (.lst vs)) (.ref b) xs := ⟨b, vs, rfl, upd_same, prd_mono (fun _ _ z => i.mono s0 z) f4⟩
  have r3 := pr_set (n := n) r2 rp (by simpa using hl)
  have e3 : σ.set n (some (.ref b)) = σ := by
    apply List.ext_getElem?
    intro k
    by_cases z : k = n
    · subst z
      rw [List.getElem?_set_self (List.getElem?_eq_some_iff.mp e1).1, e1]
    · rw [List.getElem?_set_ne (Ne.symm z)]
  rw [e3, List.set_set] at r3
  exact ⟨.ref b, e1, q _ _ _ r3 s0 (fun _ => Same.refl _) rp⟩
theorem n_own {α : Type} [i : Rp α] {xs : List α} {n : Nat} (hn : Γ[n]? = some (.own i none xs)) : EN K false (tVar n) Γ (Γ.set n .un) xs := fun F I H0 H σ r Q q => by
  obtain ⟨b, vs, e1, f1, f2, f3, f4⟩ := own_at r hn
  have hl : n < Γ.length := (List.getElem?_eq_some_iff.mp hn).1
  have r1 : SR K F I H0 H σ (Γ.set n .un) := r.weak (by simp) fun k s e => by
    rcases get_set e with ⟨_, z⟩ | ⟨_, z⟩
    · exact .inl z
    · exact .inr z
  refine ⟨.ref b, e1, q b vs _ _ r1 (Same.refl _) (fun _ => Same.refl _) f1 f2 (fre_un r (ftp_at hn e1)) f3 f4⟩
/-! ### tuples taken apart -/
theorem g_tup2 {α β : Type} [i : Rp α] [j : Rp β] {x : α × β} {n k : Nat} (h : E K m true te Γ Γ1 x) (hn : n < Γ1.length := by exact Nat.le_of_ble_eq_true rfl) (hk : k < Γ1.length := by exact Nat.le_of_ble_eq_true rfl) : Go K (tAsg te (gTup K 2 (gCons (gName n) (gCons (gName k) gNil)))) Γ ((Γ1.set n (pr x.1)).set k (pr x.2)) := fun F I H0 H σ D r q =>
  h F I H0 H σ r _ fun v H1 H1' r1 a1 b1 c1 => by
    obtain ⟨a, u1, u2, rfl, hs, e1, e2⟩ := c1
    refine ⟨a, _, rfl, same_t r1.h hs, rfl, u1, _, rfl, u2, _, rfl, rfl, ?_⟩
    exact q H1 H1' _ a1 (pr_set (pr_set r1 e1 hn) e2 (by simpa using hk))
end
/-! ### blocks -/
inductive Ctl (S ρ : Type) where
  | nx (s : S) | ct (s : S) | bk (s : S) | rt (r : ρ)
/-- what is known before is known as this -/
def Wk (Γ Γ' : List Sl) : Prop := Γ'.length ≤ Γ.length ∧ ∀ (n : Nat) (s : Sl), Γ'[n]? = some s → s = .un ∨ Γ[n]? = some s
theorem wk_refl {Γ : List Sl} : Wk Γ Γ := ⟨Nat.le_refl _, fun _ _ h => .inr h⟩
theorem wk_nil {Γ : List Sl} : Wk Γ [] := ⟨Nat.zero_le _, fun _ _ h => by simp at h⟩
theorem wk_un {Γ Γ' : List Sl} {s : Sl} (h : Wk Γ Γ') : Wk (s :: Γ) (.un :: Γ') := ⟨Nat.succ_le_succ h.1, fun n t e => by
  cases n with
  | zero => exact .inl (Option.some.inj e).symm
  | succ n => exact h.2 n t e⟩
theorem wk_eq {Γ Γ' : List Sl} {s : Sl} (h : Wk Γ Γ') : Wk (s :: Γ) (s :: Γ') := ⟨Nat.succ_le_succ h.1, fun n t e => by
  cases n with
  | zero => exact .inr e
  | succ n => exact h.2 n t e⟩
section
variable {K : Kf} {S ρ β : Type} [ib : Rp β]
/-- what a result is: data, heap -/
abbrev Rs (ρ : Type) := Fm → Hp → Hp → St → V → ρ → Prop
/-- it stands for good; it is a list that nobody else holds -/
def PerR (K : Kf) {ρ β : Type} [ib : Rp β] (rv : ρ → β) : Rs ρ := fun _ H0 _ _ v r => ib.rep K H0 v (rv r)
def NewR (K : Kf) {ρ γ : Type} [ib : Rp γ] (rv : ρ → List γ) (rg : ρ → List Sl) : Rs ρ := fun F H0 H σ v r => ∃ a vs, v = .ref a ∧ F.k a = none ∧ H0 a = none ∧ Fre H σ (rg r) a ∧ H a = some (.lst vs) ∧ Prd (ib.rep K H0) vs (rv r)
theorem wk_own {Γ Γ' : List Sl} {σ : St} {H : Hp} {a : Addr} (w : Wk Γ Γ') (h : Fre H σ Γ a) : Fre H σ Γ' a := fun n q => by
  obtain ⟨s, ov, e, e2, f⟩ := q
  rcases w.2 n s e with rfl | q
  · exact f.elim
  · exact h n ⟨s, ov, q, e2, f⟩
/-- what follows an end -/
def Fin (K : Kf) (F : Fm) (I H0 : Hp) (D : Ends) (Γs : S → List Sl) (rp : Rs ρ) (rg : ρ → List Sl) : Ctl S ρ → Prop
  | .nx s => ∀ H0' H' σ', Same H0 H0' → SR K F I H0' H' σ' (Γs s) → D.nx σ' H'
  | .ct s => ∀ H0' H' σ', Same H0 H0' → SR K F I H0' H' σ' (Γs s) → D.ct σ' H'
  | .bk s => ∀ H0' H' σ', Same H0 H0' → SR K F I H0' H' σ' (Γs s) → D.bk σ' H'
  | .rt r => ∀ v H0' H' σ', Same H0 H0' → SR K F I H0' H' σ' (rg r) → rp F H0' H' σ' v r → D.rt v H'
/-- a block within a loop -/
def B (K : Kf) (t : TS) (Γ : List Sl) (Γs : S → List Sl) (rp : Rs ρ) (rg : ρ → List Sl) (c : Ctl S ρ) : Prop :=
  ∀ (F : Fm) (I H0 H : Hp) (σ : St) (D : Ends), SR K F I H0 H σ Γ → Fin K F I H0 D Γs rp rg c → t D σ H
/-- a def's block: it hands back, or runs out (None) -/
def R (K : Kf) (t : TS) (Γ : List Sl) (rp : Rs ρ) (rg : ρ → List Sl) (r : ρ) : Prop :=
  ∀ (F : Fm) (I H0 H : Hp) (σ : St) (D : Ends), SR K F I H0 H σ Γ → (∀ v H0' H' σ', Same H0 H0' → SR K F I H0' H' σ' (rg r) → rp F H0' H' σ' v r → D.rt v H') →
    (∀ H0' H' σ', Same H0 H0' → SR K F I H0' H' σ' (rg r) → rp F H0' H' σ' .non r → D.nx σ' H') → t D σ H
theorem Fin.mono {F : Fm} {I H0 H1 : Hp} {D : Ends} {Γs : S → List Sl} {rp : Rs ρ} {rg : ρ → List Sl} {c : Ctl S ρ} (h : Fin K F I H0 D Γs rp rg c) (s : Same H0 H1) : Fin K F I H1 D Γs rp rg c := by
  cases c with
  | nx _ => exact fun a b c d e => h a b c (s.trans d) e
  | ct _ => exact fun a b c d e => h a b c (s.trans d) e
  | bk _ => exact fun a b c d e => h a b c (s.trans d) e
  | rt _ => exact fun v a b c d e => h v a b c (s.trans d) e
theorem Fin.nx {F : Fm} {I H0 : Hp} {D : Ends} {N : St → Hp → Prop} {Γs : S → List Sl} {rp : Rs ρ} {rg : ρ → List Sl} {r : ρ} (h : Fin K F I H0 D Γs rp rg (.rt r)) : Fin K F I H0 { D with nx := N } Γs rp rg (.rt r) := h
variable {t u : TS} {Γ Γ1 : List Sl} {Γs : S → List Sl} {rp : Rs ρ} {rg : ρ → List Sl}
theorem wk_sr {F : Fm} {I H0 H : Hp} {σ : St} {Γ Γ' : List Sl} (r : SR K F I H0 H σ Γ) (w : Wk Γ Γ') : SR K F I H0 H σ Γ' := r.weak w.1 w.2
theorem b_nx {s : S} (w : Wk Γ (Γs s)) : B K tNext Γ Γs rp rg (.nx s) := fun F I H0 H σ D r q => q H0 H σ (Same.refl _) (wk_sr r w)
theorem b_ct {s : S} (w : Wk Γ (Γs s)) : B K (tSeq tCont u) Γ Γs rp rg (.ct s) := fun F I H0 H σ D r q => q H0 H σ (Same.refl _) (wk_sr r w)
theorem b_bk {s : S} (w : Wk Γ (Γs s)) : B K (tSeq tBreak u) Γ Γs rp rg (.bk s) := fun F I H0 H σ D r q => q H0 H σ (Same.refl _) (wk_sr r w)
theorem b_sq {c : Ctl S ρ} (h : Go K t Γ Γ1) (k : B K u Γ1 Γs rp rg c) : B K (tSeq t u) Γ Γs rp rg c := fun F I H0 H σ D r q => h F I H0 H σ _ r fun H1 H1' σ1 a1 r1 => k F I H1 H1' σ1 D r1 (q.mono a1)
theorem b_bd {α : Sort u} {x : α} {f : α → Ctl S ρ} {Γx : α → List Sl} (h : Go K t Γ (Γx x)) (k : ∀ y, y = x → B K u (Γx y) Γs rp rg (f y)) : B K (tSeq t u) Γ Γs rp rg (bnd x f) := b_sq h (k x rfl)
theorem b_ret {m : Bool} {te : TE} {rv : ρ → β} {x : β} {r : ρ} (h : E K m true te Γ Γ1 x) (e : x = rv r) (w : Wk Γ1 (rg r)) : B K (tSeq (tRet te) u) Γ Γs (PerR K rv) rg (.rt r) := fun F I H0 H σ D r q => by
  subst e
  exact h F I H0 H σ r _ fun v H1 H1' r1 a1 b1 c1 => q v H1 H1' σ a1 (wk_sr r1 w) (show ib.rep K H1 v (rv _) by simpa using c1)
theorem b_retN {m : Bool} {te : TE} {γ : Type} [Rp γ] {rv : ρ → List γ} {x : List γ} {r : ρ} (h : EN K m te Γ Γ1 x) (e : x = rv r) (w : Wk Γ1 (rg r)) : B K (tSeq (tRet te) u) Γ Γs (NewR K rv rg) rg (.rt r) := fun F I H0 H σ D r q => by
  subst e
  exact h F I H0 H σ r _ fun a vs H1 H1' r1 a1 b1 z1 z2 z3 z4 z5 => q _ H1 H1' σ a1 (wk_sr r1 w) ⟨a, vs, rfl, z1, z2, wk_own w z3, z4, z5⟩
theorem b_if {m : Bool} {tc : TT} {t1 t2 : TS} {b : Bool} {c1 c2 : Ctl S ρ} (h : Tt K m tc Γ Γ1 b) (h1 : b = true → B K (tSeq t1 u) Γ1 Γs rp rg c1) (h2 : b = false → B K (tSeq t2 u) Γ1 Γs rp rg c2) : B K (tSeq (tIfS tc t1 t2) u) Γ Γs rp rg (if b = true then c1 else c2) := fun F I H0 H σ D r q =>
  h F I H0 H σ r _ fun H1 H1' r1 a1 b1 => by
    cases b with
    | true =>
      rw [if_pos rfl] at q
      rw [if_pos rfl]
      exact h1 rfl F I H1 H1' σ D r1 (q.mono a1)
    | false =>
      rw [if_neg (by decide)] at q
      rw [if_neg (by decide)]
      exact h2 rfl F I H1 H1' σ D r1 (q.mono a1)
theorem b_as {t1 t2 : TS} {c : Ctl S ρ} (h : B K (tSeq t1 (tSeq t2 u)) Γ Γs rp rg c) : B K (tSeq (tSeq t1 t2) u) Γ Γs rp rg c := h
theorem b_nil {c : Ctl S ρ} (h : B K u Γ Γs rp rg c) : B K (tSeq tNext u) Γ Γs rp rg c := h
/-- a block that only goes on, with a fact about its end -/
def GP (K : Kf) (t : TS) (Γ : List Sl) {J : Type} (Γe : J → List Sl) (Pe : J → Prop) (x : J) : Prop := Go K t Γ (Γe x) ∧ Pe x
/-- both ways of an if meet -/
theorem g_if {J : Type} {m : Bool} {tc : TT} {t1 t2 : TS} {b : Bool} (Γj : J → List Sl) (Pe : J → Prop) {x1 x2 : J} (h : Tt K m tc Γ Γ1 b) (h1 : b = true → GP K t1 Γ1 Γj Pe x1) (h2 : b = false → GP K t2 Γ1 Γj Pe x2) : Go K (tIfS tc t1 t2) Γ (Γj (if b = true then x1 else x2)) ∧ Pe (if b = true then x1 else x2) := by
  refine ⟨fun F I H0 H σ D r q => h F I H0 H σ r _ fun H1 H1' r1 a1 b1 => ?_, ?_⟩
  · cases b with
    | true =>
      rw [if_pos rfl] at q
      rw [if_pos rfl]
      exact (h1 rfl).1 F I H1 H1' σ D r1 fun a b c d e => q a b c (a1.trans d) e
    | false =>
      rw [if_neg (by decide)] at q
      rw [if_neg (by decide)]
      exact (h2 rfl).1 F I H1 H1' σ D r1 fun a b c d e => q a b c (a1.trans d) e
  · cases b with
    | true => rw [if_pos rfl]; exact (h1 rfl).2
    | false => rw [if_neg (by decide)]; exact (h2 rfl).2
theorem g_sq {Γ2 : List Sl} (h : Go K t Γ Γ1) (k : Go K u Γ1 Γ2) : Go K (tSeq t u) Γ Γ2 := fun F I H0 H σ D r q => h F I H0 H σ _ r fun H1 H1' σ1 a1 r1 => k F I H1 H1' σ1 D r1 fun a b c d e => q a b c (a1.trans d) e
theorem g_wk (w : Wk Γ Γ1) : Go K tNext Γ Γ1 := fun F I H0 H σ D r q => q H0 H σ (Same.refl _) (wk_sr r w)
/-! .. the same of a def's block -/
theorem r_sq {c : ρ} (h : Go K t Γ Γ1) (k : R K u Γ1 rp rg c) : R K (tSeq t u) Γ rp rg c := fun F I H0 H σ D r q n => h F I H0 H σ _ r fun H1 H1' σ1 a1 r1 => k F I H1 H1' σ1 D r1 (fun v a b c d => q v a b c (a1.trans d)) (fun a b c d => n a b c (a1.trans d))
theorem r_bd {α : Sort u} {x : α} {f : α → ρ} {Γx : α → List Sl} (h : Go K t Γ (Γx x)) (k : ∀ y, y = x → R K u (Γx y) rp rg (f y)) : R K (tSeq t u) Γ rp rg (bnd x f) := r_sq h (k x rfl)
theorem r_ret {m : Bool} {te : TE} {rv : ρ → β} {x : β} {r : ρ} (h : E K m true te Γ Γ1 x) (e : x = rv r) (w : Wk Γ1 (rg r)) : R K (tSeq (tRet te) u) Γ (PerR K rv) rg r := fun F I H0 H σ D r q _ => by
  subst e
  exact h F I H0 H σ r _ fun v H1 H1' r1 a1 b1 c1 => q v H1 H1' σ a1 (wk_sr r1 w) (show ib.rep K H1 v (rv _) by simpa using c1)
theorem r_retN {m : Bool} {te : TE} {γ : Type} [Rp γ] {rv : ρ → List γ} {x : List γ} {r : ρ} (h : EN K m te Γ Γ1 x) (e : x = rv r) (w : Wk Γ1 (rg r)) : R K (tSeq (tRet te) u) Γ (NewR K rv rg) rg r := fun F I H0 H σ D r q _ => by
  subst e
  exact h F I H0 H σ r _ fun a vs H1 H1' r1 a1 b1 z1 z2 z3 z4 z5 => q _ H1 H1' σ a1 (wk_sr r1 w) ⟨a, vs, rfl, z1, z2, wk_own w z3, z4, z5⟩
theorem r_bdI {α : Sort u} {x : α} {f : α → ρ} {Γx : α → List Sl} {Iv : α → Prop} (h : Go K t Γ (Γx x) ∧ Iv x) (k : ∀ y, y = x → Iv y → R K u (Γx y) rp rg (f y)) : R K (tSeq t u) Γ rp rg (bnd x f) := r_sq h.1 (k x rfl h.2)
theorem b_bdI {α : Sort u} {x : α} {f : α → Ctl S ρ} {Γx : α → List Sl} {Iv : α → Prop} (h : Go K t Γ (Γx x) ∧ Iv x) (k : ∀ y, y = x → Iv y → B K u (Γx y) Γs rp rg (f y)) : B K (tSeq t u) Γ Γs rp rg (bnd x f) := b_sq h.1 (k x rfl h.2)
theorem g_bdI {J : Type} {Γe : J → List Sl} {Pe : J → Prop} {α : Sort u} {x : α} {f : α → J} {Γx : α → List Sl} {Iv : α → Prop} (h : Go K t Γ (Γx x) ∧ Iv x) (k : ∀ y, y = x → Iv y → GP K u (Γx y) Γe Pe (f y)) : GP K (tSeq t u) Γ Γe Pe (bnd x f) := ⟨g_sq h.1 (k x rfl h.2).1, (k x rfl h.2).2⟩
theorem r_end {rv : ρ → β} {r : ρ} (e : ∀ H, ib.rep K H .non (rv r)) (w : Wk Γ (rg r)) : R K tNext Γ (PerR K rv) rg r := fun F I H0 H σ D r _ n => n H0 H σ (Same.refl _) (wk_sr r w) (e _)
theorem r_let {α : Sort u} {x : α} {f : α → ρ} (k : ∀ y, y = x → R K t Γ rp rg (f y)) : R K t Γ rp rg (bnd x f) := k x rfl
theorem b_let {α : Sort u} {x : α} {f : α → Ctl S ρ} (k : ∀ y, y = x → B K t Γ Γs rp rg (f y)) : B K t Γ Γs rp rg (bnd x f) := k x rfl
theorem g_let {J : Type} {Γe : J → List Sl} {Pe : J → Prop} {α : Sort u} {x : α} {f : α → J} (k : ∀ y, y = x → GP K t Γ Γe Pe (f y)) : GP K t Γ Γe Pe (bnd x f) := k x rfl
theorem g_bd {J : Type} {Γe : J → List Sl} {Pe : J → Prop} {α : Sort u} {x : α} {f : α → J} {Γx : α → List Sl} (h : Go K t Γ (Γx x)) (k : ∀ y, y = x → GP K u (Γx y) Γe Pe (f y)) : GP K (tSeq t u) Γ Γe Pe (bnd x f) := ⟨g_sq h (k x rfl).1, (k x rfl).2⟩
theorem gp_sq {J : Type} {Γe : J → List Sl} {Pe : J → Prop} {x : J} (h : Go K t Γ Γ1) (k : GP K u Γ1 Γe Pe x) : GP K (tSeq t u) Γ Γe Pe x := ⟨g_sq h k.1, k.2⟩
theorem gp_wk {J : Type} {Γe : J → List Sl} {Pe : J → Prop} {x : J} (w : Wk Γ (Γe x)) (p : Pe x) : GP K tNext Γ Γe Pe x := ⟨g_wk w, p⟩
theorem r_if {m : Bool} {tc : TT} {t1 t2 : TS} {b : Bool} {c1 c2 : ρ} (h : Tt K m tc Γ Γ1 b) (h1 : b = true → R K (tSeq t1 u) Γ1 rp rg c1) (h2 : b = false → R K (tSeq t2 u) Γ1 rp rg c2) : R K (tSeq (tIfS tc t1 t2) u) Γ rp rg (if b = true then c1 else c2) := fun F I H0 H σ D r q n =>
  h F I H0 H σ r _ fun H1 H1' r1 a1 b1 => by
    cases b with
    | true =>
      rw [if_pos rfl] at q n
      rw [if_pos rfl]
      exact h1 rfl F I H1 H1' σ D r1 (fun v a b c d => q v a b c (a1.trans d)) (fun a b c d => n a b c (a1.trans d))
    | false =>
      rw [if_neg (by decide)] at q n
      rw [if_neg (by decide)]
      exact h2 rfl F I H1 H1' σ D r1 (fun v a b c d => q v a b c (a1.trans d)) (fun a b c d => n a b c (a1.trans d))
/-- a way that cannot be -/
theorem r_no {r : ρ} (h : False) : R K t Γ rp rg r := h.elim
theorem r_as {t1 t2 : TS} {c : ρ} (h : R K (tSeq t1 (tSeq t2 u)) Γ rp rg c) : R K (tSeq (tSeq t1 t2) u) Γ rp rg c := h
theorem r_nil {c : ρ} (h : R K u Γ rp rg c) : R K (tSeq tNext u) Γ rp rg c := h
end
end FF

set_option Elab.async false
set_option linter.all false
set_option maxRecDepth 100000
set_option maxHeartbeats 2000000
namespace FF
open PySem L2
/-! ### a thing beside, that is kept by the frame for a while -/
section
variable {K : Kf} {F : Fm} {I H0 H : Hp} {σ : St} {Γ : List Sl}
def Fm.plus (F : Fm) (a : Addr) (o : HO) (h : F.k a = none) : Fm := ⟨upd F.k a o, F.b, fun b u e => by rw [upd_ne (ne_of_none (F.sub b u e) h)]; exact F.sub b u e⟩
theorem SR.guard (r : SR K F I H0 H σ Γ) {a : Addr} {vl : List V} (hF : F.k a = none) (h0 : H0 a = none) (hn : Fre H σ Γ a) (ha : H a = some (.lst vl)) : SR K (F.plus a (.lst vl) hF) I H0 H σ Γ := by
  generalize ho : HO.lst vl = o at ha
  refine ⟨fun b u e => ?_, r.i, fun b u e n => ?_, r.h, r.len, fun n s e => ?_, r.dj⟩
  · by_cases hb : b = a
    · subst hb
      have e' : upd F.k b o b = some u := e
      rw [upd_same] at e'; cases e'; exact ha
    · have e' : upd F.k a o b = some u := e
      rw [upd_ne hb] at e'; exact r.f b u e'
  · by_cases hb : b = a
    · subst hb; exact h0
    · have e' : upd F.k a o b = some u := e
      rw [upd_ne hb] at e'; exact r.g b u e' n
  · obtain ⟨ov, q1, q2⟩ := r.ok n s e
    refine ⟨ov, q1, ?_⟩
    cases s with
    | un => trivial
    | per i x => exact q2
    | bor i x => exact q2
    | bl i x => exact q2
    | own i p xs =>
      obtain ⟨b, vs, e2, e3, e4, e5, e6, e7⟩ := q2
      have nb : b ≠ a := fun z => hn n ⟨_, _, e, q1, by show ov = _; rw [e2, z]⟩
      exact ⟨b, vs, e2, e3, (by show upd F.k a o b = none; rw [upd_ne nb]; exact e4), e5, e6, e7⟩
    | dp i p xss => exact dpOk.mono (p' := p) q2 (fun b hb z => by show upd F.k a o b = none; rw [upd_ne (fun w => by subst w; exact hn n ⟨_, _, e, q1, hb⟩)]; exact z) (fun _ _ z => z) (fun _ _ _ z => z) fun _ _ z => z
    | gn G => exact gnOk.mono q2 (fun b hb z => by show upd F.k a o b = none; rw [upd_ne (fun w => by subst w; exact hn n ⟨_, _, e, q1, hb⟩)]; exact z) (fun _ _ z => z) (fun _ _ _ z => z) fun _ z => z
    | ob b C dx fs =>
      obtain ⟨e2, e3, e4, e5, e6, e7, vs, e8, e9⟩ := q2
      exact ⟨e2, (by show upd F.k a o b = none; rw [upd_ne (ne_of e8 ha (fun z => by rw [← ho] at z; cases z))]; exact e3), e4, (by show upd F.k a o dx = none; rw [upd_ne (ne_of e7 ha (fun z => by rw [← ho] at z; cases z))]; exact e5), e6, e7, vs, e8, e9⟩
theorem SR.unguard {a : Addr} {o : HO} {hF : F.k a = none} (r : SR K (F.plus a o hF) I H0 H σ Γ) (hI : I a = none) : SR K F I H0 H σ Γ ∧ H0 a = none ∧ H a = some o ∧ Fre H σ Γ a := by
  have sub : ∀ b u, F.k b = some u → (F.plus a o hF).k b = some u := fun b u e => by
    show upd F.k a o b = some u
    rw [upd_ne (ne_of_none e hF)]; exact e
  have self : (F.plus a o hF).k a = some o := upd_same
  refine ⟨⟨fun b u e => r.f b u (sub b u e), r.i, fun b u e n => r.g b u (sub b u e) n, r.h, r.len, fun n s e => ?_, r.dj⟩, r.g a o self hI, r.f a o self, fun n h => by
    obtain ⟨z, _⟩ := ftp_own r h
    rw [self] at z
    cases z⟩
  · obtain ⟨ov, q1, q2⟩ := r.ok n s e
    refine ⟨ov, q1, ?_⟩
    cases s with
    | un => trivial
    | per i x => exact q2
    | bor i x => exact q2
    | bl i x => exact q2
    | own i p xs =>
      obtain ⟨b, vs, e2, e3, e4, e5, e6, e7⟩ := q2
      refine ⟨b, vs, e2, e3, ?_, e5, e6, e7⟩
      cases z : F.k b with
      | none => rfl
      | some u => rw [sub b u z] at e4; cases e4
    | dp i p xss =>
      refine dpOk.mono (p' := p) q2 (fun b hb q => ?_) (fun _ _ z => z) (fun _ _ _ z => z) fun _ _ z => z
      cases z : F.k b with
      | none => rfl
      | some u => rw [sub b u z] at q; cases q
    | gn G =>
      refine gnOk.mono q2 (fun b hb q => ?_) (fun _ _ z => z) (fun _ _ _ z => z) fun _ z => z
      cases z : F.k b with
      | none => rfl
      | some u => rw [sub b u z] at q; cases q
    | ob b C dx fs =>
      obtain ⟨e2, e3, e4, e5, e6, e7, vs, e8, e9⟩ := q2
      have nn : ∀ c, (F.plus a o hF).k c = none → F.k c = none := fun c hc => by
        cases z : F.k c with
        | none => rfl
        | some u => rw [sub c u z] at hc; cases hc
      exact ⟨e2, nn _ e3, e4, nn _ e5, e6, e7, vs, e8, e9⟩
end
/-! ### targets -/
def Tg (K : Kf) (o : Bool) (g : TG) {α : Type} (i : Rp α) (x : α) (Γ Γ' : List Sl) : Prop :=
  ∀ (F : Fm) (I H0 H : Hp) (σ : St) (v : V), SR K F I H0 H σ Γ → i.rep K (if o = true then H0 else F.b) v x → ∀ Q : St → Hp → Prop, (∀ σ', SR K F I H0 H σ' Γ' → Q σ' H) → g v σ H Q
section
variable {K : Kf} {Γ : List Sl}
theorem tg_name {α : Type} [i : Rp α] {x : α} {n : Nat} (hn : n < Γ.length := by exact Nat.le_of_ble_eq_true rfl) : Tg K true (gName n) i x Γ (Γ.set n (pr x)) := fun F I H0 H σ v r h Q q => q _ (pr_set r h hn)
theorem tg_two {α β : Type} [i : Rp α] [j : Rp β] {x : α × β} {n k : Nat} (hn : n < Γ.length := by exact Nat.le_of_ble_eq_true rfl) (hk : k < Γ.length := by exact Nat.le_of_ble_eq_true rfl) : Tg K true (gTup K 2 (gCons (gName n) (gCons (gName k) gNil))) (inferInstance : Rp (α × β)) x Γ ((Γ.set n (pr x.1)).set k (pr x.2)) := fun F I H0 H σ v r h Q q => by
  obtain ⟨a, u1, u2, rfl, hs, e1, e2⟩ := h
  exact ⟨a, _, rfl, same_t r.h hs, rfl, u1, _, rfl, u2, _, rfl, rfl, q _ (pr_set (pr_set r e1 hn) e2 (by simpa using hk))⟩
end
/-! ### what a loop walks -/
/-- the ints of a range -/
theorem rng_len (lo hi : Int) : (rng lo hi).length = (hi - lo).toNat := by unfold rng; simp
theorem rng_get {lo hi : Int} {i : Nat} (h : i < (hi - lo).toNat) : (rng lo hi)[i]? = some (lo + (i : Int)) := by
  unfold rng
  rw [List.getElem?_map, List.getElem?_range h]
  rfl
theorem take_succ {α : Type} {l : List α} {i : Nat} {x : α} (h : l[i]? = some x) : l.take (i + 1) = l.take i ++ [x] := by
  rw [List.take_add_one, h]
  rfl
/-- what a turn of a walk hands out: an item, or an item that is made anew -/
def Yl (K : Kf) (o : Bool) (Fb H1 H1' : Hp) {α : Type} (i : Rp α) (x : α) (v : V) (H2 : Hp) : Prop :=
  (H2 = H1' ∧ i.rep K (if o = true then H1 else Fb) v x) ∨ (∃ (T : Addr) (ob : HO), H1' T = none ∧ H2 = upd H1' T ob ∧ i.rep K (if o = true then upd H1 T ob else Fb) v x)
theorem Yl.step {K : Kf} {o : Bool} {Fb : Hp} {G : Fm} {I H0 H H2 : Hp} {σ : St} {Γ : List Sl} {α : Type} {i : Rp α} {x : α} {v : V} (y : Yl K o Fb H0 H i x v H2) (r : SR K G I H0 H σ Γ) : ∃ H0n, Same H0 H0n ∧ SR K G I H0n H2 σ Γ ∧ i.rep K (if o = true then H0n else Fb) v x ∧ Same H H2 := by
  rcases y with ⟨rfl, h⟩ | ⟨T, ob, hT, rfl, h⟩
  · exact ⟨H0, Same.refl _, r, h, Same.refl _⟩
  · obtain ⟨r2, s0, s1⟩ := r.alloc (o := ob) hT
    exact ⟨_, s0, r2, h, s1⟩
theorem yl_in {K : Kf} {o : Bool} {Fb H1 H1' : Hp} {α : Type} {i : Rp α} {x : α} {v : V} {H2 : Hp} (h : H2 = H1' ∧ i.rep K (if o = true then H1 else Fb) v x) : Yl K o Fb H1 H1' i x v H2 := .inl h
/-- a walk: its data in order, and that a for over it may be shown turn by turn -/
def Wlk (K : Kf) (o m : Bool) (wi : TI) (Γ Γ' : List Sl) {α : Type} (i : Rp α) (xs : List α) : Prop :=
  ∀ (F : Fm) (I H0 H : Hp) (σ : St), SR K F I H0 H σ Γ → ∀ R : It → Hp → Prop,
    (∀ J H0' H', SR K F I H0' H' σ Γ' → Same H0 H0' → (m = false → Same H H') →
      (∀ (n : Nat) (H1 H1' : Hp), Same H0' H1 → Same H1 H1' → Same F.k H1' → n ≤ xs.length → (n = xs.length → J.stop n H1') ∧ (∀ x, xs[n]? = some x → J.go n H1' ∧ ∀ v H2, J.yld n H1' v H2 → Yl K o F.b H1 H1' i x v H2)) → R J H') → wi σ H R
section
variable {K : Kf} {m m1 m2 p : Bool} {Γ Γ1 Γ2 : List Sl} {ta tl te : TE}
theorem w_list {α : Type} [i : Rp α] {xs : List α} (h : E K m true tl Γ Γ1 xs) : Wlk K true m (iList K tl) Γ Γ1 i xs := fun F I H0 H σ r R q =>
  h F I H0 H σ r _ fun v H1 H1' r1 a1 b1 c1 => by
    obtain ⟨a, vs, rfl, hs, hp⟩ := rl c1
    have el := prd_len hp
    refine ⟨a, rfl, ⟨vs, r1.h.seq hs⟩, q (Itl K a) H1 H1' r1 a1 b1 fun n H2 H2' s2 s3 _ hn => ⟨fun e => ⟨vs, (s2.trans s3).seq hs, by omega⟩, fun x hx => ?_⟩⟩
    obtain ⟨u, e1, e2⟩ := prd_get hp hx
    have hs' := (s2.trans s3).seq hs
    refine ⟨⟨vs, u, hs', e1⟩, fun v H3 y => ?_⟩
    obtain ⟨e3, e4⟩ := y
    have e5 := e4 vs hs'
    rw [e1] at e5
    cases e5
    exact yl_in ⟨e3, i.mono s2 e2⟩
theorem w_tup {α : Type} [i : Rp α] {xs : Tu α} (h : E K m true tl Γ Γ1 xs) : Wlk K true m (iTup K tl) Γ Γ1 i xs.l := fun F I H0 H σ r R q =>
  h F I H0 H σ r _ fun v H1 H1' r1 a1 b1 c1 => by
    obtain ⟨a, vs, rfl, hs, hp⟩ := c1
    have el := prd_len hp
    refine ⟨a, rfl, ⟨vs, same_t r1.h hs⟩, q (Itt K a) H1 H1' r1 a1 b1 fun n H2 H2' s2 s3 _ hn => ⟨fun e => ⟨vs, same_t (s2.trans s3) hs, by omega⟩, fun x hx => ?_⟩⟩
    obtain ⟨u, e1, e2⟩ := prd_get hp hx
    have hs' := same_t (s2.trans s3) hs
    refine ⟨⟨vs, u, hs', e1⟩, fun v H3 y => ?_⟩
    obtain ⟨e3, e4⟩ := y
    have e5 := e4 vs hs'
    rw [e1] at e5
    cases e5
    exact yl_in ⟨e3, i.mono s2 e2⟩
theorem w_rng1 {t : TA} {n : Int} (h : A K m t Γ Γ1 [ap n]) (hn : n < 2 ^ 62) (hm : -(2 ^ 62) ≤ n) : Wlk K true m (iRng1 t) Γ Γ1 (inferInstance : Rp Int) (rng 0 n) := fun F I H0 H σ r R q =>
  h F I H0 H σ r _ fun vs H1 H1' r1 a1 b1 c1 => by
    cases c1 with | cons z1 c1 => cases c1 with | nil =>
    cases (show _ = V.int n from z1)
    refine ⟨n, rfl, hm, hn, q _ H1 H1' r1 a1 b1 fun k H2 H2' s2 s3 _ hk => ?_⟩
    rw [rng_len] at hk
    have e0 : (n - 0).toNat = n.toNat := by rw [Int.sub_zero]
    refine ⟨fun e => ?_, fun x hx => ?_⟩
    · rw [rng_len, e0] at e
      show n.toNat ≤ k
      omega
    · have hl := (List.getElem?_eq_some_iff.mp hx).1
      rw [rng_len] at hl
      rw [rng_get hl] at hx
      cases hx
      refine ⟨by show k < n.toNat; omega, fun v H3 y => yl_in ⟨y.1, y.2⟩⟩
theorem w_rng2 {t : TA} {lo n : Int} (h : A K m t Γ Γ1 [ap lo, ap n]) (hn : -(2 ^ 62) ≤ lo ∧ lo < 2 ^ 62 ∧ -(2 ^ 62) ≤ n ∧ n < 2 ^ 62) : Wlk K true m (iRng2 t) Γ Γ1 (inferInstance : Rp Int) (rng lo n) := fun F I H0 H σ r R q =>
  h F I H0 H σ r _ fun vs H1 H1' r1 a1 b1 c1 => by
    cases c1 with | cons z1 c1 => cases c1 with | cons z2 c1 => cases c1 with | nil =>
    cases (show _ = V.int lo from z1)
    cases (show _ = V.int n from z2)
    refine ⟨lo, n, rfl, ⟨hn.1, hn.2.1, hn.2.2.1, hn.2.2.2⟩, q _ H1 H1' r1 a1 b1 fun k H2 H2' s2 s3 _ hk => ?_⟩
    rw [rng_len] at hk
    refine ⟨fun e => ?_, fun x hx => ?_⟩
    · rw [rng_len] at e
      show (n - lo).toNat ≤ k
      omega
    · have hl := (List.getElem?_eq_some_iff.mp hx).1
      rw [rng_len] at hl
      rw [rng_get hl] at hx
      cases hx
      exact ⟨hl, fun v H3 y => yl_in ⟨y.1, y.2⟩⟩
end
/-! ### for -/
section
variable {K : Kf} {S ρ : Type} {o m : Bool} {wi : TI} {g : TG} {tb u : TS} {Γ Γ1 : List Sl} {rp : Rs ρ} {rg : ρ → List Sl}
def loopL {α : Type} (f : S → α → Ctl S ρ) : S → List α → ρ ⊕ S
  | s, [] => .inr s
  | s, x :: xs => match f s x with
    | .nx s' => loopL f s' xs
    | .ct s' => loopL f s' xs
    | .bk s' => .inr s'
    | .rt r => .inl r
def ends {τ : Type u} (x : ρ ⊕ S) (f : ρ → τ) (g : S → τ) : τ := match x with
  | .inl r => f r
  | .inr s => g s
/-- a for whose turns only go on -/
theorem g_for {α : Type} {i : Rp α} {xs : List α} {s0 : S} {f : S → α → S} (Γs : S → List Sl) (Γt : S → α → List Sl) (Inv : Nat → S → Prop) (hw : Wlk K o m wi Γ Γ1 i xs) (w : Wk Γ1 (Γs s0)) (h0 : Inv 0 s0)
    (ht : ∀ s x, Tg K o g i x (Γs s) (Γt s x)) (hbi : ∀ (n : Nat) s x, xs[n]? = some x → Inv n s → GP K tb (Γt s x) Γs (Inv (n + 1)) (f s x)) :
    Go K (tFor wi g tb) Γ (Γs (xs.foldl f s0)) ∧ Inv xs.length (xs.foldl f s0) := by
  have hb : ∀ (n : Nat) s x, xs[n]? = some x → Inv n s → Go K tb (Γt s x) (Γs (f s x)) := fun n s x h1 h2 => (hbi n s x h1 h2).1
  have hi : ∀ (n : Nat) s x, xs[n]? = some x → Inv n s → Inv (n + 1) (f s x) := fun n s x h1 h2 => (hbi n s x h1 h2).2
  have inv : ∀ n, n ≤ xs.length → Inv n ((xs.take n).foldl f s0) := by
    intro n
    induction n with
    | zero => intro _; exact h0
    | succ n ih =>
      intro hn
      have hx : xs[n]? = some xs[n] := List.getElem?_eq_getElem (by omega)
      rw [take_succ hx, List.foldl_append]
      exact hi n _ _ hx (ih (by omega))
  refine ⟨fun F I H0 H σ D r q => ?_, by have h := inv xs.length (Nat.le_refl _); rwa [List.take_length] at h⟩
  refine hw F I H0 H σ r _ fun J H1 H1' r1 a1 b1 turn => ?_
  refine ⟨fun n k σ' H' => k = xs.length - n ∧ n ≤ xs.length ∧ ∃ H0', Same H1 H0' ∧ SR K F I H0' H' σ' (Γs ((xs.take n).foldl f s0)), ⟨xs.length, by simp, Nat.zero_le _, H1, Same.refl _, wk_sr r1 w⟩, ?_⟩
  rintro n k σ' H' ⟨rfl, hn, H0', s0', r'⟩
  obtain ⟨t1, t2⟩ := turn n H0' H' s0' r'.h r'.f hn
  by_cases hl : n < xs.length
  · have hx : xs[n]? = some xs[n] := List.getElem?_eq_getElem hl
    obtain ⟨t3, t4⟩ := t2 _ hx
    refine .inr ⟨t3, fun σ2 H2 => ∃ H0'', Same H1 H0'' ∧ SR K F I H0'' H2 σ2 (Γs ((xs.take (n + 1)).foldl f s0)), fun σ2 H2 ⟨H0'', z1, z2⟩ => ⟨xs.length - (n + 1), by omega, rfl, by omega, H0'', z1, z2⟩, fun v H2 y => ?_⟩
    obtain ⟨H0n, sn, r'', y2, _⟩ := (t4 v H2 y).step r'
    refine ht _ _ F I H0n H2 σ' v r'' y2 _ fun σ2 r2 => ?_
    refine hb n _ _ hx (inv n hn) F I H0n H2 σ2 _ r2 fun H3 H3' σ3 a3 r3 => ⟨H3, (s0'.trans sn).trans a3, ?_⟩
    rw [take_succ hx, List.foldl_append]
    exact r3
  · have e : n = xs.length := by omega
    subst e
    rw [List.take_length] at r'
    exact .inl ⟨t1 rfl, q H0' H' σ' (a1.trans s0') r'⟩
theorem loop_drop {α : Type} {f : S → α → Ctl S ρ} {s : S} {xs : List α} {n : Nat} {x : α} (h : xs[n]? = some x) : loopL f s (xs.drop n) = (match f s x with | .nx s' => loopL f s' (xs.drop (n + 1)) | .ct s' => loopL f s' (xs.drop (n + 1)) | .bk s' => .inr s' | .rt r => .inl r) := by
  have hl := (List.getElem?_eq_some_iff.mp h).1
  have e : xs.drop n = x :: xs.drop (n + 1) := by
    rw [List.drop_eq_getElem_cons hl]
    rw [List.getElem?_eq_getElem hl] at h
    cases h
    rfl
  rw [e]
  rfl
/-- a for that may be left: what holds at its end -/
theorem for_core {α : Type} {i : Rp α} {xs : List α} {s0 : S} {f : S → α → Ctl S ρ} {F : Fm} {I H0 H : Hp} {σ : St} {D : Ends} (Γs : S → List Sl) (Γt : S → α → List Sl) (Inv : Nat → S → Prop) (hw : Wlk K o m wi Γ Γ1 i xs) (w : Wk Γ1 (Γs s0)) (h0 : Inv 0 s0)
    (ht : ∀ s x, Tg K o g i x (Γs s) (Γt s x)) (hb : ∀ (n : Nat) s x, xs[n]? = some x → Inv n s → B K tb (Γt s x) Γs rp rg (f s x)) (hi : ∀ (n : Nat) s x s', xs[n]? = some x → Inv n s → f s x = .nx s' ∨ f s x = .ct s' → Inv (n + 1) s')
    (r : SR K F I H0 H σ Γ)
    (qr : ∀ z, loopL f s0 xs = .inl z → ∀ v H0' H' σ', Same H0 H0' → SR K F I H0' H' σ' (rg z) → rp F H0' H' σ' v z → D.rt v H')
    (qn : ∀ s, loopL f s0 xs = .inr s → (∃ n s', n ≤ xs.length ∧ Inv n s' ∧ (s = s' ∧ n = xs.length ∨ ∃ x, xs[n]? = some x ∧ f s' x = .bk s)) → ∀ H0' H' σ', Same H0 H0' → SR K F I H0' H' σ' (Γs s) → D.nx σ' H') : tFor wi g tb D σ H := by
  refine hw F I H0 H σ r _ fun J H1 H1' r1 a1 b1 turn => ?_
  refine ⟨fun n k σ' H' => k = xs.length - n ∧ n ≤ xs.length ∧ ∃ H0' s, Same H1 H0' ∧ SR K F I H0' H' σ' (Γs s) ∧ Inv n s ∧ loopL f s0 xs = loopL f s (xs.drop n), ⟨xs.length, by simp, Nat.zero_le _, H1, s0, Same.refl _, wk_sr r1 w, h0, rfl⟩, ?_⟩
  rintro n k σ' H' ⟨rfl, hn, H0', s, s0', r', hI, hL⟩
  obtain ⟨t1, t2⟩ := turn n H0' H' s0' r'.h r'.f hn
  by_cases hl : n < xs.length
  · have hx : xs[n]? = some xs[n] := List.getElem?_eq_getElem hl
    obtain ⟨t3, t4⟩ := t2 _ hx
    rw [loop_drop hx] at hL
    refine .inr ⟨t3, fun σ2 H2 => ∃ H0'' s', Same H1 H0'' ∧ SR K F I H0'' H2 σ2 (Γs s') ∧ Inv (n + 1) s' ∧ loopL f s0 xs = loopL f s' (xs.drop (n + 1)), fun σ2 H2 ⟨H0'', s', z1, z2, z3, z4⟩ => ⟨xs.length - (n + 1), by omega, rfl, by omega, H0'', s', z1, z2, z3, z4⟩, fun v H2 y => ?_⟩
    obtain ⟨H0n, sn, r'', y2, _⟩ := (t4 v H2 y).step r'
    refine ht _ _ F I H0n H2 σ' v r'' y2 _ fun σ2 r2 => ?_
    refine hb n s _ hx hI F I H0n H2 σ2 _ r2 ?_
    have s0' := s0'.trans sn
    cases e : f s xs[n] with
    | nx s' =>
      rw [e] at hL
      exact fun H3 H3' σ3 a3 r3 => ⟨H3, s', s0'.trans a3, r3, hi n s _ s' hx hI (.inl e), hL⟩
    | ct s' =>
      rw [e] at hL
      exact fun H3 H3' σ3 a3 r3 => ⟨H3, s', s0'.trans a3, r3, hi n s _ s' hx hI (.inr e), hL⟩
    | bk s' =>
      rw [e] at hL
      exact fun H3 H3' σ3 a3 r3 => qn s' hL ⟨n, s, hn, hI, .inr ⟨_, hx, e⟩⟩ H3 H3' σ3 ((a1.trans s0').trans a3) r3
    | rt z =>
      rw [e] at hL
      exact fun v H3 H3' σ3 a3 r3 rv3 => qr z hL v H3 H3' σ3 ((a1.trans s0').trans a3) r3 rv3
  · have e : n = xs.length := by omega
    subst e
    rw [List.drop_length] at hL
    exact .inl ⟨t1 rfl, qn s hL ⟨_, s, Nat.le_refl _, hI, .inl ⟨rfl, rfl⟩⟩ H0' H' σ' (a1.trans s0') r'⟩
theorem r_for {α : Type} {i : Rp α} {xs : List α} {s0 : S} {f : S → α → Ctl S ρ} {c : S → ρ} (Γs : S → List Sl) (Γt : S → α → List Sl) (Inv : Nat → S → Prop) (hw : Wlk K o m wi Γ Γ1 i xs) (w : Wk Γ1 (Γs s0)) (h0 : Inv 0 s0)
    (ht : ∀ s x, Tg K o g i x (Γs s) (Γt s x)) (hb : ∀ (n : Nat) s x, xs[n]? = some x → Inv n s → B K tb (Γt s x) Γs rp rg (f s x)) (hi : ∀ (n : Nat) s x s', xs[n]? = some x → Inv n s → f s x = .nx s' ∨ f s x = .ct s' → Inv (n + 1) s')
    (k : ∀ s, loopL f s0 xs = .inr s → (∃ n s', n ≤ xs.length ∧ Inv n s' ∧ (s = s' ∧ n = xs.length ∨ ∃ x, xs[n]? = some x ∧ f s' x = .bk s)) → R K u (Γs s) rp rg (c s)) : R K (tSeq (tFor wi g tb) u) Γ rp rg (ends (loopL f s0 xs) (fun r => r) c) := fun F I H0 H σ D r q n => by
  refine for_core (D := { D with nx := u D }) Γs Γt Inv hw w h0 ht hb hi r (fun z e => ?_) fun s e hs H0' H' σ' a1 r1 => ?_
  · rw [e] at q
    exact q
  · rw [e] at q n
    exact k s e hs F I H0' H' σ' D r1 (fun v a b c d => q v a b c (a1.trans d)) (fun a b c d => n a b c (a1.trans d))
theorem b_for {S' α : Type} {i : Rp α} {xs : List α} {s0 : S} {f : S → α → Ctl S ρ} {c : S → Ctl S' ρ} {Γo : S' → List Sl} (Γs : S → List Sl) (Γt : S → α → List Sl) (Inv : Nat → S → Prop) (hw : Wlk K o m wi Γ Γ1 i xs) (w : Wk Γ1 (Γs s0)) (h0 : Inv 0 s0)
    (ht : ∀ s x, Tg K o g i x (Γs s) (Γt s x)) (hb : ∀ (n : Nat) s x, xs[n]? = some x → Inv n s → B K tb (Γt s x) Γs rp rg (f s x)) (hi : ∀ (n : Nat) s x s', xs[n]? = some x → Inv n s → f s x = .nx s' ∨ f s x = .ct s' → Inv (n + 1) s')
    (k : ∀ s, loopL f s0 xs = .inr s → (∃ n s', n ≤ xs.length ∧ Inv n s' ∧ (s = s' ∧ n = xs.length ∨ ∃ x, xs[n]? = some x ∧ f s' x = .bk s)) → B K u (Γs s) Γo rp rg (c s)) : B K (tSeq (tFor wi g tb) u) Γ Γo rp rg (ends (loopL f s0 xs) (fun r => .rt r) c) := fun F I H0 H σ D r q => by
  refine for_core (D := { D with nx := u D }) Γs Γt Inv hw w h0 ht hb hi r (fun z e => ?_) fun s e hs H0' H' σ' a1 r1 => ?_
  · rw [e] at q
    exact q
  · rw [e] at q
    exact k s e hs F I H0' H' σ' D r1 (q.mono a1)
end
end FF

set_option Elab.async false
set_option linter.all false
set_option maxRecDepth 100000
set_option maxHeartbeats 2000000
namespace FF
open PySem L2
/-! ### comprehensions -/
section
variable {K : Kf} {F : Fm} {I H0 H : Hp} {σ σ' : St} {Γ Γ' : List Sl}
theorem SR.sets (r : SR K F I H0 H σ Γ) (hl : Γ'.length ≤ σ'.length) (h : ∀ (n : Nat) (s : Sl), Γ'[n]? = some s → s = .un ∨ (Γ[n]? = some s ∧ σ'[n]? = σ[n]?)) : SR K F I H0 H σ' Γ' := by
  have up : ∀ n c, Ftp H σ' Γ' n c → Ftp H σ Γ n c := fun n c hn => by
    obtain ⟨s, ov, e, e2, f⟩ := hn
    rcases h n s e with rfl | q
    · exact f.elim
    · exact ⟨s, ov, q.1, q.2 ▸ e2, f⟩
  refine ⟨r.f, r.i, r.g, r.h, hl, fun n s e => ?_, fun n m a ne h1 h2 => r.dj n m a ne (up n a h1) (up m a h2)⟩
  rcases h n s e with rfl | q
  · have hn : n < Γ'.length := (List.getElem?_eq_some_iff.mp e).1
    have : n < σ'.length := Nat.lt_of_lt_of_le hn hl
    exact ⟨σ'[n], List.getElem?_eq_getElem this, trivial⟩
  · obtain ⟨ov, q1, q2⟩ := r.ok n s q.1
    exact ⟨ov, q.2.trans q1, q2⟩
theorem wipe_get {σ : St} {n : Nat} : ∀ {vs : List Nat}, n ∉ vs → (wipe σ vs)[n]? = σ[n]?
  | [], _ => rfl
  | v :: vs, h => by
    show ((wipe σ vs).set v none)[n]? = σ[n]?
    rw [List.getElem?_set_ne (fun e => h (by rw [e]; exact List.mem_cons_self))]
    exact wipe_get fun q => h (List.mem_cons_of_mem _ q)
theorem wipe_in {σ : St} {n : Nat} : ∀ {vs : List Nat}, n ∈ vs → n < σ.length → (wipe σ vs)[n]? = some none
  | v :: vs, h, hl => by
    show ((wipe σ vs).set v none)[n]? = some none
    by_cases e : v = n
    · subst e
      rw [List.getElem?_set_self (by rw [wipe_length]; exact hl)]
    · rw [List.getElem?_set_ne e]
      exact wipe_in (by rcases List.mem_cons.mp h with z | z; exact absurd z.symm e; exact z) hl
theorem wipe_ext {σ σ' : St} {vs : List Nat} (hl : σ'.length = σ.length) (h : ∀ n : Nat, n ∉ vs → σ'[n]? = σ[n]?) : wipe σ' vs = wipe σ vs := by
  apply List.ext_getElem?
  intro n
  by_cases hn : n ∈ vs
  · by_cases hz : n < σ.length
    · rw [wipe_in hn (by omega), wipe_in hn hz]
    · rw [List.getElem?_eq_none (by rw [wipe_length]; omega), List.getElem?_eq_none (by rw [wipe_length]; omega)]
  · rw [wipe_get hn, wipe_get hn]
    exact h n hn
theorem wipe_back {σ σ' : St} {vs : List Nat} (h : wipe σ' vs = wipe σ vs) {n : Nat} (hn : n ∉ vs) : σ'[n]? = σ[n]? := by
  rw [← wipe_get (σ := σ') hn, h, wipe_get hn]
/-- the names of a comprehension's own: nothing is known of them outside -/
def Free (vs : List Nat) (Γ : List Sl) : Prop := ∀ n ∈ vs, ∀ s, Γ[n]? = some s → s = .un
theorem SR.wiped (r : SR K F I H0 H σ Γ) {vs : List Nat} (hf : Free vs Γ) : SR K F I H0 H (wipe σ vs) Γ := r.sets (by rw [wipe_length]; exact r.len) fun n s e => by
  by_cases hn : n ∈ vs
  · exact .inl (hf n hn s e)
  · exact .inr ⟨e, wipe_get hn⟩
end
def TgC (K : Kf) (o : Bool) (g : TG) {α : Type} (i : Rp α) (x : α) (Γ Γ' : List Sl) (vs : List Nat) : Prop :=
  ∀ (F : Fm) (I H0 H : Hp) (σ : St) (v : V), SR K F I H0 H σ Γ → i.rep K (if o = true then H0 else F.b) v x → ∀ Q : St → Hp → Prop, (∀ σ', SR K F I H0 H σ' Γ' → wipe σ' vs = wipe σ vs → Q σ' H) → g v σ H Q
section
variable {K : Kf} {Γ : List Sl}
theorem tgc_name {α : Type} [i : Rp α] {x : α} {n : Nat} (hn : n < Γ.length := by exact Nat.le_of_ble_eq_true rfl) : TgC K true (gName n) i x Γ (Γ.set n (pr x)) [n] := fun F I H0 H σ v r h Q q => q _ (pr_set r h hn) (wipe_ext (by simp) fun k hk => by
  rw [List.getElem?_set_ne (fun e => hk (by rw [e]; exact List.mem_cons_self))])
theorem tgc_two {α β : Type} [i : Rp α] [j : Rp β] {x : α × β} {n k : Nat} (hn : n < Γ.length := by exact Nat.le_of_ble_eq_true rfl) (hk : k < Γ.length := by exact Nat.le_of_ble_eq_true rfl) : TgC K true (gTup K 2 (gCons (gName n) (gCons (gName k) gNil))) (inferInstance : Rp (α × β)) x Γ ((Γ.set n (pr x.1)).set k (pr x.2)) [n, k] := fun F I H0 H σ v r h Q q => by
  obtain ⟨a, u1, u2, rfl, hs, e1, e2⟩ := h
  refine ⟨a, _, rfl, same_t r.h hs, rfl, u1, _, rfl, u2, _, rfl, rfl, q _ (pr_set (pr_set r e1 hn) e2 (by simpa using hk)) (wipe_ext (by simp) fun l hl => ?_)⟩
  rw [List.getElem?_set_ne (fun e => hl (by rw [e]; simp)), List.getElem?_set_ne (fun e => hl (by rw [e]; simp))]
theorem tgc_nameB {α : Type} [i : Rp α] {x : α} {n : Nat} (hn : n < Γ.length := by exact Nat.le_of_ble_eq_true rfl) : TgC K false (gName n) i x Γ (Γ.set n (bw x)) [n] := fun F I H0 H σ v r h Q q => q _ (r.set (s := bw x) ⟨v, rfl, h⟩ (fun _ z => z.elim) hn) (wipe_ext (by simp) fun k hk => by
  rw [List.getElem?_set_ne (fun e => hk (by rw [e]; exact List.mem_cons_self))])
theorem tgc_nameS {α : Type} [i : Rp α] [Sc α] {x : α} {n : Nat} (hn : n < Γ.length := by exact Nat.le_of_ble_eq_true rfl) : TgC K false (gName n) i x Γ (Γ.set n (pr x)) [n] := fun F I H0 H σ v r h Q q => q _ (pr_set r (Sc.any h) hn) (wipe_ext (by simp) fun k hk => by
  rw [List.getElem?_set_ne (fun e => hk (by rw [e]; exact List.mem_cons_self))])
theorem tgc_twoS {α β : Type} [i : Rp α] [j : Rp β] [Sc α] [Sc β] {x : α × β} {n k : Nat} (hn : n < Γ.length := by exact Nat.le_of_ble_eq_true rfl) (hk : k < Γ.length := by exact Nat.le_of_ble_eq_true rfl) : TgC K false (gTup K 2 (gCons (gName n) (gCons (gName k) gNil))) (inferInstance : Rp (α × β)) x Γ ((Γ.set n (pr x.1)).set k (pr x.2)) [n, k] := fun F I H0 H σ v r h Q q => by
  obtain ⟨a, u1, u2, rfl, hs, e1, e2⟩ := h
  refine ⟨a, _, rfl, same_t (F.sub.trans r.f) hs, rfl, u1, _, rfl, u2, _, rfl, rfl, q _ (pr_set (pr_set r (Sc.any e1) hn) (Sc.any e2) (by simpa using hk)) (wipe_ext (by simp) fun l hl => ?_)⟩
  rw [List.getElem?_set_ne (fun e => hl (by rw [e]; simp)), List.getElem?_set_ne (fun e => hl (by rw [e]; simp))]
end
/-- what a comprehension gives: a test, an element, a state that is handed on -/
def compL {S α γ : Type} (t : S → α → Bool) (e : S → α → γ × S) : S → List α → List γ × S
  | s, [] => ([], s)
  | s, x :: xs => if t s x = true then ((e s x).1 :: (compL t e (e s x).2 xs).1, (compL t e (e s x).2 xs).2) else compL t e s xs
theorem compL_snoc {S α γ : Type} {t : S → α → Bool} {e : S → α → γ × S} {x : α} : ∀ {s : S} {xs : List α}, compL t e s (xs ++ [x]) =
    if t (compL t e s xs).2 x = true then ((compL t e s xs).1 ++ [(e (compL t e s xs).2 x).1], (e (compL t e s xs).2 x).2) else compL t e s xs
  | s, [] => by
    show (if t s x = true then _ else _) = _
    rfl
  | s, y :: ys => by
    show (if t s y = true then ((e s y).1 :: (compL t e (e s y).2 (ys ++ [x])).1, (compL t e (e s y).2 (ys ++ [x])).2) else compL t e s (ys ++ [x])) = _
    by_cases h : t s y = true
    · rw [if_pos h, compL_snoc (s := (e s y).2) (xs := ys)]
      have e1 : compL t e s (y :: ys) = ((e s y).1 :: (compL t e (e s y).2 ys).1, (compL t e (e s y).2 ys).2) := by
        show (if t s y = true then _ else _) = _
        rw [if_pos h]
      rw [e1]
      by_cases h2 : t (compL t e (e s y).2 ys).2 x = true
      · rw [if_pos h2, if_pos h2]; rfl
      · rw [if_neg h2, if_neg h2]
    · rw [if_neg h, compL_snoc (s := s) (xs := ys)]
      have e1 : compL t e s (y :: ys) = compL t e s ys := by
        show (if t s y = true then _ else _) = _
        rw [if_neg h]
      rw [e1]
theorem compL_len {S α γ : Type} {t : S → α → Bool} {e : S → α → γ × S} : ∀ {s : S} {xs : List α}, (compL t e s xs).1.length ≤ xs.length
  | s, [] => Nat.le_refl _
  | s, x :: xs => by
    show (if t s x = true then _ else _ : List γ × S).1.length ≤ _
    by_cases h : t s x = true
    · rw [if_pos h]
      have := compL_len (t := t) (e := e) (s := (e s x).2) (xs := xs)
      simp only [List.length_cons]
      omega
    · rw [if_neg h]
      have := compL_len (t := t) (e := e) (s := s) (xs := xs)
      simp only [List.length_cons]
      omega
theorem compL_pure {α γ : Type} {t : α → Bool} {f : α → γ} : ∀ {xs : List α}, compL (fun (_ : Unit) x => t x) (fun (_ : Unit) x => (f x, ())) () xs = ((xs.filter t).map f, ())
  | [] => rfl
  | x :: xs => by
    show (if t x = true then _ else _) = _
    by_cases h : t x = true
    · rw [if_pos h, compL_pure, List.filter_cons, if_pos h]; rfl
    · rw [if_neg h, compL_pure, List.filter_cons, if_neg h]
section
variable {K : Kf} {S : Type} {o m m2 : Bool} {wi : TI} {g : TG} {tt : TT} {te : TE} {Γ Γ1 : List Sl} {vs : List Nat}
theorem n_lcS {α γ : Type} {i : Rp α} [j : Rp γ] {xs : List α} {s0 : S} {t : S → α → Bool} {e : S → α → γ × S} (Γs : S → List Sl) (Γt : S → α → List Sl) (Γe : S → α → List Sl) (Inv : Nat → S → Prop) (hw : Wlk K o m wi Γ Γ1 i xs) (w : Wk Γ1 (Γs s0)) (hf : ∀ s, Free vs (Γs s)) (h0 : Inv 0 s0) (hz : xs.length ≤ 100000)
    (hg : ∀ s x, TgC K o g i x (Γs s) (Γt s x) vs) (ht : ∀ (n : Nat) s x, xs[n]? = some x → Inv n s → Tt K false tt (Γt s x) (Γt s x) (t s x))
    (he : ∀ (n : Nat) s x, xs[n]? = some x → Inv n s → t s x = true → E K m2 true te (Γt s x) (Γe s x) (e s x).1) (hk : ∀ s x, Wk (Γe s x) (Γs (e s x).2)) (hk' : ∀ s x, Wk (Γt s x) (Γs s))
    (hi : ∀ (n : Nat) s x, xs[n]? = some x → Inv n s → (t s x = true → Inv (n + 1) (e s x).2) ∧ (t s x = false → Inv (n + 1) s)) :
    EN K (m || m2) (tLc wi g tt te vs) Γ (Γs (compL t e s0 xs).2) (compL t e s0 xs).1 ∧ Inv xs.length (compL t e s0 xs).2 := by
  have inv : ∀ n, n ≤ xs.length → Inv n (compL t e s0 (xs.take n)).2 := by
    intro n
    induction n with
    | zero => intro _; exact h0
    | succ n ih =>
      intro hn
      have hx : xs[n]? = some xs[n] := List.getElem?_eq_getElem (by omega)
      rw [take_succ hx, compL_snoc]
      have h1 := hi n _ _ hx (ih (by omega))
      by_cases c : t (compL t e s0 (xs.take n)).2 xs[n] = true
      · rw [if_pos c]; exact h1.1 c
      · rw [if_neg c]; exact h1.2 (by simpa using c)
  refine ⟨fun F I H0 H σ r Q q => ?_, by have h := inv xs.length (Nat.le_refl _); rwa [List.take_length] at h⟩
  refine hw F I H0 H σ r _ fun J H1 H1' r1 a1 b1 turn => fun D hD => ?_
  have hFD : F.k D = none := Same.free r1.f hD
  have h0D : H1 D = none := Same.free r1.h hD
  have hID : I D = none := Same.free r1.i h0D
  refine ⟨fun n k H' => k = xs.length - n ∧ n ≤ xs.length ∧ ∃ H0' ws, Same H1 H0' ∧ SR K F I H0' H' σ (Γs (compL t e s0 (xs.take n)).2) ∧ ((m || m2) = false → Same H H') ∧ H0' D = none ∧ Fre H' σ (Γs (compL t e s0 (xs.take n)).2) D ∧ H' D = some (.lst ws) ∧ Prd (j.rep K H0') ws (compL t e s0 (xs.take n)).1, ⟨xs.length, by simp, Nat.zero_le _, H1, [], Same.refl _, ?_⟩, ?_⟩
  · obtain ⟨r2, s1, z1, z2, z3⟩ := (wk_sr r1 w).fresh (vs := []) hD
    exact ⟨r2, fun z => (b1 (Bool.or_eq_false_iff.mp z).1).trans s1, z2, z3, upd_same, .nil⟩
  rintro n k H' ⟨rfl, hn, H0', ws, s0', r', hm, hD0, hDn, hDl, hp⟩
  obtain ⟨t1, t2⟩ := turn n H0' H' s0' r'.h r'.f hn
  by_cases hl : n < xs.length
  · have hx : xs[n]? = some xs[n] := List.getElem?_eq_getElem hl
    obtain ⟨t3, t4⟩ := t2 _ hx
    generalize es : (compL t e s0 (xs.take n)).2 = s at r' hDn
    have hI : Inv n s := by rw [← es]; exact inv n hn
    refine .inr ⟨t3, fun H2 => ∃ H0'' us, Same H1 H0'' ∧ SR K F I H0'' H2 σ (Γs (compL t e s0 (xs.take (n + 1))).2) ∧ ((m || m2) = false → Same H H2) ∧ H0'' D = none ∧ Fre H2 σ (Γs (compL t e s0 (xs.take (n + 1))).2) D ∧ H2 D = some (.lst us) ∧ Prd (j.rep K H0'') us (compL t e s0 (xs.take (n + 1))).1,
      fun H2 ⟨H0'', us, z⟩ => ⟨xs.length - (n + 1), by omega, rfl, by omega, H0'', us, z⟩, fun v H2 y => ?_⟩
    obtain ⟨H0n, sn, rg, y2, sh⟩ := (t4 v H2 y).step ((r'.guard hFD hD0 hDn hDl).wiped (hf s))
    have s0' := s0'.trans sn
    have hm : (m || m2) = false → Same H H2 := fun z => (hm z).trans sh
    have hp := prd_mono (fun _ _ z => j.mono sn z) hp
    refine hg s _ _ I H0n H2 (wipe σ vs) v rg y2 _ fun σ2 r2 hw2 => ⟨?_, ?_⟩
    · rw [hw2]
      exact wipe_ext (wipe_length _ _) fun l hl => wipe_get hl
    have back : ∀ {l : Nat}, l ∉ vs → σ2[l]? = σ[l]? := fun {l} hl => by
      have := wipe_back hw2 hl
      rw [this, wipe_get hl]
    have home : ∀ {G : Fm} {A B : Hp} {Δ : List Sl} {s' : S}, SR K G I A B σ2 Δ → Wk Δ (Γs s') → SR K G I A B σ (Γs s') := fun {G A B Δ s'} z wz => by
      have hle : (Γs s').length ≤ σ.length := by
        have h1 := (wk_sr z wz).len
        have h2 : σ2.length = σ.length := by
          have := congrArg List.length hw2
          rw [wipe_length, wipe_length, wipe_length] at this
          exact this
        omega
      refine (wk_sr z wz).sets hle fun l t' el => ?_
      by_cases hv : l ∈ vs
      · exact .inl (hf s' l hv t' el)
      · exact .inr ⟨el, (back hv).symm⟩
    refine ht n s _ hx hI _ I H0n H2 σ2 r2 _ fun H3 H3' r3 a3 b3 => ?_
    rw [take_succ hx, compL_snoc, es]
    cases c : t s xs[n] with
    | true =>
      rw [if_pos rfl, if_pos rfl]
      refine he n s _ hx hI c _ I H3 H3' σ2 r3 _ fun u H4 H4' r4 a4 b4 c4 => ?_
      obtain ⟨r5, d1, d2, d3⟩ := (home r4 (hk s _)).unguard hID
      refine ⟨ws, d2, ?_, H4, ws ++ [u], (s0'.trans a3).trans a4, (r5.aside hFD d1 d3 d2).1, fun z => ?_, d1, (r5.aside hFD d1 d3 d2).2, upd_same, prd_app (prd_mono (fun _ _ z => j.mono (a3.trans a4) z) hp) (.cons (by simpa using c4) .nil)⟩
      · rw [prd_len hp]
        have h1 := compL_len (t := t) (e := e) (s := s0) (xs := xs.take n)
        rw [List.length_take] at h1
        exact Nat.lt_of_lt_of_le (show _ < 100000 by omega) (by decide)
      · have z2 := (Bool.or_eq_false_iff.mp z).2
        have hHD : H D = none := by
          cases z3 : H D with
          | none => rfl
          | some o => rw [b1 (Bool.or_eq_false_iff.mp z).1 D o z3] at hD; cases hD
        have s4 := ((hm z).trans (b3 rfl)).trans (b4 z2)
        exact fun b o e' => by rw [upd_ne (ne_of_none e' hHD)]; exact s4 b o e'
    | false =>
      rw [if_neg (by decide), if_neg (by decide)]
      have r4 : SR K (F.plus D (.lst ws) hFD) I H3 H3' σ (Γs s) := home r3 (hk' s _)
      obtain ⟨r5, d1, d2, d3⟩ := r4.unguard hID
      refine ⟨H3, ws, s0'.trans a3, ?_, fun z => (hm z).trans (b3 rfl), d1, ?_, d2, prd_mono (fun _ _ z => j.mono a3 z) hp⟩
      · rw [es]; exact r5
      · rw [es]; exact d3
  · have e' : n = xs.length := by omega
    subst e'
    rw [List.take_length] at r' hDn hp
    exact .inl ⟨t1 rfl, q D ws H0' H' r' (a1.trans s0') hm hFD hD0 hDn hDl hp⟩
/-- no state, with a test -/
theorem n_lcF {α γ : Type} {i : Rp α} [j : Rp γ] {xs : List α} {t : α → Bool} {f : α → γ} (Γt : α → List Sl) (hw : Wlk K o m wi Γ Γ1 i xs) (hf : Free vs Γ1) (hz : xs.length ≤ 100000)
    (hg : ∀ x, TgC K o g i x Γ1 (Γt x) vs) (ht : ∀ x, x ∈ xs → Tt K false tt (Γt x) (Γt x) (t x)) (he : ∀ x, x ∈ xs → t x = true → E K false true te (Γt x) (Γt x) (f x)) (hk : ∀ x, Wk (Γt x) Γ1) :
    EN K m (tLc wi g tt te vs) Γ Γ1 ((xs.filter t).map f) := by
  have h := n_lcS (K := K) (S := Unit) (s0 := ()) (t := fun _ x => t x) (e := fun _ x => (f x, ())) (m2 := false) (fun _ => Γ1) (fun _ x => Γt x) (fun _ x => Γt x) (fun _ _ => True) hw wk_refl (fun _ => hf) trivial hz (fun _ x => hg x)
    (fun n _ x hx _ => ht x (List.mem_of_getElem? hx)) (fun n _ x hx _ c => he x (List.mem_of_getElem? hx) c) (fun _ x => hk x) (fun _ x => hk x) (fun _ _ _ _ _ => ⟨fun _ => trivial, fun _ => trivial⟩)
  have h1 := h.1
  rw [compL_pure, Bool.or_false] at h1
  exact h1
theorem tyes : Tt K false tYes Γ Γ true := fun F I H0 H σ r Q q => q H0 H r (Same.refl _) fun _ => Same.refl _
theorem n_lc {α γ : Type} {i : Rp α} [j : Rp γ] {xs : List α} {f : α → γ} (Γt : α → List Sl) (hw : Wlk K o m wi Γ Γ1 i xs) (hf : Free vs Γ1) (hz : xs.length ≤ 100000)
    (hg : ∀ x, TgC K o g i x Γ1 (Γt x) vs) (he : ∀ x, x ∈ xs → E K false true te (Γt x) (Γt x) (f x)) (hk : ∀ x, Wk (Γt x) Γ1) :
    EN K m (tLc wi g tYes te vs) Γ Γ1 (xs.map f) := by
  have h := n_lcF (K := K) (t := fun _ => true) Γt hw hf hz hg (fun _ _ => tyes) (fun x hx _ => he x hx) hk
  rw [List.filter_eq_self.mpr (fun _ _ => rfl)] at h
  exact h
theorem e_bnd {α γ S : Type} {p : Bool} [Rp γ] {v : α} {f : α → γ × S} (Γf : γ × S → List Sl) (h : ∀ y, y = v → E K m p te Γ (Γf (f y)) (f y).1) : E K m p te Γ (Γf (bnd v f)) (bnd v f).1 := h v rfl
/-- a comprehension whose element hands on a state -/
theorem n_lcH {α γ : Type} {i : Rp α} [j : Rp γ] {xs : List α} {s0 : S} {e : S → α → γ × S} (Γs : S → List Sl) (Γt : S → α → List Sl) (Γf : α → γ × S → List Sl) (Inv : Nat → S → Prop) (hw : Wlk K o m wi Γ Γ1 i xs) (w : Wk Γ1 (Γs s0)) (hf : ∀ s, Free vs (Γs s)) (h0 : Inv 0 s0) (hz : xs.length ≤ 100000)
    (hg : ∀ s x, TgC K o g i x (Γs s) (Γt s x) vs) (he : ∀ (n : Nat) s x, xs[n]? = some x → Inv n s → E K m2 true te (Γt s x) (Γf x (e s x)) (e s x).1) (hk : ∀ x z, Wk (Γf x z) (Γs z.2)) (hk' : ∀ s x, Wk (Γt s x) (Γs s))
    (hi : ∀ (n : Nat) s x, xs[n]? = some x → Inv n s → Inv (n + 1) (e s x).2) :
    EN K (m || m2) (tLc wi g tYes te vs) Γ (Γs (compL (fun _ _ => true) e s0 xs).2) (compL (fun _ _ => true) e s0 xs).1 ∧ Inv xs.length (compL (fun _ _ => true) e s0 xs).2 :=
  n_lcS (t := fun _ _ => true) Γs Γt (fun s x => Γf x (e s x)) Inv hw w hf h0 hz hg (fun _ _ _ _ _ => fun F I H0 H σ r Q q => q H0 H r (Same.refl _) fun _ => Same.refl _) (fun n s x hx hI _ => he n s x hx hI) (fun s x => hk x _) hk' (fun n s x hx hI => ⟨fun _ => hi n s x hx hI, fun z => nomatch z⟩)
end
end FF

set_option Elab.async false
set_option linter.all false
set_option maxRecDepth 100000
set_option maxHeartbeats 2000000
namespace FF
open PySem L2
/-! ### defs: what is handed in, what comes back, what is left of the lists that were handed in to be changed -/
def spG (K : Kf) {ι : Type} (args : ι → List Sl) (pre : ι → Prop) (out : ι → List Sl) (po : Rs ι) : Sp := fun vs H Q _ =>
  ∃ (d : ι) (F : Fm) (I : Hp), vs.length = (args d).length ∧ pre d ∧ SR K F I I H (vs.map some) (args d) ∧
    ∀ v H0' H' σ', Same I H0' → SR K F I H0' H' σ' (out d) → po F H0' H' σ' v d → Q v H'
abbrev spF (K : Kf) {ι β : Type} [ib : Rp β] (args : ι → List Sl) (pre : ι → Prop) (res : ι → β) (out : ι → List Sl) : Sp := spG K args pre out (PerR K res)
abbrev spN (K : Kf) {ι β : Type} [ib : Rp β] (args : ι → List Sl) (pre : ι → Prop) (res : ι → List β) (out : ι → List Sl) : Sp := spG K args pre out (NewR K res out)
theorem sr_start {K : Kf} {F : Fm} {I H0 H : Hp} {vs : List V} {Γ : List Sl} (r : SR K F I H0 H (vs.map some) Γ) (hl : vs.length = Γ.length) (k : Nat) : SR K F I H0 H (vs.map some ++ List.replicate k none) (Γ ++ List.replicate k .un) := by
  have l1 : (vs.map some).length = Γ.length := by rw [List.length_map, hl]
  have cases_ : ∀ (n : Nat) (s : Sl), (Γ ++ List.replicate k .un)[n]? = some s → s = .un ∨ (Γ[n]? = some s ∧ (vs.map some ++ List.replicate k none)[n]? = (vs.map some)[n]?) := fun n s e => by
    by_cases hn : n < Γ.length
    · rw [List.getElem?_append_left hn] at e
      exact .inr ⟨e, List.getElem?_append_left (by omega)⟩
    · rw [List.getElem?_append_right (by omega)] at e
      have := List.mem_of_getElem? e
      exact .inl (List.eq_of_mem_replicate this)
  exact r.sets (by simp [hl]) cases_
/-- a def that may be called by its name, every argument written -/
structure Cl (P : Program) (w : World) (K : Kf) (mg : Str → Option Value) (base : Heap) (k : Nat) (x : Str) (sp : Sp) : Prop where
  ex : ∃ (f : Addr) (fd : FuncData) (ps : List Str), FnOk P w K mg base CX0 k f fd ps sp ∧ mg x = some (.ref f) ∧ PySem.W.keepIn K (.ref f) = true ∧ Binds K fd ps []
/-- a method -/
structure Mh (P : Program) (w : World) (K : Kf) (mg : Str → Option Value) (base : Heap) (k : Nat) (C : Addr) (m : Str) (sp : Sp) : Prop where
  ex : ∃ (f : Addr) (fd : FuncData) (ps : List Str), Cls K C ∧ Meth K C m f ∧ FnOk P w K mg base CX0 k f fd ps sp ∧ Binds K fd ps []
section
variable {X : Cx} {k j : Nat} {C : Addr} {x m : Str} {sp : Sp} {p pos apos : Pos} {e o : Expr} {es : List Expr} {ta : TE} {t : TA}
theorem pe_cl (c : Cl X.prog X.w X.K X.mg X.base k x sp) (hr : Room j X.A) (hk : k ≤ j) (hg : Gl X x) (ha : PA X (e :: es) t)
    (hdb : (x == ("__debug__" : Str)) = false := by decide) (he : starEach (e :: es) X.env = (false, eval e X.env) :: starEach es X.env := by rfl) (hpl : (backTo pos (starEach es X.env)).any (·.1) = false := by rfl) :
    PE X (.Call (.Name x p) (e :: es) [] pos) (tCall sp [] E0 t) := by
  obtain ⟨f, fd, ps, F, hm, kp, b⟩ := c.ex
  exact pe_call F (hr.mono hk) hg hm kp b .nil pass0 ha hdb he hpl
theorem pe_mh {pl : Sem Bool} (c : Mh X.prog X.w X.K X.mg X.base k C m sp) (hr : Room j X.A) (hk : k ≤ j) (he : PE X o ta) (ha : PA X (e :: es) t)
    (hst : starEach (e :: es) X.env = (false, eval e X.env) :: starEach es X.env := by rfl) (hpl : (backTo pos (starEach es X.env)).any (·.1) = false := by rfl)
    (ht : eval (.Call (.Attribute o m apos) (e :: es) [] pos) X.env = (do
      let ov ← eval o X.env
      standAt apos.atName
      let (f, first) ← holding [ov] (getMethod ov m pl)
      callWith pos f first (backTo pos (starEach (e :: es) X.env)) (backToKw pos (keywordEach [] X.env))) := by rfl) :
    PE X (.Call (.Attribute o m apos) (e :: es) [] pos) (tMeth C m sp [] E0 ta t) := by
  obtain ⟨f, fd, ps, c1, c2, F, b⟩ := c.ex
  exact pe_meth (pl := pl) he c1 c2 F (hr.mono hk) b .nil pass0 ha hst hpl ht
theorem pe_mh0 {pl : Sem Bool} (c : Mh X.prog X.w X.K X.mg X.base k C m sp) (hr : Room j X.A) (hk : k ≤ j) (he : PE X o ta)
    (ht : eval (.Call (.Attribute o m apos) [] [] pos) X.env = (do
      let ov ← eval o X.env
      standAt apos.atName
      let (f, first) ← holding [ov] (getMethod ov m pl)
      callWith pos f first (backTo pos (starEach [] X.env)) (backToKw pos (keywordEach [] X.env))) := by rfl) :
    PE X (.Call (.Attribute o m apos) [] [] pos) (tMeth C m sp [] E0 ta tNil) := by
  obtain ⟨f, fd, ps, c1, c2, F, b⟩ := c.ex
  exact pe_meth0 (pl := pl) he c1 c2 F (hr.mono hk) b .nil pass0 ht
end
section
variable {P : Program} {w : World} {K : Kf} {mg : Str → Option Value} {base : Heap}
/-- A DEF BY ITS BODY -/
theorem fn_body {ι ρ : Type} {x qual : Str} {st : Stmt} {f : Addr} {fd : FuncData} {N ps : List Str} {k : Nat} {args : ι → List Sl} {pre : ι → Prop} {out : ι → List Sl} {po : Rs ι} (rp : ι → Rs ρ) (rg : ι → ρ → List Sl) (r : ι → ρ)
    (Fd : Fun K x qual st f fd) (S : FnScope N ps (defScope st)) (hl : ∀ d, (args d).length = ps.length) (hout : ∀ d, out d = rg d (r d)) (hpo : ∀ F H0 H σ v d, rp d F H0 H σ v (r d) → po F H0 H σ v d)
    (hb : ∀ (cdv : Value) (A : Around) (outer : List Env) (s : Shared) (H : Hp) (E : XK), Room k (A.deeper (PyProof.Rows.envOfC qual (defScope st) s.heap.objs.size f cdv)) →
      ∃ t, PSs (cxOf CX0 P w K mg base N qual (defScope st) f cdv A outer s H E).nox (defBody st) t ∧ ∀ d, pre d → R K t (args d ++ List.replicate (N.length - ps.length) .un) (rp d) (rg d) (r d)) :
    FnOk P w K mg base CX0 (k + 1) f fd ps (spG K args pre out po) := by
  refine Fd.ok S (fun vs H Q E h => ?_) fun cdv A outer s H vs Q E hr h => ?_
  · obtain ⟨d, F, I, e, _⟩ := h
    exact e.trans (hl d)
  obtain ⟨d, F, I, e, hp, r0, q⟩ := h
  obtain ⟨t, h1, h2⟩ := hb cdv A outer s H E hr
  refine ⟨t, h1, ?_⟩
  have e1 : vs.length = ps.length := e.trans (hl d)
  have r1 : SR K F I I H (L2.start N vs) (args d ++ List.replicate (N.length - ps.length) .un) := by
    unfold L2.start
    rw [e1]
    exact sr_start r0 e _
  refine h2 d hp F I I H _ _ r1 (fun v H0' H' σ' s1 r2 rv2 => ?_) (fun H0' H' σ' s1 r2 rv2 => ?_)
  · exact q v H0' H' σ' s1 (by rw [hout]; exact r2) (hpo _ _ _ _ _ _ rv2)
  · exact q .non H0' H' σ' s1 (by rw [hout]; exact r2) (hpo _ _ _ _ _ _ rv2)
theorem Cl.of {x : Str} {st : Stmt} {f : Addr} {fd : FuncData} {ps : List Str} {k : Nat} {sp : Sp} (Fd : Fun K x x st f fd) (hm : mg x = some (.ref f)) (b : Binds K fd ps []) (F : FnOk P w K mg base CX0 k f fd ps sp) : Cl P w K mg base k x sp := ⟨f, fd, ps, F, hm, Fd.kp, b⟩
end
/-! ### calls -/
inductive Mt : List Ar → List Sl → Prop
  | nil : Mt [] []
  | per {α : Type} {i : Rp α} {x : α} {as ss} : Mt as ss → Mt (.per i x :: as) (.per i x :: ss)
  | pb {α : Type} {i : Rp α} {x : α} {as ss} : Mt as ss → Mt (.per i x :: as) (.bor i x :: ss)
  | bor {α : Type} {i : Rp α} {x : α} {as ss} : Mt as ss → Mt (.bor i x :: as) (.bor i x :: ss)
  | bl {α : Type} {i : Rp α} {x : List α} {as ss} : Mt as ss → Mt (.bl i x :: as) (.bl i x :: ss)
  | pl {α : Type} {i : Rp α} {x : List α} {as ss} : Mt as ss → Mt (.per (@instRpList α i) x :: as) (.bl i x :: ss)
/-- data that stand for good -/
inductive MtP : List Ar → List Sl → Prop
  | nil : MtP [] []
  | per {α : Type} {i : Rp α} {x : α} {as ss} : MtP as ss → MtP (.per i x :: as) (.per i x :: ss)
  | pb {α : Type} {i : Rp α} {x : α} {as ss} : MtP as ss → MtP (.per i x :: as) (.bor i x :: ss)
/-- one list of one's own among them, the k-th -/
inductive MtM (n : Nat) (p : Addr) {α : Type} (i : Rp α) (xs : List α) : List Ar → List Sl → Nat → Prop
  | here {as ss} : MtP as ss → MtM n p i xs (.slot n :: as) (.own i (some p) xs :: ss) 0
  | per {γ : Type} {j : Rp γ} {x : γ} {as ss k} : MtM n p i xs as ss k → MtM n p i xs (.per j x :: as) (.per j x :: ss) (k + 1)
  | pb {γ : Type} {j : Rp γ} {x : γ} {as ss k} : MtM n p i xs as ss k → MtM n p i xs (.per j x :: as) (.bor j x :: ss) (k + 1)
section
variable {K : Kf}
theorem sr_of {F : Fm} {I H0 H : Hp} {vs : List V} {Γ : List Sl} (f : Same F.k H) (i : Same I H0) (g : ∀ a o, F.k a = some o → I a = none → H0 a = none) (h : Same H0 H) (p : Prd (fun v s => slOk K F H0 H (some v) s) vs Γ)
    (dj : ∀ n m : Nat, n ≠ m → isOwn Γ[n]? → isOwn Γ[m]? → False) : SR K F I H0 H (vs.map some) Γ := by
  refine ⟨f, i, g, h, by rw [List.length_map, prd_len p]; exact Nat.le_refl _, fun n s e => ?_, fun n m a ne h1 h2 => dj n m ne (ftp_isOwn h1) (ftp_isOwn h2)⟩
  obtain ⟨v, e1, e2⟩ := prd_get p e
  exact ⟨some v, by rw [List.getElem?_map, e1]; rfl, e2⟩
theorem mt_sl {F : Fm} {H0 H : Hp} {σ : St} (hb : ∀ a o, H a = some o → F.b a = some o) (h0 : Same H0 F.b) : ∀ {as : List Ar} {ss : List Sl} {vs : List V}, Mt as ss → Prd (arOk K H0 H σ) vs as → Prd (fun v s => slOk K F H0 H (some v) s) vs ss ∧ ∀ n : Nat, ¬ isOwn ss[n]?
  | _, _, _, .nil, .nil => ⟨.nil, fun n h => by simp [isOwn] at h⟩
  | _, _, _, .per (i := i) t, .cons h r => ⟨.cons ⟨_, rfl, h⟩ (mt_sl hb h0 t r).1, fun n z => by cases n with | zero => exact z | succ n => exact (mt_sl hb h0 t r).2 n z⟩
  | _, _, _, .pb (i := i) t, .cons h r => ⟨.cons ⟨_, rfl, i.mono h0 h⟩ (mt_sl hb h0 t r).1, fun n z => by cases n with | zero => exact z | succ n => exact (mt_sl hb h0 t r).2 n z⟩
  | _, _, _, .bor (i := i) t, .cons h r => ⟨.cons ⟨_, rfl, i.mono hb h⟩ (mt_sl hb h0 t r).1, fun n z => by cases n with | zero => exact z | succ n => exact (mt_sl hb h0 t r).2 n z⟩
  | _, _, _, .bl (i := i) t, .cons h r => ⟨.cons (by obtain ⟨a, us, e1, e2, e3⟩ := h; exact ⟨a, us, by rw [e1], hb _ _ e2, e3⟩) (mt_sl hb h0 t r).1, fun n z => by cases n with | zero => exact z | succ n => exact (mt_sl hb h0 t r).2 n z⟩
  | _, _, _, .pl (i := i) t, .cons h r => ⟨.cons (by obtain ⟨a, us, e1, e2, e3⟩ := h; exact ⟨a, us, by rw [e1], h0 _ _ e2, e3⟩) (mt_sl hb h0 t r).1, fun n z => by cases n with | zero => exact z | succ n => exact (mt_sl hb h0 t r).2 n z⟩
theorem mtp_sl {F : Fm} {H0 H : Hp} {σ : St} (h0 : Same H0 F.b) : ∀ {as : List Ar} {ss : List Sl} {vs : List V}, MtP as ss → Prd (arOk K H0 H σ) vs as → Prd (fun v s => slOk K F H0 H (some v) s) vs ss ∧ ∀ n : Nat, ¬ isOwn ss[n]?
  | _, _, _, .nil, .nil => ⟨.nil, fun n h => by simp [isOwn] at h⟩
  | _, _, _, .per (i := i) t, .cons h r => ⟨.cons ⟨_, rfl, h⟩ (mtp_sl h0 t r).1, fun n z => by cases n with | zero => exact z | succ n => exact (mtp_sl h0 t r).2 n z⟩
  | _, _, _, .pb (i := i) t, .cons h r => ⟨.cons ⟨_, rfl, i.mono h0 h⟩ (mtp_sl h0 t r).1, fun n z => by cases n with | zero => exact z | succ n => exact (mtp_sl h0 t r).2 n z⟩
theorem mtm_sl {F : Fm} {H0 H : Hp} {σ : St} {n : Nat} {b : Addr} {α : Type} {i : Rp α} {xs : List α} {us : List V} (h0 : Same H0 F.b) (hσ : σ[n]? = some (some (.ref b))) (f1 : F.k b = none) (f2 : H0 b = none) (f3 : H b = some (.lst us)) (f4 : Prd (i.rep K H0) us xs) :
    ∀ {as : List Ar} {ss : List Sl} {k : Nat} {vs : List V}, MtM n b i xs as ss k → Prd (arOk K H0 H σ) vs as → Prd (fun v s => slOk K F H0 H (some v) s) vs ss ∧ ∀ l : Nat, isOwn ss[l]? → l = k
  | _, _, _, _, .here t, .cons (a := v) h r => by
    have e : some (some v) = some (some (V.ref b)) := Eq.trans (Eq.symm h) hσ
    cases e
    refine ⟨.cons ⟨b, us, rfl, fun q z => Option.some.inj z, f1, f2, f3, f4⟩ (mtp_sl h0 t r).1, fun l z => ?_⟩
    cases l with
    | zero => rfl
    | succ l => exact ((mtp_sl h0 t r).2 l z).elim
  | _, _, _, _, .per (j := j) t, .cons h r => by
    have z := mtm_sl h0 hσ f1 f2 f3 f4 t r
    refine ⟨.cons ⟨_, rfl, h⟩ z.1, fun l y => ?_⟩
    cases l with
    | zero => exact y.elim
    | succ l => exact congrArg Nat.succ (z.2 l y)
  | _, _, _, _, .pb (j := j) t, .cons h r => by
    have z := mtm_sl h0 hσ f1 f2 f3 f4 t r
    refine ⟨.cons ⟨_, rfl, j.mono h0 h⟩ z.1, fun l y => ?_⟩
    cases l with
    | zero => exact y.elim
    | succ l => exact congrArg Nat.succ (z.2 l y)
/-- behind a call that has changed one list of ours -/
theorem SR.after {F : Fm} {I H0 H H0' H' : Hp} {σ : St} {Γ : List Sl} (r : SR K F I H0 H σ Γ) {n : Nat} {b : Addr} {α : Type} {i : Rp α} {a : Option Addr} {xs ys : List α} {ws : List V} (hn : Γ[n]? = some (.own i a xs)) (hσ : σ[n]? = some (some (.ref b)))
    (e0 : Same H0 H0') (keep : ∀ c o, c ≠ b → H c = some o → H' c = some o) (e1 : Same H0' H') (g : ∀ c o, c ≠ b → H c = some o → H0 c = none → H0' c = none) (hb0 : H0' b = none) (hb : H' b = some (.lst ws)) (hp : Prd (i.rep K H0') ws ys) :
    SR K F I H0' H' σ (Γ.set n (.own i a ys)) := by
  obtain ⟨ov, q1, b', vs, q2, q3, q4, q5, q6, q7⟩ := r.ok n _ hn
  have eb : b = b' := by
    rw [hσ, q2] at q1
    injection q1 with q1; injection q1 with q1; injection q1
  subst eb
  have hl : n < Γ.length := (List.getElem?_eq_some_iff.mp hn).1
  have nf : ∀ {c : Addr} {o : HO}, F.k c = some o → c ≠ b := fun h => ne_of_none h q4
  have fa : Ftp H σ Γ n b := ftp_at hn hσ
  have off : ∀ {m c}, m ≠ n → Ftp H σ Γ m c → c ≠ b := fun {m c} hm hc z => by
    subst z
    exact r.dj m n c hm hc fa
  have up : ∀ {k c}, Ftp H' σ (Γ.set n (.own i a ys)) k c → Ftp H σ Γ k c := fun {k c} h => by
    rcases ftp_set h with ⟨rfl, ov', e, f⟩ | ⟨hk, t, ov', e1, e2, f⟩
    · exact ⟨_, _, hn, e, f⟩
    · obtain ⟨ov2, w1, w2⟩ := r.ok k t e1
      rw [w1] at e2
      cases e2
      exact ⟨t, ov', e1, w1, ft_back w2 (fun d o z1 z2 => keep d o (off hk ⟨t, ov', e1, w1, z1⟩) z2) f⟩
  refine ⟨fun c o e => keep c o (nf e) (r.f _ _ e), r.i.trans e0, fun c o e z => g c o (nf e) (r.f _ _ e) (r.g c o e z), e1, by simpa using r.len, fun m t e => ?_, fun k m c ne h1 h2 => r.dj k m c ne (up h1) (up h2)⟩
  · rcases get_set e with ⟨rfl, rfl⟩ | ⟨hm, e⟩
    · exact ⟨_, hσ, b, ws, rfl, q3, q4, hb0, hb, hp⟩
    · obtain ⟨ov', w1, w2⟩ := r.ok m t e
      refine ⟨ov', w1, ?_⟩
      cases t with
      | un => trivial
      | per j x => obtain ⟨v, e2, p⟩ := w2; exact ⟨v, e2, j.mono e0 p⟩
      | bor j x => exact w2
      | bl j x => exact blOk.mono e0 w2
      | own j p' xs' =>
        obtain ⟨c, vs', w3, w4, w5, w6, w7, w8⟩ := w2
        have nc : c ≠ b := off hm ⟨_, _, e, w1, w3⟩
        exact ⟨c, vs', w3, w4, w5, g c _ nc w7 w6, keep c _ nc w7, prd_mono (fun _ _ z => j.mono e0 z) w8⟩
      | dp j p' xss => exact dpOk.mono (p' := p') w2 (fun _ _ z => z) (fun d hd z => let ⟨_, _, us, w⟩ := ft_own (s := .dp j p' xss) w2 hd; g d _ (off hm ⟨_, _, e, w1, hd⟩) w z) (fun d o hd z => keep d o (off hm ⟨_, _, e, w1, hd⟩) z) fun _ _ z => j.mono e0 z
      | gn G => exact gnOk.mono w2 (fun _ _ z => z) (fun d hd z => let ⟨_, _, us, w⟩ := ft_own (s := .gn G) w2 hd; g d _ (off hm ⟨_, _, e, w1, hd⟩) w z) (fun d o hd z => keep d o (off hm ⟨_, _, e, w1, hd⟩) z) fun _ z => G.mono0 e0 z
      | ob c C dx fs =>
        obtain ⟨w3, w4, w5, w6, w7, w8, vs', w9, w10⟩ := w2
        have n1 := ne_of w8 q6 (fun z => nomatch z)
        have n2 := ne_of w9 q6 (fun z => nomatch z)
        exact ⟨w3, w4, g c _ n2 w9 w5, w6, g dx _ n1 w8 w7, keep _ _ n1 w8, vs', keep _ _ n2 w9, w10.mono e0⟩
variable {m m1 p1 : Bool} {ta : TA} {te : TE} {Γ Γ1 Γ2 : List Sl} {ι β : Type} [ib : Rp β] {args : ι → List Sl} {pre : ι → Prop} {res : ι → β} {resN : ι → List β} {out : ι → List Sl} {as : List Ar} {po : Rs ι}
theorem call_core {F : Fm} {I H0 H : Hp} {σ : St} {vs : List V} {Q : VK} {E : XK} (r : SR K F I H0 H σ Γ) (c : Prd (arOk K H0 H σ) vs as) (d : ι) (hp : pre d) (hm : Mt as (args d))
    (q : ∀ v H0' H' σ', SR K F I H0' H' σ Γ → Same H0 H0' → Same H H' → SR K ⟨H, H, Same.refl _⟩ H0 H0' H' σ' (out d) → po ⟨H, H, Same.refl _⟩ H0' H' σ' v d → Q v H') : spG K args pre out po vs H Q E := by
  have z := mt_sl (F := ⟨H, H, Same.refl _⟩) (fun _ _ e => e) r.h hm c
  refine ⟨d, ⟨H, H, Same.refl _⟩, H0, prd_len z.1, hp, sr_of (Same.refl _) (Same.refl _) (fun _ _ _ n => n) r.h z.1 (fun n m _ h1 _ => z.2 n h1), fun v H0' H' σ' s1 r2 rv => ?_⟩
  exact q v H0' H' σ' (r.step s1 r2.f r2.h (fun a o e n => r2.g a o e n)) s1 r2.f r2 rv
/-- f(a, ..) that changes nothing of ours -/
theorem e_call (d : ι) (ha : A K m ta Γ Γ1 as) (hm : Mt as (args d)) (hp : pre d) : E K m true (tCall (spF K args pre res out) [] E0 ta) Γ Γ1 (res d) := fun F I H0 H σ r Q q =>
  ha F I H0 H σ r _ fun vs H1 H1' r1 a1 b1 c1 => by
    show spF K args pre res out (vs ++ []) H1' Q E0
    rw [List.append_nil]
    exact call_core r1 c1 d hp hm fun v H2 H2' _ r2 s0 s1 _ rv => q v H2 H2' r2 (a1.trans s0) (fun z => (b1 z).trans s1) rv
theorem own_free {F : Fm} {I H0 H : Hp} {σ : St} {a : Addr} (r : SR K F I H0 H σ Γ) (ha : H a = none) : Fre H σ Γ a := fre_of r ha
/-- .. and hands back a new list -/
theorem n_call (d : ι) (ha : A K m ta Γ Γ1 as) (hm : Mt as (args d)) (hp : pre d) : EN K m (tCall (spN K args pre resN out) [] E0 ta) Γ Γ1 (resN d) := fun F I H0 H σ r Q q =>
  ha F I H0 H σ r _ fun vs H1 H1' r1 a1 b1 c1 => by
    show spN K args pre resN out (vs ++ []) H1' Q E0
    rw [List.append_nil]
    refine call_core r1 c1 d hp hm fun v H2 H2' σ' r2 s0 s1 _ rv => ?_
    obtain ⟨a, vs, rfl, z1, z2, z3, z4, z5⟩ := rv
    have ha1 : H1' a = none := z1
    exact q a vs H2 H2' r2 (a1.trans s0) (fun z => (b1 z).trans s1) (Same.free r1.f ha1) z2 (fre_same r1 s1 (own_free r1 ha1)) z4 z5
def but (b : Addr) (H : Hp) : Hp := fun c => if c = b then none else H c
theorem but_self {b : Addr} {H : Hp} : but b H b = none := if_pos rfl
theorem but_ne {b c : Addr} {H : Hp} (h : c ≠ b) : but b H c = H c := if_neg h
theorem of_but {b c : Addr} {H : Hp} {o : HO} (e : but b H c = some o) : c ≠ b ∧ H c = some o := by
  by_cases hc : c = b
  · subst hc; rw [but_self] at e; cases e
  · rw [but_ne hc] at e; exact ⟨hc, e⟩
def Fm.but (b : Addr) (H0 H : Hp) (h : Same H0 (but b H)) : Fm := ⟨FF.but b H, H0, h⟩
theorem callM_core {F : Fm} {I H0 H : Hp} {σ : St} {vs : List V} {Q : VK} {X : XK} {n k : Nat} {α : Type} {i : Rp α} {a : Option Addr} {xs ys : List α} {b : Addr} (r : SR K F I H0 H σ Γ) (c : Prd (arOk K H0 H σ) vs as) (d : ι) (hn : Γ[n]? = some (.own i a xs)) (hσ : σ[n]? = some (some (.ref b))) (hm : MtM n b i xs as (args d) k) (hp : pre d) (ko : Nat) (ho : (out d)[ko]? = some (.own i (some b) ys))
    (q : ∀ v H0' H' σ' G, SR K F I H0' H' σ (Γ.set n (.own i a ys)) → Same H0 H0' → ((∀ c, G.k c = none → c = b ∨ H c = none) ∧ ∀ c o, c ≠ b → H c = some o → H' c = some o) → SR K G H0 H0' H' σ' (out d) → po G H0' H' σ' v d → Q v H') : spG K args pre out po vs H Q X := by
  obtain ⟨b', us, e1, f1, f2, f3, f4⟩ := own_at r hn
  rw [hσ] at e1
  cases e1
  have sub0 : Same H0 (but b H) := fun c o e => by rw [but_ne (ne_of_none e f2)]; exact r.h c o e
  have z' := mtm_sl (F := Fm.but b H0 H sub0) (Same.refl _) hσ (show but b H b = none from but_self) f2 f3 f4 hm c
  refine ⟨d, Fm.but b H0 H sub0, H0, prd_len z'.1, hp, sr_of (fun c o e => (of_but e).2) (Same.refl _) (fun _ _ _ n => n) r.h z'.1 (fun l l' ne h1 h2 => ne ((z'.2 l h1).trans (z'.2 l' h2).symm)), fun v H0' H' σ' s1 r2 rv => ?_⟩
  obtain ⟨ov, w1, c', ws, w2, w3, w4, w5, w6, w7⟩ := r2.ok ko _ ho
  have ec : c' = b := w3 b rfl
  subst ec
  have kept : ∀ c o, c ≠ c' → H c = some o → (Fm.but c' H0 H sub0).k c = some o := fun c o hc e => by show but c' H c = some o; rw [but_ne hc]; exact e
  refine q v H0' H' σ' _ (r.after hn hσ s1 (fun c o hc e => r2.f c o (kept c o hc e)) r2.h (fun c o hc e nn => r2.g c o (kept c o hc e) nn) w5 w6 w7) s1 ⟨fun c hc => ?_, fun c o hc e => r2.f c o (kept c o hc e)⟩ r2 rv
  by_cases z : c = c'
  · exact .inl z
  · have hc' : but c' H c = none := hc
    rw [but_ne z] at hc'
    exact .inr hc'
/-- f(a, ..) that changes one list of ours -/
theorem e_callM {n k : Nat} {α : Type} {i : Rp α} {a : Option Addr} {xs ys : List α} {z : β} (d : Addr → ι) (ha : A K m ta Γ Γ1 as) (hn : Γ1[n]? = some (.own i a xs)) (hm : ∀ p, MtM n p i xs as (args (d p)) k) (hp : ∀ p, pre (d p)) (ko : Nat) (ho : ∀ p, (out (d p))[ko]? = some (.own i (some p) ys)) (hz : ∀ p, res (d p) = z) :
    E K true true (tCall (spF K args pre res out) [] E0 ta) Γ (Γ1.set n (.own i a ys)) z := fun F I H0 H σ r Q q =>
  ha F I H0 H σ r _ fun vs H1 H1' r1 a1 b1 c1 => by
    show spF K args pre res out (vs ++ []) H1' Q E0
    rw [List.append_nil]
    obtain ⟨b, us, e1, _⟩ := own_at r1 hn
    refine callM_core r1 c1 (d b) hn e1 (hm b) (hp b) ko (ho b) fun v H2 H2' σ' G r2 s0 _ _ rv => ?_
    have rv' : ib.rep K H2 v (res (d b)) := rv
    rw [hz] at rv'
    exact q v H2 H2' r2 (a1.trans s0) (fun z => nomatch z) rv'
theorem n_callM {n k : Nat} {α : Type} {i : Rp α} {a : Option Addr} {xs ys : List α} {z : List β} (d : Addr → ι) (ha : A K m ta Γ Γ1 as) (hn : Γ1[n]? = some (.own i a xs)) (hm : ∀ p, MtM n p i xs as (args (d p)) k) (hp : ∀ p, pre (d p)) (ko : Nat) (ho : ∀ p, (out (d p))[ko]? = some (.own i (some p) ys)) (hz : ∀ p, resN (d p) = z) :
    EN K true (tCall (spN K args pre resN out) [] E0 ta) Γ (Γ1.set n (.own i a ys)) z := fun F I H0 H σ r Q q =>
  ha F I H0 H σ r _ fun vs H1 H1' r1 a1 b1 c1 => by
    show spN K args pre resN out (vs ++ []) H1' Q E0
    rw [List.append_nil]
    obtain ⟨b, us, e1, f1, f2, f3, f4⟩ := own_at r1 hn
    refine callM_core r1 c1 (d b) hn e1 (hm b) (hp b) ko (ho b) fun v H2 H2' σ' G r2 s0 hG r3 rv => ?_
    obtain ⟨a', vs', rfl, z1, z2, z3, z4, z5⟩ := rv
    rw [hz] at z5
    obtain ⟨ov, w1, c', ws, w2, w3, w4, w5, w6, w7⟩ := r3.ok ko _ (ho b)
    have ec : c' = b := w3 b rfl
    subst ec
    have na : a' ≠ c' := fun z => z3 ko ⟨_, _, ho c', w1, by show ov = some (V.ref a'); rw [w2, z]⟩
    have ha1 : H1' a' = none := by
      rcases hG.1 a' z1 with z | z
      · exact absurd z na
      · exact z
    refine q a' vs' H2 H2' r2 (a1.trans s0) (fun z => nomatch z) (Same.free r1.f ha1) z2 (fun l hl => ?_) z4 z5
    rcases ftp_set hl with ⟨rfl, ov', e, f⟩ | ⟨hk, t, ov', e4, e5, f⟩
    · exact na (by rw [e1] at e; cases e; have : some (V.ref c') = some (V.ref a') := f; cases this; rfl)
    · obtain ⟨ov2, y1, y2⟩ := r1.ok l t e4
      rw [y1] at e5
      cases e5
      have fb : ft H1' ov' t a' := ft_back y2 (fun d o k1 k2 => hG.2 d o (fun w => by subst w; exact r1.dj l n d hk ⟨t, ov', e4, y1, k1⟩ (ftp_at hn e1)) k2) f
      exact own_free r1 ha1 l ⟨t, ov', e4, y1, fb⟩
theorem SR.without {F : Fm} {I H0 H : Hp} {σ : St} {b : Addr} (r : SR K F I H0 H σ Γ) (hF : F.k b = none) (h0 : H0 b = none) (hn : Fre H σ Γ b) {vl : List V} (hb : H b = some (.lst vl)) : SR K F I H0 (but b H) σ Γ := by
  have off : ∀ {n c}, Ftp H σ Γ n c → c ≠ b := fun h z => by subst z; exact hn _ h
  have up : ∀ {n c}, Ftp (but b H) σ Γ n c → Ftp H σ Γ n c := fun h => ftp_back r (fun a n o z1 z2 => by rw [but_ne (off z1)]; exact z2) h
  refine ⟨fun a o e => by rw [but_ne (ne_of_none e hF)]; exact r.f _ _ e, r.i, r.g, fun a o e => by rw [but_ne (ne_of_none e h0)]; exact r.h _ _ e, r.len, fun n s e => ?_, fun n m a ne h1 h2 => r.dj n m a ne (up h1) (up h2)⟩
  obtain ⟨ov, q1, q2⟩ := r.ok n s e
  refine ⟨ov, q1, ?_⟩
  cases s with
  | un => trivial
  | per _ _ => exact q2
  | bor _ _ => exact q2
  | bl _ _ => exact q2
  | own i p xs =>
    obtain ⟨a, vs, e2, e3, e4, e5, e6, e7⟩ := q2
    exact ⟨a, vs, e2, e3, e4, e5, by rw [but_ne (off ⟨_, _, e, q1, e2⟩)]; exact e6, e7⟩
  | dp i p xss => exact dpOk.mono (p' := p) q2 (fun _ _ z => z) (fun _ _ z => z) (fun d o hd z => by rw [but_ne (off ⟨_, _, e, q1, hd⟩)]; exact z) fun _ _ z => z
  | gn G => exact gnOk.mono q2 (fun _ _ z => z) (fun _ _ z => z) (fun d o hd z => by rw [but_ne (off ⟨_, _, e, q1, hd⟩)]; exact z) fun _ z => z
  | ob a C dx fs =>
    obtain ⟨e2, e3, e4, e5, e6, e7, vs, e8, e9⟩ := q2
    exact ⟨e2, e3, e4, e5, e6, by rw [but_ne (ne_of e7 hb (fun z => nomatch z))]; exact e7, vs, by rw [but_ne (ne_of e8 hb (fun z => nomatch z))]; exact e8, e9⟩
/-- f([..] or g(..), a, ..): a list that is made for the call and changed by it -/
theorem e_callN {m2 : Bool} {te : TE} {α : Type} {i : Rp α} {xs : List α} {z : β} (d : Addr → ι) (h : EN K m te Γ Γ1 xs) (ha : A K m2 ta Γ1 Γ2 as) (ss : List Sl) (hs : ∀ p, args (d p) = .own i (some p) xs :: ss) (hm : MtP as ss) (hp : ∀ p, pre (d p)) (hz : ∀ p, res (d p) = z) :
    E K true true (tCall (spF K args pre res out) [] E0 (tCons te ta)) Γ Γ2 z := fun F I H0 H σ r Q q =>
  h F I H0 H σ r _ fun b us H1 H1' r1 a1 b1 y1 y2 y3 y4 y5 => ha (F.plus b (.lst us) y1) I H1 H1' σ (r1.guard y1 y2 y3 y4) _ fun vs H2 H2' r2 a2 b2 c2 => by
    show spF K args pre res out ((.ref b :: vs) ++ []) H2' Q E0
    rw [List.append_nil]
    obtain ⟨r3, d1, d2, d3⟩ := r2.unguard (Same.free r1.i y2)
    have r4 := r3.without y1 d1 d3 d2
    have sub0 : Same H2 (but b H2') := r4.h
    have zz := mtp_sl (F := Fm.but b H2 H2' sub0) (H := H2') (σ := σ) (Same.refl _) hm c2
    refine ⟨d b, Fm.but b H2 H2' sub0, H2, by rw [hs]; simp [prd_len zz.1], hp b, ?_, fun v H0' H' σ' s1 r5 rv => ?_⟩
    · rw [hs]
      refine sr_of (vs := .ref b :: vs) (fun c o e => (of_but e).2) (Same.refl _) (fun _ _ _ n => n) r3.h (.cons ⟨b, us, rfl, fun q z => Option.some.inj z, but_self, d1, d2, prd_mono (fun _ _ z => i.mono a2 z) y5⟩ zz.1) fun l l' ne h1 h2 => ?_
      cases l with
      | zero =>
        cases l' with
        | zero => exact ne rfl
        | succ l' => exact zz.2 l' h2
      | succ l => exact zz.2 l h1
    · have rv' : ib.rep K H0' v (res (d b)) := rv
      rw [hz] at rv'
      refine q v H0' H' (r4.step s1 r5.f r5.h (fun a o e n => r5.g a o e n)) ((a1.trans a2).trans s1) (fun zm => nomatch zm) rv'
end
end FF

set_option Elab.async false
set_option linter.all false
set_option maxRecDepth 100000
set_option maxHeartbeats 2000000
namespace FF
open PySem L2
theorem rng_at {lo hi x : Int} {n : Nat} (h : (rng lo hi)[n]? = some x) : x = lo + n ∧ lo ≤ x ∧ x < hi ∧ n < (hi - lo).toNat := by
  have hl := (List.getElem?_eq_some_iff.mp h).1
  rw [rng_len] at hl
  rw [rng_get hl] at h
  cases h
  omega
theorem rng_mem {lo hi x : Int} (h : x ∈ rng lo hi) : lo ≤ x ∧ x < hi := by
  obtain ⟨n, hn⟩ := List.getElem?_of_mem h
  have := rng_at hn
  omega
theorem free_one {Γ : List Sl} {n : Nat} (h : Γ[n]? = some .un) : Free [n] Γ := fun k hk s e => by
  have : k = n := by simpa using hk
  subst this
  rw [h] at e
  exact (Option.some.inj e).symm
theorem free_two {Γ : List Sl} {n m : Nat} (h : Γ[n]? = some .un) (h2 : Γ[m]? = some .un) : Free [n, m] Γ := fun k hk s e => by
  have : k = n ∨ k = m := by simpa using hk
  rcases this with rfl | rfl
  · rw [h] at e; exact (Option.some.inj e).symm
  · rw [h2] at e; exact (Option.some.inj e).symm
class NN (α : Type) [i : Rp α] : Prop where
  nn : ∀ {K : Kf} {H : Hp} {x : α}, ¬ i.rep K H .non x
instance : NN Int := ⟨fun h => nomatch h⟩
instance : NN Bool := ⟨fun h => nomatch h⟩
instance : NN PySem.Str := ⟨fun h => nomatch h⟩
instance {α : Type} [Rp α] : NN (List α) := ⟨fun ⟨_, _, h, _⟩ => nomatch h⟩
instance {α : Type} [Rp α] : NN (Tu α) := ⟨fun ⟨_, _, h, _⟩ => nomatch h⟩
instance {α β : Type} [Rp α] [Rp β] : NN (α × β) := ⟨fun ⟨_, _, _, h, _⟩ => nomatch h⟩
instance {α β γ : Type} [Rp α] [Rp β] [Rp γ] : NN (T3 α β γ) := ⟨fun ⟨_, _, _, _, h, _⟩ => nomatch h⟩
instance {α β γ δ : Type} [Rp α] [Rp β] [Rp γ] [Rp δ] : NN (T4 α β γ δ) := ⟨fun ⟨_, _, _, _, _, h, _⟩ => nomatch h⟩
theorem not_non {α : Type} [i : Rp α] [NN α] {x : α} : ∀ (K : Kf) (H : Hp), ¬ i.rep K H .non x := fun _ _ h => NN.nn h
section
variable {X : Cx}
theorem pe_gX {x : Str} {pos : Pos} {v : V} (hg : Gl X x) (h : ∃ u, X.mg x = some u ∧ RelV v u) (hd : (x == ("__debug__" : Str)) = false := by decide) : PE X (.Name x pos) (tC v) := by
  obtain ⟨u, h1, h2⟩ := h
  exact pe_glob hg h1 h2 hd
end
theorem gi_bd {xs : List Int} {lo hi k : Int} (h : xs.all (fun x => decide (lo ≤ x) && decide (x ≤ hi)) = true) (h0 : lo ≤ 0 ∧ 0 ≤ hi) : lo ≤ gi xs k ∧ gi xs k ≤ hi := by
  have key : ∀ n : Nat, lo ≤ xs.getD n default ∧ xs.getD n default ≤ hi := fun n => by
    by_cases hn : n < xs.length
    · have e : xs.getD n default = xs[n] := by simp [List.getD, hn]
      rw [e]
      have := List.all_eq_true.mp h xs[n] (List.getElem_mem hn)
      simpa using this
    · have e : xs.getD n default = 0 := by
        simp only [List.getD]
        rw [List.getElem?_eq_none (by omega)]
        rfl
      rw [e]
      exact h0
  unfold gi
  split
  · exact key _
  · exact key _
theorem gi_mem {α : Type} [Inhabited α] {xs : List α} {k : Int} (h : 0 ≤ k ∧ k < xs.length) : gi xs k ∈ xs := by
  unfold gi
  rw [if_pos h.1]
  have hk : k.toNat < xs.length := by omega
  have : xs.getD k.toNat default = xs[k.toNat] := by simp [List.getD, hk]
  rw [this]
  exact List.getElem_mem hk
section
variable {K : Kf} {m m1 m2 p p2 : Bool} {te ta tb : TE} {Γ Γ1 Γ2 : List Sl} {α : Type} [i : Rp α]
/-- lists joined -/
theorem n_cat {xs ys : List α} (ha : E K m1 true ta Γ Γ1 xs) (hb : E K m2 true tb Γ1 Γ2 ys) (hz : xs.length + ys.length ≤ 100000) : EN K (m1 || m2) (tOp rCat ta tb) Γ Γ2 (xs ++ ys) := fun F I H0 H σ r Q q =>
  ha F I H0 H σ r _ fun v H1 H1' r1 a1 b1 c1 => hb F I H1 H1' σ r1 _ fun w H2 H2' r2 a2 b2 c2 => by
    obtain ⟨a, vs, rfl, hs, hp⟩ := c1
    obtain ⟨b, ws, rfl, ht, hq⟩ := c2
    refine ⟨a, b, vs, ws, rfl, rfl, r2.h _ _ (a2 _ _ hs), r2.h _ _ ht, ?_, fun l hl => ?_⟩
    · rw [prd_len hp, prd_len hq]; exact Nat.le_trans hz (by decide)
    · obtain ⟨r3, s1, z1, z2, z3⟩ := r2.fresh (vs := vs ++ ws) hl
      exact q _ _ _ _ r3 (a1.trans a2) (fun z => (same_mm b1 b2 z).trans s1) z1 z2 z3 upd_same (prd_app (prd_mono (fun _ _ z => i.mono a2 z) hp) hq)
theorem n_sl {xs : List α} {tl th : TO} {lo hi : Option Int} (h : E K m true te Γ Γ1 xs) (hl : O K tl Γ1 lo) (hh : O K th Γ1 hi) : EN K m (tSl (rSlL K) te tl th) Γ Γ1 (gs xs lo hi) := fun F I H0 H σ r Q q =>
  h F I H0 H σ r _ fun v H1 H1' r1 a1 b1 c1 => hl F I H1 H1' σ r1 _ fun H2 H2' r2 a2 b2 => hh F I H2 H2' σ r2 _ fun H3 H3' r3 a3 b3 => by
    obtain ⟨a, vs, rfl, hs, hp⟩ := rl c1
    refine ⟨a, vs, rfl, ((a2.trans a3).trans r3.h).seq hs, fun l hl => ?_⟩
    obtain ⟨r4, s1, z1, z2, z3⟩ := r3.fresh (vs := cutV vs lo hi) hl
    exact q _ _ _ _ r4 ((a1.trans a2).trans a3) (fun z => (((b1 z).trans b2).trans b3).trans s1) z1 z2 z3 upd_same (prd_mono (fun _ _ z => i.mono (a2.trans a3) z) (gs_cut hp lo hi))
theorem n_slB [Sc α] {xs : List α} {tl th : TO} {lo hi : Option Int} (h : E K m p te Γ Γ1 xs) (hl : O K tl Γ1 lo) (hh : O K th Γ1 hi) : EN K m (tSl (rSlL K) te tl th) Γ Γ1 (gs xs lo hi) := fun F I H0 H σ r Q q =>
  h.nowP F I H0 H σ r _ fun v H1 H1' r1 a1 b1 c1 => hl F I H1 H1' σ r1 _ fun H2 H2' r2 a2 b2 => hh F I H2 H2' σ r2 _ fun H3 H3' r3 a3 b3 => by
    obtain ⟨a, vs, rfl, hs, hp⟩ := rl c1
    refine ⟨a, vs, rfl, (b2.trans b3).seq hs, fun l hl => ?_⟩
    obtain ⟨r4, s1, z1, z2, z3⟩ := r3.fresh (vs := cutV vs lo hi) hl
    exact q _ _ _ _ r4 ((a1.trans a2).trans a3) (fun z => (((b1 z).trans b2).trans b3).trans s1) z1 z2 z3 upd_same (prd_mono (fun _ _ z => Sc.any z) (gs_cut hp lo hi))
theorem n_listT {xs : Tu α} (h : E K m true ta Γ Γ1 xs) : EN K m (tCB (rList1 K) (tCons ta tNil)) Γ Γ1 xs.l := fun F I H0 H σ r Q q =>
  h F I H0 H σ r _ fun v H1 H1' r1 a1 b1 c1 => by
    obtain ⟨a, vs, rfl, hs, hp⟩ := c1
    refine ⟨a, vs, rfl, .inr (same_t r1.h hs), fun l hl => ?_⟩
    obtain ⟨r2, s1, z1, z2, z3⟩ := r1.fresh (vs := vs) hl
    exact q _ _ _ _ r2 a1 (fun z => (b1 z).trans s1) z1 z2 z3 upd_same hp
/-- an item of a list or tuple -/
theorem e_ixS [Inhabited α] {xs : Sq α} {k : Int} (ha : E K m1 true ta Γ Γ1 xs) (hb : E K m2 p2 tb Γ1 Γ2 k) (h : -(xs.l.length : Int) ≤ k ∧ k < xs.l.length) : E K (m1 || m2) true (tOp (rIx K) ta tb) Γ Γ2 (gi xs.l k) := fun F I H0 H σ r Q q =>
  ha F I H0 H σ r _ fun v H1 H1' r1 a1 b1 c1 => hb.sc F I H1 H1' σ r1 _ fun w H2 H2' r2 a2 b2 c2 => by
    obtain ⟨a, vs, rfl, hs, hp⟩ := c1
    subst c2
    obtain ⟨u, e1, e2⟩ := gi_at hp h
    have q' := q u H2 H2' r2 (a1.trans a2) (same_mm b1 b2) (i.mono a2 e2)
    rcases hs with hs | hs
    · exact .inl ⟨a, vs, k, u, rfl, rfl, (a2.trans r2.h).seq hs, e1, q'⟩
    · exact .inr (.inl ⟨a, vs, k, u, rfl, rfl, same_t (a2.trans r2.h) hs, e1, q'⟩)
end
end FF

set_option Elab.async false
set_option linter.all false
set_option maxRecDepth 100000
set_option maxHeartbeats 2000000
namespace FF
open PySem L2
/-! ### instances of own classes -/
/-- how a datum stands as an instance of the class at C -/
@[reducible] def repOb {α : Type} (C : Addr) (fs : α → List (Str × Pv)) : Rp α := ⟨fun K H v x => ∃ a dx vs, v = .ref a ∧ H a = some (.ins C dx vs) ∧ H dx = some (.own a) ∧ FsOk K H vs (fs x), fun s ⟨a, dx, vs, e, h1, h2, h3⟩ => ⟨a, dx, vs, e, s _ _ h1, s _ _ h2, h3.mono s⟩⟩
theorem fs_lookup {K : Kf} {H : Hp} {f : Str} : ∀ {vs : List (Str × V)} {fs : List (Str × Pv)} {p : Pv}, FsOk K H vs fs → fs.lookup f = some p → ∃ v, vs.lookup f = some v ∧ p.i.rep K H v p.x
  | _, _, _, .nil, h => by simp at h
  | (g, v) :: vs, (g', q) :: fs, p, .cons h t, e => by
    obtain ⟨h1, h2⟩ := h
    have h1' : g = g' := h1
    subst h1'
    by_cases c : f = g
    · subst c
      simp only [List.lookup, beq_self_eq_true] at e ⊢
      cases e
      exact ⟨v, rfl, h2⟩
    · have hb : (f == g) = false := by simpa using c
      simp only [List.lookup, hb] at e ⊢
      exact fs_lookup t e
theorem fs_none {K : Kf} {H : Hp} {f : Str} : ∀ {vs : List (Str × V)} {fs : List (Str × Pv)}, FsOk K H vs fs → fs.lookup f = none → vs.lookup f = none
  | _, _, .nil, _ => rfl
  | (g, v) :: vs, (g', q) :: fs, .cons h t, e => by
    have h1' : g = g' := h.1
    subst h1'
    by_cases c : f = g
    · subst c
      simp only [List.lookup, beq_self_eq_true] at e
      cases e
    · have hb : (f == g) = false := by simpa using c
      simp only [List.lookup, hb] at e ⊢
      exact fs_none t e
theorem putF_new {K : Kf} {H : Hp} {f : Str} {v : V} {q : Pv} : ∀ {vs : List (Str × V)} {fs : List (Str × Pv)}, FsOk K H vs fs → fs.lookup f = none → q.i.rep K H v q.x → FsOk K H (putF f v vs) (fs ++ [(f, q)])
  | _, _, .nil, _, r => .cons ⟨rfl, r⟩ .nil
  | (g, w) :: vs, (g', q') :: fs, .cons h t, e, r => by
    have h1' : g = g' := h.1
    subst h1'
    have c : ¬ g = f := fun c => by
      subst c
      simp only [List.lookup, beq_self_eq_true] at e
      cases e
    have hb : (f == g) = false := by simpa using (fun z => c z.symm)
    simp only [List.lookup, hb] at e
    show FsOk K H (if g = f then (g, v) :: vs else (g, w) :: putF f v vs) _
    rw [if_neg c]
    exact .cons h (putF_new t e r)
theorem fs_len {K : Kf} {H : Hp} {vs : List (Str × V)} {fs : List (Str × Pv)} (h : FsOk K H vs fs) : vs.length = fs.length := prd_len h
section
variable {K : Kf} {m m1 p p1 : Bool} {te ta to : TE} {Γ Γ1 Γ2 : List Sl}
/-- o.f -/
theorem e_fldO {α β : Type} {C : Addr} {fs : α → List (Str × Pv)} [j : Rp β] {x : α} {y : β} {f : Str} (h : @E K m p to Γ Γ1 α (repOb C fs) x) (c : Cls K C) (n : NoAttr K C f) (hl : (fs x).lookup f = some ⟨j, y⟩) : E K m p (tFld K to f) Γ Γ1 y := fun F I H0 H σ r Q q =>
  h F I H0 H σ r _ fun v H1 H1' r1 a1 b1 c1 => by
    obtain ⟨a, dx, vs, rfl, h1, h2, h3⟩ := c1
    obtain ⟨w, w1, w2⟩ := fs_lookup h3 hl
    refine ⟨a, C, dx, vs, w, rfl, ?_, c, n, w1, q w H1 H1' r1 a1 b1 w2⟩
    cases p with
    | true => exact r1.h _ _ h1
    | false => exact h1
/-- what a method's call asks of its object -/
theorem ob_has {α : Type} {C : Addr} {fs : α → List (Str × Pv)} {x : α} {mn : Str} (hl : (fs x).lookup mn = none) : ∀ H v, (repOb C fs).rep K H v x → ∃ a dx vs, v = .ref a ∧ H a = some (.ins C dx vs) ∧ vs.lookup mn = none := fun H v ⟨a, dx, vs, e, h1, h2, h3⟩ => ⟨a, dx, vs, e, h1, fs_none h3 hl⟩
def notOb : Sl → Bool
  | .ob _ _ _ _ => false
  | _ => true
/-- self.f = e, while it is made -/
theorem g_fld {α : Type} [i : Rp α] {x : α} {n : Nat} {a C dx : Addr} {fs : List (Str × Pv)} {f : Str} (h : E K m true te Γ Γ1 x) (hn : Γ1[n]? = some (.ob a C dx fs)) (c : Cls K C) (na : NoAttr K C f) (hf : fs.lookup f = none) (hone : (Γ1.set n .un).all notOb = true := by rfl) (hz : fs.length < 1000 := by exact Nat.le_of_ble_eq_true rfl) :
    Go K (sFld K (tVar n) te f) Γ (Γ1.set n (.ob a C dx (fs ++ [(f, ⟨i, x⟩)]))) := fun F I H0 H σ D r q =>
  h F I H0 H σ r _ fun v H1 H1' r1 a1 b1 c1 => by
    obtain ⟨ov, e1, e2, e3, e4, e5, e6, e7, vs, e8, e9⟩ := r1.ok n _ hn
    subst e2
    refine ⟨.ref a, e1, a, C, dx, vs, rfl, e8, c, na, by rw [fs_len e9]; exact hz, q H1 _ σ a1 ?_⟩
    have hl : n < Γ1.length := (List.getElem?_eq_some_iff.mp hn).1
    have nd : dx ≠ a := ne_of e7 e8 (fun z => nomatch z)
    have off : ∀ {k c}, Ftp H1' σ Γ1 k c → c ≠ a := fun {k c} h => by
      obtain ⟨_, _, us, w⟩ := ftp_own r1 h
      exact ne_of w e8 (fun z => nomatch z)
    have up : ∀ {k c}, Ftp (upd H1' a (.ins C dx (putF f v vs))) σ (Γ1.set n (.ob a C dx (fs ++ [(f, ⟨i, x⟩)]))) k c → Ftp H1' σ Γ1 k c := fun {k c} h => by
      rcases ftp_set h with ⟨rfl, ov', e, z⟩ | ⟨hk, z⟩
      · exact z.elim
      · exact ftp_back r1 (fun d k o z1 z2 => by rw [upd_ne (off z1)]; exact z2) z
    refine ⟨fun b o e => by rw [upd_ne (ne_of_none e e3)]; exact r1.f _ _ e, r1.i, r1.g, fun b o e => by rw [upd_ne (ne_of_none e e4)]; exact r1.h _ _ e, by simpa using r1.len, fun k t e => ?_, fun k l b ne h1 h2 => r1.dj k l b ne (up h1) (up h2)⟩
    · rcases get_set e with ⟨rfl, rfl⟩ | ⟨hk, e⟩
      · exact ⟨_, e1, rfl, e3, e4, e5, e6, by rw [upd_ne nd]; exact e7, _, upd_same, putF_new e9 hf (show i.rep K H1 v x by simpa using c1)⟩
      · obtain ⟨ov', w1, w2⟩ := r1.ok k t e
        refine ⟨ov', w1, ?_⟩
        cases t with
        | un => trivial
        | per _ _ => exact w2
        | bor _ _ => exact w2
        | bl _ _ => exact w2
        | own j p xs =>
          obtain ⟨b, us, w3, w4, w5, w6, w7, w8⟩ := w2
          exact ⟨b, us, w3, w4, w5, w6, by rw [upd_ne (ne_of w7 e8 (fun z => nomatch z))]; exact w7, w8⟩
        | dp j p xss => exact dpOk.mono (p' := p) w2 (fun _ _ z => z) (fun _ _ z => z) (fun d o hd z => by rw [upd_ne (off ⟨_, _, e, w1, hd⟩)]; exact z) fun _ _ z => z
        | gn G => exact gnOk.mono w2 (fun _ _ z => z) (fun _ _ z => z) (fun d o hd z => by rw [upd_ne (off ⟨_, _, e, w1, hd⟩)]; exact z) fun _ z => z
        | ob b C' dx' fs' =>
          exfalso
          have z := List.all_eq_true.mp hone (.ob b C' dx' fs') (List.mem_of_getElem? (i := k) (by rw [List.getElem?_set_ne (Ne.symm hk)]; exact e))
          exact nomatch (show false = true from z)
/-- self.f, while it is made -/
theorem e_selfF {β : Type} [j : Rp β] {y : β} {n : Nat} {a C dx : Addr} {fs : List (Str × Pv)} {f : Str} (hn : Γ[n]? = some (.ob a C dx fs)) (c : Cls K C) (na : NoAttr K C f) (hl : fs.lookup f = some ⟨j, y⟩) : E K false true (tFld K (tVar n) f) Γ Γ y := fun F I H0 H σ r Q q => by
  obtain ⟨ov, e1, e2, e3, e4, e5, e6, e7, vs, e8, e9⟩ := r.ok n _ hn
  subst e2
  obtain ⟨w, w1, w2⟩ := fs_lookup e9 hl
  exact ⟨.ref a, e1, a, C, dx, vs, w, rfl, e8, c, na, w1, q w H0 H r (Same.refl _) (fun _ => Same.refl _) w2⟩
/-! ### made by a call -/
variable {ta tk : TA} {as bs : List Ar} {ι : Type} {args : ι → List Sl} {pre : ι → Prop} {fields : ι → List (Str × Pv)}
/-- what an __init__ promises -/
abbrev spI (K : Kf) (C : Addr) (args : ι → List Sl) (pre : ι → Prop) (fields : ι → List (Str × Pv)) : Sp := spG K (ι := Addr × Addr × ι) (fun d => .ob d.1 C d.2.1 [] :: args d.2.2) (fun d => pre d.2.2) (fun d => [.ob d.1 C d.2.1 (fields d.2.2)]) (PerR K fun _ => ())
theorem make_core {F : Fm} {I H0 H : Hp} {σ : St} {vs : List V} {Q : VK} {C x dx : Addr} {as : List Ar} {E : XK} (r : SR K F I H0 H σ Γ) (c : Prd (arOk K H0 H σ) vs as) (d : ι) (hp : pre d) (hm : Mt as (args d)) (hx : H x = none) (hdx : H dx = none) (hne : dx ≠ x)
    (q : ∀ v H0' H' us, SR K F I H0' H' σ Γ → Same H0 H0' → Same H H' → H0' x = some (.ins C dx us) → H0' dx = some (.own x) → FsOk K H0' us (fields d) → v = .non → Q v H') : spI K C args pre fields (.ref x :: vs) (upd (upd H dx (.own x)) x (.ins C dx [])) Q E := by
  have z := mt_sl (F := ⟨H, H, Same.refl _⟩) (fun _ _ e => e) r.h hm c
  have s0 : Same H (upd (upd H dx (.own x)) x (.ins C dx [])) := fun b o e => by rw [upd_ne (ne_of_none e hx), upd_ne (ne_of_none e hdx)]; exact e
  have up : ∀ v s, slOk K ⟨H, H, Same.refl _⟩ H0 H (some v) s → notOb s = true → ¬ isOwn (some s) → slOk K ⟨H, H, Same.refl _⟩ H0 (upd (upd H dx (.own x)) x (.ins C dx [])) (some v) s := fun v s h h1 h2 => by
    cases s with
    | un => trivial
    | per _ _ => exact h
    | bor _ _ => exact h
    | bl _ _ => exact h
    | own _ _ _ => exact (h2 trivial).elim
    | dp _ _ _ => exact (h2 trivial).elim
    | gn _ => exact (h2 trivial).elim
    | ob _ _ _ _ => cases h1
  have nob : ∀ {as ss}, Mt as ss → ∀ s ∈ ss, notOb s = true := by
    intro as ss h
    induction h with
    | nil => intro s hs; cases hs
    | per _ ih => intro s hs; rcases List.mem_cons.mp hs with rfl | hs; rfl; exact ih s hs
    | pb _ ih => intro s hs; rcases List.mem_cons.mp hs with rfl | hs; rfl; exact ih s hs
    | bor _ ih => intro s hs; rcases List.mem_cons.mp hs with rfl | hs; rfl; exact ih s hs
    | bl _ ih => intro s hs; rcases List.mem_cons.mp hs with rfl | hs; rfl; exact ih s hs
    | pl _ ih => intro s hs; rcases List.mem_cons.mp hs with rfl | hs; rfl; exact ih s hs
  have lift : ∀ {us : List V} {ss : List Sl}, Prd (fun v s => slOk K ⟨H, H, Same.refl _⟩ H0 H (some v) s) us ss → (∀ n : Nat, ¬ isOwn ss[n]?) → (∀ s ∈ ss, notOb s = true) → Prd (fun v s => slOk K ⟨H, H, Same.refl _⟩ H0 (upd (upd H dx (.own x)) x (.ins C dx [])) (some v) s) us ss := by
    intro us ss h
    induction h with
    | nil => intro _ _; exact .nil
    | cons h t ih =>
      intro h1 h2
      exact .cons (up _ _ h (h2 _ List.mem_cons_self) (h1 0)) (ih (fun n => h1 (n + 1)) fun s hs => h2 s (List.mem_cons_of_mem _ hs))
  refine ⟨(x, dx, d), ⟨H, H, Same.refl _⟩, H0, by simp [prd_len z.1], hp, ?_, fun v H0' H' σ' s1 r2 rv => ?_⟩
  · refine sr_of (vs := .ref x :: vs) s0 (Same.refl _) (fun _ _ _ n => n) (r.h.trans s0) (.cons ⟨rfl, hx, Same.free r.h hx, hdx, Same.free r.h hdx, by rw [upd_ne hne]; exact upd_same, [], upd_same, .nil⟩ (lift z.1 z.2 (nob hm))) fun n m ne h1 h2 => ?_
    cases n with
    | zero => exact h1
    | succ n => exact z.2 n h1
  · obtain ⟨ov, e1, e2, e3, e4, e5, e6, e7, us, e8, e9⟩ := r2.ok 0 _ rfl
    have hx0 : H0' x = none := e4
    have hd0 : H0' dx = none := e6
    have r3 : SR K F I H0' H' σ Γ := r.step s1 r2.f r2.h (fun a o e n => r2.g a o e n)
    have sA : Same H0' (upd (upd H0' dx (.own x)) x (.ins C dx us)) := fun b o e => by rw [upd_ne (ne_of_none e hx0), upd_ne (ne_of_none e hd0)]; exact e
    have hA : Same (upd (upd H0' dx (.own x)) x (.ins C dx us)) H' := fun b o e => by
      by_cases z1 : b = x
      · subst z1; rw [upd_same] at e; cases e; exact e8
      · rw [upd_ne z1] at e
        by_cases z2 : b = dx
        · subst z2; rw [upd_same] at e; cases e; exact e7
        · rw [upd_ne z2] at e; exact r2.h b o e
    have gA : ∀ a o, H a = some o → H0' a = none → upd (upd H0' dx (.own x)) x (.ins C dx us) a = none := fun a o e n => by
      rw [upd_ne (ne_of_none e hx), upd_ne (ne_of_none e hdx)]; exact n
    refine q v _ H' us (r.step (s1.trans sA) r2.f hA (fun a o e n => gA a o e (r2.g a o e n))) (s1.trans sA) r2.f upd_same (by rw [upd_ne hne]; exact upd_same) (e9.mono sA) rv
theorem mt_app : ∀ {as bs : List Ar} {ss us : List Sl}, Mt as ss → Mt bs us → Mt (as ++ bs) (ss ++ us)
  | _, _, _, _, .nil, h => h
  | _, _, _, _, .per t, h => .per (mt_app t h)
  | _, _, _, _, .pb t, h => .pb (mt_app t h)
  | _, _, _, _, .bor t, h => .bor (mt_app t h)
  | _, _, _, _, .bl t, h => .bl (mt_app t h)
  | _, _, _, _, .pl t, h => .pl (mt_app t h)
/-- C(a, .., k = v, ..), the keywords in the parameters' order, the rest by what stands at the top -/
theorem e_makeK {α : Type} {C : Addr} {fs : α → List (Str × Pv)} {n k : Nat} {dvs : List V} {ds : List Ar} (d : ι) (x : α) (ha : A K m ta Γ Γ1 as) (hb : A K false tk Γ1 Γ2 bs) (hd : ∀ H0 H σ, Prd (arOk K H0 H σ) dvs ds) (hn : as.length = n) (hk : bs.length = k)
    (hm : Mt (as ++ (bs ++ ds)) (args d)) (hp : pre d) (hx : fs x = fields d) : @E K m true (tMakeK C n k (spI K C args pre fields) (fun vs zs => vs ++ (zs ++ dvs)) E0 ta tk) Γ Γ2 α (repOb C fs) x := fun F I H0 H σ r Q q =>
  ha F I H0 H σ r _ fun us H1 H1' r1 a1 b1 c1 => hb F I H1 H1' σ r1 _ fun ws H2 H2' r2 a2 b2 c2 => by
    have c1' : Prd (arOk K H2 H2' σ) us as := prd_mono (fun _ _ z => ar_mono a2 (b2 rfl) z) c1
    refine ⟨(prd_len c1).trans hn, (prd_len c2).trans hk, fun y dy hy hdy hne => ?_⟩
    refine make_core (vs := us ++ (ws ++ dvs)) r2 (prd_app c1' (prd_app c2 (hd _ _ _))) d hp hm hy hdy hne fun v H0' H' vs r3 s0 s1 h1 h2 h3 hv => ⟨hv, ?_⟩
    exact q _ H0' H' r3 ((a1.trans a2).trans s0) (fun z => ((b1 z).trans (b2 rfl)).trans s1) ⟨y, dy, vs, rfl, h1, h2, by rw [hx]; exact h3⟩
/-- C(a, ..) -/
theorem e_make {α : Type} {C : Addr} {fs : α → List (Str × Pv)} {dvs : List V} {ds : List Ar} (d : ι) (x : α) (ha : A K m ta Γ Γ1 as) (hd : ∀ H0 H σ, Prd (arOk K H0 H σ) dvs ds)
    (hm : Mt (as ++ ds) (args d)) (hp : pre d) (hx : fs x = fields d) : @E K m true (tMake C (spI K C args pre fields) dvs E0 ta) Γ Γ1 α (repOb C fs) x := fun F I H0 H σ r Q q =>
  ha F I H0 H σ r _ fun us H1 H1' r1 a1 b1 c1 => fun y dy hy hdy hne =>
    make_core (vs := us ++ dvs) r1 (prd_app c1 (hd _ _ _)) d hp hm hy hdy hne fun v H0' H' vs r3 s0 s1 h1 h2 h3 hv => ⟨hv, q _ H0' H' r3 (a1.trans s0) (fun z => (b1 z).trans s1) ⟨y, dy, vs, rfl, h1, h2, by rw [hx]; exact h3⟩⟩
end
/-- a class that may be made by a call with these keywords | by positions alone -/
structure MkF (P : Program) (w : World) (K : Kf) (mg : Str → Option Value) (base : Heap) (k : Nat) (x : Str) (C : Addr) (n : Nat) (ks : List Str) (gV : List V → List V → List V) (sp : Sp) : Prop where
  ex : ∃ (f : Addr) (fd : FuncData) (ps : List Str) (g : List Value → List Value → List Value), Mk K C f ∧ FnOk P w K mg base CX0 k f fd ps sp ∧ mg x = some (.ref C) ∧ KBn K fd ps (n + 1) ks g gV
structure MkP (P : Program) (w : World) (K : Kf) (mg : Str → Option Value) (base : Heap) (k : Nat) (x : Str) (C : Addr) (dvs : List V) (sp : Sp) : Prop where
  ex : ∃ (f : Addr) (fd : FuncData) (ps : List Str) (ds : List Value), Mk K C f ∧ FnOk P w K mg base CX0 k f fd ps sp ∧ mg x = some (.ref C) ∧ Binds K fd ps ds ∧ Vals dvs ds
section
variable {X : Cx} {k j n : Nat} {C : Addr} {x : Str} {ks : List Str} {gV : List V → List V → List V} {dvs : List V} {sp : Sp} {p pos : Pos} {e : Expr} {es : List Expr} {kws : List Keyword} {t tk : TA}
theorem pe_mkF (c : MkF X.prog X.w X.K X.mg X.base k x C n ks gV sp) (hr : Room j X.A) (hj : k + 1 ≤ j) (hg : Gl X x) (ha : PA X (e :: es) t) (hkw : PK X kws tk)
    (hall : (backToKw pos (keywordEach kws X.env)).all (·.1.isSome) = true := by rfl) (hks : (backToKw pos (keywordEach kws X.env)).filterMap (·.1) = ks := by rfl) (hdb : (x == ("__debug__" : Str)) = false := by decide)
    (he : starEach (e :: es) X.env = (false, eval e X.env) :: starEach es X.env := by rfl) (hpl : ((backTo pos (starEach (e :: es) X.env)).any (·.1) || (backToKw pos (keywordEach kws X.env)).any (·.1.isNone)) = false := by rfl) :
    PE X (.Call (.Name x p) (e :: es) kws pos) (tMakeK C n ks.length sp gV E0 t tk) := by
  obtain ⟨f, fd, ps, g, M, F, hm, hb⟩ := c.ex
  exact pe_makeK M F (hr.mono hj) hg hm hb pass0 ha hkw hall hks hdb he hpl
theorem pe_mkP (c : MkP X.prog X.w X.K X.mg X.base k x C dvs sp) (hr : Room j X.A) (hj : k + 1 ≤ j) (hg : Gl X x) (ha : PA X (e :: es) t)
    (hdb : (x == ("__debug__" : Str)) = false := by decide) (he : starEach (e :: es) X.env = (false, eval e X.env) :: starEach es X.env := by rfl) (hpl : (backTo pos (starEach es X.env)).any (·.1) = false := by rfl) :
    PE X (.Call (.Name x p) (e :: es) [] pos) (tMake C sp dvs E0 t) := by
  obtain ⟨f, fd, ps, ds, M, F, hm, hb, hd⟩ := c.ex
  exact pe_make M F (hr.mono hj) hg hm hb hd pass0 ha hdb he hpl
end
end FF

set_option Elab.async false
set_option linter.all false
set_option maxRecDepth 100000
set_option maxHeartbeats 2000000
namespace FF
open PySem L2 PyProof.Rows
/-! ### a < b < c < d -/
def tChain3 (r r' r'' : R2) (ta tb tc td : TE) : TE := fun σ H Q => ta σ H fun x H1 => tb σ H1 fun y H2 => r x y H2 fun z H3 => ∃ k, z = .bl k ∧
  (if k = true then tc σ H3 fun y2 H4 => r' y y2 H4 fun z2 H5 => ∃ k2, z2 = .bl k2 ∧ (if k2 = true then td σ H5 fun y3 H6 => r'' y2 y3 H6 Q else Q (.bl false) H5) else Q (.bl false) H3)
section
variable {X : Cx} {a b c d : Expr} {ta tb tc td : TE} {pos : Pos}
theorem pe_chain3 {op op' op'' : CmpOp} {r r' r'' : R2} (ho : OpR X (compareOp op) r) (ho' : OpR X (compareOp op') r') (ho'' : OpR X (compareOp op'') r'') (ha : PE X a ta) (hb : PE X b tb) (hc : PE X c tc) (hd : PE X d td)
    (hm : lastMarks [op, op', op''] [b, c, d] = false := by with_unfolding_all rfl) : PE X (.Compare a [op, op', op''] [b, c, d] pos) (tChain3 r r' r'' ta tb tc td) := ⟨fun pins s σ H Q I h =>
  Compare_chain (thn (ha.run pins s σ H _ I h) fun v s1 ⟨x, H1, I1, r1, q1⟩ => chain_link (thn (hb.run pins s1 σ H1 _ I1 q1) fun u s2 ⟨y, H2, I2, r2, q2⟩ =>
    thn (ho pins s2 σ H2 x y v u _ I2 r1 r2 q2) fun d0 s3 ⟨z, H3, I3, r3, k, e, q3⟩ => by
      subst e; cases r3
      refine wpAny_truthy_bool ?_
      cases k with
      | false => exact ite_ff ⟨.bl false, H3, I3, rfl, q3⟩
      | true =>
        refine ite_tt (chain_link (thn (hc.run pins s3 σ H3 _ I3 q3) fun u2 s4 ⟨y2, H4, I4, r4, q4⟩ => thn (ho' pins s4 σ H4 y y2 u u2 _ I4 r2 r4 q4) fun d2 s5 ⟨z2, H5, I5, r5, k2, e2, q5⟩ => ?_))
        subst e2; cases r5
        refine wpAny_truthy_bool ?_
        cases k2 with
        | false => exact ite_ff ⟨.bl false, H5, I5, rfl, q5⟩
        | true => exact ite_tt (chain_last (thn (hd.run pins s5 σ H5 _ I5 q5) fun u3 s6 ⟨y3, H6, I6, r6, q6⟩ => ho'' pins s6 σ H6 y2 y3 u2 u3 Q I6 r4 r6 q6)))) hm⟩
theorem pt_chain3 {op op' op'' : CmpOp} {r r' r'' : R2} (ho : OpR X (compareOp op) r) (ho' : OpR X (compareOp op') r') (ho'' : OpR X (compareOp op'') r'') (ha : PE X a ta) (hb : PE X b tb) (hc : PE X c tc) (hd : PE X d td)
    (hm : lastMarks [op, op', op''] [b, c, d] = false := by with_unfolding_all rfl) : PT X (.Compare a [op, op', op''] [b, c, d] pos) (tTest (tChain3 r r' r'' ta tb tc td)) := ⟨fun pins s σ H Q I h =>
  isTrue_chain (thn (ha.run pins s σ H _ I h) fun v s1 ⟨x, H1, I1, r1, q1⟩ => test_link (thn (hb.run pins s1 σ H1 _ I1 q1) fun u s2 ⟨y, H2, I2, r2, q2⟩ =>
    thn (ho pins s2 σ H2 x y v u _ I2 r1 r2 q2) fun d0 s3 ⟨z, H3, I3, r3, k, e, q3⟩ => by
      subst e; cases r3
      refine wpAny_truthy_bool ?_
      cases k with
      | false =>
        obtain ⟨j, ej, q⟩ := q3
        cases ej
        exact ite_ff ⟨H3, I3, q⟩
      | true =>
        refine ite_tt (test_link (thn (hc.run pins s3 σ H3 _ I3 q3) fun u2 s4 ⟨y2, H4, I4, r4, q4⟩ => thn (ho' pins s4 σ H4 y y2 u u2 _ I4 r2 r4 q4) fun d2 s5 ⟨z2, H5, I5, r5, k2, e2, q5⟩ => ?_))
        subst e2; cases r5
        refine wpAny_truthy_bool ?_
        cases k2 with
        | false =>
          obtain ⟨j, ej, q⟩ := q5
          cases ej
          exact ite_ff ⟨H5, I5, q⟩
        | true =>
          refine ite_tt (test_last (thn (hd.run pins s5 σ H5 _ I5 q5) fun u3 s6 ⟨y3, H6, I6, r6, q6⟩ => thn (ho'' pins s6 σ H6 y2 y3 u2 u3 _ I6 r4 r6 q6) fun d3 s7 ⟨z3, H7, I7, r7, k3, e3, q7⟩ => ?_))
          subst e3; cases r7
          exact wpAny_truthy_bool ⟨H7, I7, q7⟩)) hm⟩
end
section
variable {K : Kf} {m m1 m2 p p1 p2 p3 p4 : Bool} {ta tb tc td te : TE} {Γ Γ1 Γ2 : List Sl}
theorem e_chain3 {f g h : Int → Int → Bool} {x y z w : Int} (ha : E K false p1 ta Γ Γ x) (hb : E K false p2 tb Γ Γ y) (hc : E K false p3 tc Γ Γ z) (hd : E K false p4 td Γ Γ w) :
    E K false true (tChain3 (rI0 fun i j => .bl (f i j)) (rI0 fun i j => .bl (g i j)) (rI0 fun i j => .bl (h i j)) ta tb tc td) Γ Γ (f x y && g y z && h z w) := fun F I H0 H σ r Q q =>
  ha.sc F I H0 H σ r _ fun v H1 H1' r1 a1 b1 c1 => hb.sc F I H1 H1' σ r1 _ fun u H2 H2' r2 a2 b2 c2 => by
    subst c1; subst c2
    refine ⟨x, y, rfl, rfl, f x y, rfl, ?_⟩
    cases e : f x y with
    | true =>
      rw [if_pos rfl]
      refine hc.sc F I H2 H2' σ r2 _ fun u2 H3 H3' r3 a3 b3 c3 => ?_
      subst c3
      refine ⟨y, z, rfl, rfl, g y z, rfl, ?_⟩
      cases e2 : g y z with
      | true =>
        rw [if_pos rfl]
        refine hd.sc F I H3 H3' σ r3 _ fun u3 H4 H4' r4 a4 b4 c4 => ?_
        subst c4
        refine ⟨z, w, rfl, rfl, q _ H4 H4' r4 (((a1.trans a2).trans a3).trans a4) (fun _ => (((b1 rfl).trans (b2 rfl)).trans (b3 rfl)).trans (b4 rfl)) ?_⟩
        rw [e, e2]; rfl
      | false =>
        rw [if_neg (by decide)]
        refine q _ H3 H3' r3 ((a1.trans a2).trans a3) (fun _ => ((b1 rfl).trans (b2 rfl)).trans (b3 rfl)) ?_
        rw [e, e2]; rfl
    | false =>
      rw [if_neg (by decide)]
      refine q _ H2 H2' r2 (a1.trans a2) (fun _ => (b1 rfl).trans (b2 rfl)) ?_
      rw [e]; rfl
/-! ### all, any, sum -/
theorem bools_map {K : Kf} {H : Hp} {vs : List V} {bs : List Bool} (h : Prd (rep K H) vs bs) : vs = bs.map V.bl := by
  induction h with
  | nil => rfl
  | cons h t ih => rw [List.map_cons, ← ih]; exact congrArg (· :: _) h
theorem ints_map {K : Kf} {H : Hp} {vs : List V} {ns : List Int} (h : Prd (rep K H) vs ns) : vs = ns.map V.int := by
  induction h with
  | nil => rfl
  | cons h t ih => rw [List.map_cons, ← ih]; exact congrArg (· :: _) h
theorem map_ints {K : Kf} {H : Hp} : ∀ ns : List Int, Prd (rep K H) (ns.map V.int) ns
  | [] => .nil
  | n :: ns => .cons rfl (map_ints ns)
theorem e_all {bs : List Bool} (h : E K m p ta Γ Γ1 bs) : E K m true (tCB (rAll K) (tCons ta tNil)) Γ Γ1 (bs.all id) := fun F I H0 H σ r Q q =>
  h.nowP F I H0 H σ r _ fun v H1 H1' r1 a1 b1 c1 => by
    obtain ⟨a, vs, rfl, hs, hp⟩ := rl c1
    rw [bools_map hp] at hs
    exact ⟨a, bs, rfl, hs, q _ H1 H1' r1 a1 b1 rfl⟩
theorem e_any {bs : List Bool} (h : E K m p ta Γ Γ1 bs) : E K m true (tCB (rAny K) (tCons ta tNil)) Γ Γ1 (bs.any id) := fun F I H0 H σ r Q q =>
  h.nowP F I H0 H σ r _ fun v H1 H1' r1 a1 b1 c1 => by
    obtain ⟨a, vs, rfl, hs, hp⟩ := rl c1
    rw [bools_map hp] at hs
    exact ⟨a, bs, rfl, hs, q _ H1 H1' r1 a1 b1 rfl⟩
theorem e_sum {ns : List Int} (h : E K m p ta Γ Γ1 ns) : E K m true (tCB (rSum K) (tCons ta tNil)) Γ Γ1 ns.sum := fun F I H0 H σ r Q q =>
  h.nowP F I H0 H σ r _ fun v H1 H1' r1 a1 b1 c1 => by
    obtain ⟨a, vs, rfl, hs, hp⟩ := rl c1
    rw [ints_map hp] at hs
    exact ⟨a, ns, rfl, hs, q _ H1 H1' r1 a1 b1 rfl⟩
end
end FF

set_option Elab.async false
set_option linter.all false
set_option maxRecDepth 100000
set_option maxHeartbeats 2000000
namespace FF
open PySem L2 PyProof.Rows
/-! ### rows of ints: lists, tuples, pairs -/
class IntRow (α : Type) [i : Rp α] where
  row : α → List Int
  ok : ∀ {K : Kf} {H : Hp} {v : V} {x : α}, i.rep K H v x → ∃ p, v = .ref p ∧ (SqL K H p ((row x).map V.int) ∨ SqT K H p ((row x).map V.int))
instance : IntRow (List Int) := ⟨fun x => x, fun h => by
  obtain ⟨a, vs, rfl, hs, hp⟩ := rl h
  rw [ints_map hp] at hs
  exact ⟨a, rfl, .inl hs⟩⟩
instance : IntRow (Tu Int) := ⟨fun x => x.l, fun ⟨a, vs, e, hs, hp⟩ => by
  rw [ints_map hp] at hs
  exact ⟨a, e, .inr hs⟩⟩
instance : IntRow (Int × Int) := ⟨fun x => [x.1, x.2], fun ⟨a, u, w, e, hs, h1, h2⟩ => by
  have e1 : u = .int _ := h1
  have e2 : w = .int _ := h2
  subst e1; subst e2
  exact ⟨a, e, .inr hs⟩⟩
/-- the least and the greatest of a row -/
def mn : List Int → Int
  | [] => 0
  | x :: xs => xs.foldl (fun a y => if decide (y < a) = true then y else a) x
def mx : List Int → Int
  | [] => 0
  | x :: xs => xs.foldl (fun a y => if decide (a < y) = true then y else a) x
def rMin1 (K : Kf) : List V → Hp → VK → Prop := fun vs H Q => ∃ p ns, vs = [.ref p] ∧ (SqL K H p (ns.map V.int) ∨ SqT K H p (ns.map V.int)) ∧ ns ≠ [] ∧ Q (.int (mn ns)) H
def rMax1 (K : Kf) : List V → Hp → VK → Prop := fun vs H Q => ∃ p ns, vs = [.ref p] ∧ (SqL K H p (ns.map V.int) ∨ SqT K H p (ns.map V.int)) ∧ ns ≠ [] ∧ Q (.int (mx ns)) H
section
variable {X : Cx}
theorem hold_int {h : Heap} {v : Value} {n : Int} (H : PySem.W.Holds h v n) : ∃ t, v = .int n t := by
  obtain ⟨as, r⟩ := H
  have r' : Reads h v (.int n) as := r
  cases r' with
  | int i t => exact ⟨t, rfl⟩
theorem cr_min1 (hc : X.calm = true) (hu : X.A.units + 64 < cLine) : CallR X (.builtin "min") (rMin1 X.K) := fun pins s σ H vs us Q I r ⟨p, ns, e, hs, hn, q⟩ => by
  subst e
  cases ns with
  | nil => exact (hn rfl).elim
  | cons n ns =>
    have fin : ∀ v h' tk, PySem.W.Holds h' v (PySem.W.minOf n ns) → (∀ b o, s.heap.get? b = some o → h'.get? b = some o) → ∃ x H', Inv X pins σ H' { s with heap := h', toks := tk } ∧ RelV x v ∧ Q x H' := fun v h' tk H1 hk => by
      obtain ⟨t, rfl⟩ := hold_int H1
      exact ⟨.int _, H, I.kept hk, ⟨t, rfl⟩, q⟩
    rw [Vals.ref1 r]
    rcases hs with hs | hs
    · obtain ⟨its, rv, hl, _⟩ := I.list hs
      exact PySem.W.min_list_datum (I.ok.hd hc) hl.isList (PySem.W.HoldAll.of_ints (by simpa using rv.ints)) (by show X.A.units + 1 + 0 < _; omega) fun i v h' tk hi H1 hk => fin v h' tk H1 hk
    · obtain ⟨its, rv, hl, _⟩ := I.tuple hs
      exact PySem.W.min_tuple_datum (I.ok.hd hc) hl (PySem.W.HoldAll.of_ints (by simpa using rv.ints)) (by show X.A.units + 1 + 0 < _; omega) fun i v h' tk hi H1 hk => fin v h' tk H1 hk
theorem cr_max1 (hc : X.calm = true) (hu : X.A.units + 64 < cLine) : CallR X (.builtin "max") (rMax1 X.K) := fun pins s σ H vs us Q I r ⟨p, ns, e, hs, hn, q⟩ => by
  subst e
  cases ns with
  | nil => exact (hn rfl).elim
  | cons n ns =>
    have fin : ∀ v h' tk, PySem.W.Holds h' v (PySem.W.maxOf n ns) → (∀ b o, s.heap.get? b = some o → h'.get? b = some o) → ∃ x H', Inv X pins σ H' { s with heap := h', toks := tk } ∧ RelV x v ∧ Q x H' := fun v h' tk H1 hk => by
      obtain ⟨t, rfl⟩ := hold_int H1
      exact ⟨.int _, H, I.kept hk, ⟨t, rfl⟩, q⟩
    rw [Vals.ref1 r]
    rcases hs with hs | hs
    · obtain ⟨its, rv, hl, _⟩ := I.list hs
      exact PySem.W.max_list_datum (I.ok.hd hc) hl.isList (PySem.W.HoldAll.of_ints (by simpa using rv.ints)) (by show X.A.units + 1 + 0 < _; omega) fun i v h' tk hi H1 hk => fin v h' tk H1 hk
    · obtain ⟨its, rv, hl, _⟩ := I.tuple hs
      exact PySem.W.max_tuple_datum (I.ok.hd hc) hl (PySem.W.HoldAll.of_ints (by simpa using rv.ints)) (by show X.A.units + 1 + 0 < _; omega) fun i v h' tk hi H1 hk => fin v h' tk H1 hk
end
section
variable {K : Kf} {m m1 m2 p p1 p2 p3 p4 : Bool} {ta tb tc td te : TE} {Γ Γ1 Γ2 : List Sl} {α : Type} [i : Rp α] [t : IntRow α]
theorem e_min {x : α} (h : E K m p ta Γ Γ1 x) (hn : IntRow.row x ≠ []) : E K m true (tCB (rMin1 K) (tCons ta tNil)) Γ Γ1 (mn (IntRow.row x)) := fun F I H0 H σ r Q q =>
  h.nowP F I H0 H σ r _ fun v H1 H1' r1 a1 b1 c1 => by
    obtain ⟨a, rfl, hs⟩ := t.ok c1
    exact ⟨a, _, rfl, hs, hn, q _ H1 H1' r1 a1 b1 rfl⟩
theorem e_max {x : α} (h : E K m p ta Γ Γ1 x) (hn : IntRow.row x ≠ []) : E K m true (tCB (rMax1 K) (tCons ta tNil)) Γ Γ1 (mx (IntRow.row x)) := fun F I H0 H σ r Q q =>
  h.nowP F I H0 H σ r _ fun v H1 H1' r1 a1 b1 c1 => by
    obtain ⟨a, rfl, hs⟩ := t.ok c1
    exact ⟨a, _, rfl, hs, hn, q _ H1 H1' r1 a1 b1 rfl⟩
/-! ### in -/
theorem inV_int (x : Int) : ∀ ns : List Int, inV (.int x) (ns.map V.int) = decide (x ∈ ns)
  | [] => rfl
  | n :: ns => by
    show (eqV (.int n) (.int x) || inV (.int x) (ns.map V.int)) = _
    rw [inV_int x ns]
    show ((n == x) || decide (x ∈ ns)) = _
    by_cases e : n = x
    · subst e; simp
    · have e' : ¬ x = n := fun z => e z.symm
      simp [e, e']
theorem flat_ints : ∀ ns : List Int, (ns.map V.int).all flatV = true
  | [] => rfl
  | _ :: ns => flat_ints ns
theorem e_in {x : Int} {y : α} (ha : E K m1 p1 ta Γ Γ1 x) (hb : E K m2 p2 tb Γ1 Γ2 y) : E K (m1 || m2) true (tOp (rIn K false) ta tb) Γ Γ2 (decide (x ∈ IntRow.row y)) := fun F I H0 H σ r Q q =>
  ha.sc F I H0 H σ r _ fun v H1 H1' r1 a1 b1 c1 => hb.nowP F I H1 H1' σ r1 _ fun w H2 H2' r2 a2 b2 c2 => by
    subst c1
    obtain ⟨a, rfl, hs⟩ := t.ok c2
    refine ⟨a, _, rfl, hs, rfl, flat_ints _, ?_⟩
    refine q _ H2 H2' r2 (a1.trans a2) (same_mm b1 b2) ?_
    show V.bl (inV _ _) = V.bl _
    rw [inV_int]
theorem e_nin {x : Int} {y : α} (ha : E K m1 p1 ta Γ Γ1 x) (hb : E K m2 p2 tb Γ1 Γ2 y) : E K (m1 || m2) true (tOp (rIn K true) ta tb) Γ Γ2 (!decide (x ∈ IntRow.row y)) := fun F I H0 H σ r Q q =>
  ha.sc F I H0 H σ r _ fun v H1 H1' r1 a1 b1 c1 => hb.nowP F I H1 H1' σ r1 _ fun w H2 H2' r2 a2 b2 c2 => by
    subst c1
    obtain ⟨a, rfl, hs⟩ := t.ok c2
    refine ⟨a, _, rfl, hs, rfl, flat_ints _, ?_⟩
    refine q _ H2 H2' r2 (a1.trans a2) (same_mm b1 b2) ?_
    show V.bl (!inV _ _) = V.bl _
    rw [inV_int]
end
end FF

set_option Elab.async false
set_option linter.all false
set_option maxRecDepth 100000
set_option maxHeartbeats 2000000
namespace FF
open PySem L2 PyProof.Rows
/-! ### sorted(row of ints), the row a list or a tuple -/
section
variable {prog : Program} {w : World} {A : Around} {E : Value → Shared → Prop} {s : Shared}
abbrev nl (h : Heap) : Heap := h.push (seqObj "list" #[] 0)
abbrev nlv (h : Heap) (vs : List Value) : Heap := (nl h).update h.objs.size (Obj.mapSeq (· ++ vs.toArray))
theorem gatherT {l : Addr} {vs : List Value} {Q : List Value → Shared → Prop} (hl : s.heap.IsTuple l vs.toArray) (hz : vs.length ≤ sizeLine) (h : Q vs { s with heap := nlv s.heap vs }) : wpAny (model prog w) A (collect (.ref l)) Q E s := by
  obtain ⟨o, ho, hc, n, hd⟩ := hl
  have g := Heap.get?_push_size s.heap (o := seqObj "list" #[] 0) rfl
  have ho2 : (nl s.heap).get? l = some o := Heap.get?_push_of_some _ ho
  unfold collect; refine wpAny_bind (wpAny_runValue (codeAny_builtin entry_proto_collect' ?_))
  show wpAny _ _ (newList [] >>= fun x => again (.builtin "list.__iadd__" ⟨[x, .ref l], []⟩)) _ _ s
  refine wpAny_bind (wpAny_newList (wpAny_pure ⟨Code.quiet_builtin _ (by decide +kernel), codeAny_builtin entry_list_iadd' ?_⟩))
  show wpAny _ _ (Builtin.List.listExtendWith (.ref s.heap.objs.size) (.ref l) (.ref s.heap.objs.size)) _ _ ⟨nl s.heap, _, _, _, _⟩
  unfold Builtin.List.listExtendWith; refine wpAny_bind (wpAny_typeOf (T := "tuple") ⟨o, ho2, hc⟩ ?_)
  have tt : (Value.type "tuple" == Value.type "tuple") = true := by rfl
  rw [if_pos (by rw [tt, Bool.or_true])]; refine wpAny_bind (listItems_at ho2 hd (wpAny_bind (listItems_at g rfl ?_)))
  rw [if_neg (by simp)]; refine wpAny_bind (listUpdate_at g rfl (wpAny_pure ?_) (Nat.zero_le _) (by rw [Array.size_append, List.size_toArray]; show 0 + vs.length ≤ _; omega))
  show wpAny _ A (load s.heap.objs.size >>= fun o => match o.data with | .seq xs _ => pure xs.toList | _ => unsupported "internal:collect") Q E ⟨nlv s.heap vs, _, _, _, _⟩
  refine wpAny_bind (wpAny_load (get?_update_seq g _) ?_)
  show wpAny _ _ (pure ((#[] : Array Value) ++ vs.toArray).toList) Q E _
  have z : ((#[] : Array Value) ++ vs.toArray).toList = vs := by simp
  rw [z]; exact wpAny_pure h
theorem sortedT {l : Addr} {vs : List Value} {lt : Value → Value → Bool} {Q : Value → Shared → Prop} (O : SrtO.Swo lt) (hl : s.heap.IsTuple l vs.toArray) (hz : vs.length ≤ sizeLine)
    (hS : 2 ≤ vs.length → ∀ (h₁ : Heap) (a : Addr), SrtO.SortableO prog w A.in1.in1 { s with heap := h₁ } a vs lt)
    (h : ∀ out : List Value, SrtO.Srtd lt out → SrtO.Stb lt out vs → Q (.ref (s.heap.objs.size + 1)) { s with heap := sortedAll s.heap vs out.toArray }) : wpAny (model prog w) A (call (.builtin "sorted") [.ref l]) Q E s := by
  have hn : (nlv s.heap vs).objs.size = s.heap.objs.size + 1 := by unfold nlv nl; rw [Heap.size_update, size_push']
  have hL : ((nlv s.heap vs).push (seqObj "list" vs.toArray 0)).get? (s.heap.objs.size + 1) = some (seqObj "list" vs.toArray 0) := hn ▸ Heap.get?_push_size _ rfl
  refine Calls.call_function_entry kind_sorted plain_sorted entry_sorted (args_sorted1 _) ?_; unfold Builtin.«sorted»
  refine wpAny_bind (m := checkCount "sorted" 1 1 _) (wpAny_pure (wpAny_bind (gatherT hl hz (wpAny_bind (wpAny_newList ?_ hz)))))
  show wpAny _ _ _ _ _ ⟨(nlv s.heap vs).push (seqObj "list" vs.toArray 0), _, _, _, _⟩
  rw [hn]
  refine wpAny_bind (wpAny_holding (wpAny_call_entry slot_list_sort ⟨_, hL, rfl⟩ entry_list_sort (SrtO.list_sort_ord O hL hz (fun h2 => hS h2 _ _) fun out h1 h2 => ⟨_, rfl, wpAny_pure ⟨_, rfl, h out h1 h2⟩⟩) (args_list_sort _)))
end
/-- a row in rising order -/
def srt (ns : List Int) : List Int := ns.mergeSort fun a b => decide (a ≤ b)
theorem srt_perm (ns : List Int) : (srt ns).Perm ns := List.mergeSort_perm _ _
theorem srt_len (ns : List Int) : (srt ns).length = ns.length := (srt_perm ns).length_eq
theorem srt_up (ns : List Int) : (srt ns).Pairwise (· ≤ ·) := by
  have h := List.pairwise_mergeSort (le := fun a b : Int => decide (a ≤ b)) (fun a b c h1 h2 => by simp at *; omega) (fun a b => by simp; omega) ns
  exact h.imp fun h => of_decide_eq_true h
theorem srt_uniq {ns ns' : List Int} (h1 : ns'.Perm ns) (h2 : ns'.Pairwise (· ≤ ·)) : ns' = srt ns :=
  (h1.trans (srt_perm ns).symm).eq_of_pairwise (fun a b _ _ x y => Int.le_antisymm x y) h2 (srt_up ns)
def rSrt (K : Kf) : List V → Hp → VK → Prop := fun vs H Q => ∃ p ns, vs = [.ref p] ∧ (SqL K H p (ns.map V.int) ∨ SqT K H p (ns.map V.int)) ∧ ∀ l, H l = none → Q (.ref l) (upd H l (.lst ((srt ns).map V.int)))
theorem cr_srt {X : Cx} : CallR X (.builtin "sorted") (rSrt X.K) := fun pins s σ H vs us Q I r ⟨a, ns, e, hs, q⟩ => by
  subst e
  rcases hs with hs | hs
  · exact cr_sortedI pins s σ H _ us Q I r ⟨a, ns, rfl, hs, fun ns' p h1 h2 hp => by rw [srt_uniq h1 h2]; exact q p hp⟩
  · obtain ⟨its, rv, hl, hz⟩ := I.tuple hs
    rw [Vals.ref1 r]
    have hi := rv.ints
    refine sortedT SrtO.swo_int hl (by rw [← rv.length]; exact hz) (fun h2 h₁ b => SrtO.ints_sortable hi h2) fun out h1 h2 => ?_
    obtain ⟨k1, k2, k3⟩ := SrtO.ints_out hi h1 h2
    obtain ⟨ep, he⟩ := sortedAll_at s.heap its out.toArray
    have hlen : ((out.map SrtO.iv).map V.int).length ≤ sizeLine := by rw [List.length_map, k2.length_eq]; rw [List.length_map] at hz; exact hz
    refine ⟨.ref _, upd H (s.heap.objs.size + 1) (.lst ((out.map SrtO.iv).map V.int)), I.laid (t' := s.toks) (fun _ _ => sortedAll_old) (Nat.le_succ _) ⟨hlen, out, ep, vals_of_ints k1, he⟩, rfl, ?_⟩
    rw [srt_uniq k2 k3]
    exact q _ (I.hok.fresh (Nat.le_succ _))
section
variable {K : Kf} {m m1 m2 p p1 p2 : Bool} {ta tb te : TE} {Γ Γ1 Γ2 : List Sl} {α : Type} [i : Rp α] [t : IntRow α]
theorem n_srt {x : α} (h : E K m p ta Γ Γ1 x) : EN K m (tCB (rSrt K) (tCons ta tNil)) Γ Γ1 (srt (IntRow.row x)) := fun F I H0 H σ r Q q =>
  h.nowP F I H0 H σ r _ fun v H1 H1' r1 a1 b1 c1 => by
    obtain ⟨a, rfl, hs⟩ := t.ok c1
    refine ⟨a, _, rfl, hs, fun l hl => ?_⟩
    obtain ⟨r2, s1, z1, z2, z3⟩ := r1.fresh (vs := (srt (IntRow.row x)).map V.int) hl
    exact q _ _ _ _ r2 a1 (fun z => (b1 z).trans s1) z1 z2 z3 upd_same (map_ints _)
end
end FF

set_option Elab.async false
set_option linter.all false
set_option maxRecDepth 100000
set_option maxHeartbeats 2000000
namespace FF
open PySem L2 PyProof.Rows
/-! ### sorted(list of pairs of ints) -/
theorem isPair_uniq {h : Heap} {v : Value} {x y x' y' : Int} (a : Srt.IsPair h v x y) (b : Srt.IsPair h v x' y') : (x, y) = (x', y') := by
  obtain ⟨c, o, t, u, n, e, ho, hc, hd⟩ := a
  obtain ⟨c', o', t', u', n', e', ho', hc', hd'⟩ := b
  rw [e] at e'
  cases e'
  rw [ho] at ho'
  cases ho'
  rw [hd] at hd'
  injection hd' with z1 z2
  simp at z1
  obtain ⟨⟨z1, _⟩, z2, _⟩ := z1
  rw [z1, z2]
open Classical in
noncomputable def kOf (h : Heap) (v : Value) : Int × Int := if z : ∃ q : Int × Int, Srt.IsPair h v q.1 q.2 then Classical.choose z else (0, 0)
theorem kOf_eq {h : Heap} {v : Value} {q : Int × Int} (p : Srt.IsPair h v q.1 q.2) : kOf h v = q := by
  have z : ∃ q : Int × Int, Srt.IsPair h v q.1 q.2 := ⟨q, p⟩
  unfold kOf
  rw [dif_pos z]
  exact isPair_uniq (Classical.choose_spec z) p
/-- pairs in rising order, by their first, then by their second -/
def srtP (ps : List (Int × Int)) : List (Int × Int) := ps.mergeSort fun p q => !SrtO.lexB q p
theorem srtP_perm (ps : List (Int × Int)) : (srtP ps).Perm ps := List.mergeSort_perm _ _
theorem srtP_len (ps : List (Int × Int)) : (srtP ps).length = ps.length := (srtP_perm ps).length_eq
theorem srtP_up (ps : List (Int × Int)) : (srtP ps).Pairwise fun p q => SrtO.lexB q p = false := by
  have h := List.pairwise_mergeSort (le := fun p q : Int × Int => !SrtO.lexB q p) (fun a b c h1 h2 => by
    simp only [Bool.not_eq_true'] at *
    rw [SrtO.lexB_no] at *
    omega) (fun a b => by
    rw [Bool.or_eq_true, Bool.not_eq_true', Bool.not_eq_true', SrtO.lexB_no, SrtO.lexB_no]
    omega) ps
  exact h.imp fun h => by simpa using h
theorem lexB_anti {p q : Int × Int} (h1 : SrtO.lexB q p = false) (h2 : SrtO.lexB p q = false) : p = q := by
  rw [SrtO.lexB_no] at h1 h2
  apply Prod.ext <;> omega
theorem srtP_uniq {ps ps' : List (Int × Int)} (h1 : ps'.Perm ps) (h2 : ps'.Pairwise fun p q => SrtO.lexB q p = false) : ps' = srtP ps :=
  (h1.trans (srtP_perm ps).symm).eq_of_pairwise (fun a b _ _ x y => lexB_anti x y) h2 (srtP_up ps)
def isP2 (K : Kf) (H : Hp) (x : V) (q : Int × Int) : Prop := ∃ t, x = .ref t ∧ SqT K H t [.int q.1, .int q.2]
def rSrtP (K : Kf) : List V → Hp → VK → Prop := fun vs H Q => ∃ a xs ps, vs = [.ref a] ∧ SqL K H a xs ∧ Prd (isP2 K H) xs ps ∧ ∀ ys l, (∀ S : V → Int × Int → Prop, Prd S xs ps → Prd S ys (srtP ps)) → H l = none → Q (.ref l) (upd H l (.lst ys))
theorem vals_pair {i j : Int} {us : List Value} (r : Vals [V.int i, V.int j] us) : ∃ t u, us = [Value.int i t, Value.int j u] := Vals.int2 r
theorem prd_of_mem {α β : Type} {S : α → β → Prop} (f : α → β) : ∀ {xs : List α}, (∀ x ∈ xs, S x (f x)) → Prd S xs (xs.map f)
  | [], _ => .nil
  | x :: xs, h => .cons (h x List.mem_cons_self) (prd_of_mem f fun y hy => h y (List.mem_cons_of_mem _ hy))
theorem cr_srtP {X : Cx} : CallR X (.builtin "sorted") (rSrtP X.K) := fun pins s σ H vs us Q I r ⟨a, xs, ps, e, hs, hp, q⟩ => by
  subst e
  obtain ⟨its, rv, hl, hz⟩ := I.list hs
  rw [Vals.ref1 r]
  have one : ∀ {x v qq}, isP2 X.K H x qq → RelV x v → (∃ t, v = .ref t) ∧ x = backV v ∧ kOf s.heap v = qq ∧ Srt.IsPair s.heap v (kOf s.heap v).1 (kOf s.heap v).2 := fun {x v qq} h1 h2 => by
    obtain ⟨t, rfl, ht⟩ := h1
    have e : v = .ref t := h2
    subst e
    obtain ⟨its2, r2, ⟨o, ho, hc, n, hd⟩, _⟩ := I.tuple ht
    obtain ⟨t1, t2, rfl⟩ := vals_pair r2
    have z : Srt.IsPair s.heap (.ref t) qq.1 qq.2 := ⟨t, o, t1, t2, n, rfl, ho, hc, hd⟩
    exact ⟨⟨t, rfl⟩, rfl, kOf_eq z, by rw [kOf_eq z]; exact z⟩
  have all : ∀ {xs ps its}, Prd (isP2 X.K H) xs ps → Vals xs its → (∀ v ∈ its, ∃ t, v = Value.ref t) ∧ xs = its.map backV ∧ its.map (kOf s.heap) = ps ∧ ∀ v ∈ its, Srt.IsPair s.heap v (kOf s.heap v).1 (kOf s.heap v).2 := by
    intro xs ps its h
    induction h generalizing its with
    | nil => intro r; cases r; exact ⟨fun _ h => (List.not_mem_nil h).elim, rfl, rfl, fun _ h => (List.not_mem_nil h).elim⟩
    | cons h t ih =>
      intro r
      cases r with
      | cons r1 r2 =>
        obtain ⟨a1, a2, a3, a4⟩ := one h r1
        obtain ⟨b1, b2, b3, b4⟩ := ih r2
        refine ⟨fun v hv => ?_, by rw [a2, b2]; rfl, by rw [List.map_cons, a3, b3], fun v hv => ?_⟩
        · rcases List.mem_cons.mp hv with rfl | hv
          · exact a1
          · exact b1 v hv
        · rcases List.mem_cons.mp hv with rfl | hv
          · exact a4
          · exact b4 v hv
  obtain ⟨c1, c2, c3, c4⟩ := all hp rv
  refine SrtO.sorted_pairsO (k := kOf s.heap) hl.isList (by rw [← rv.length]; exact hz) c4 fun h' d out h1 h2 kp hd ⟨n, hn⟩ => ?_
  have h3 : ∀ u ∈ out, ∃ a, u = Value.ref a := fun u hu => c1 u (h2.perm.mem_iff.mp hu)
  have len : (out.map backV).length ≤ sizeLine := by rw [List.length_map, h2.perm.length_eq, ← rv.length]; exact hz
  have ek : out.map (kOf s.heap) = srtP ps := by
    refine srtP_uniq (by rw [← c3]; exact h2.perm.map _) ?_
    exact List.pairwise_map.mpr h1
  refine ⟨.ref d, upd H d (.lst (out.map backV)), I.laid (t' := s.toks) kp hd ⟨len, out, n, vals_back h3, hn⟩, rfl, q _ d (fun S hS => ?_) (I.hok.fresh hd)⟩
  rw [c2, ← c3] at hS
  have mem : ∀ v ∈ its, S (backV v) (kOf s.heap v) := by
    clear c1 c2 c3 c4 h1 h2 h3 len ek rv hp hl all hn
    induction its with
    | nil => intro v hv; cases hv
    | cons v its ih =>
      cases hS with
      | cons a b =>
        intro u hu
        rcases List.mem_cons.mp hu with rfl | hu
        · exact a
        · exact ih b u hu
  rw [← ek]
  have z := prd_of_mem (S := fun (u : Value) (x : V × (Int × Int)) => S x.1 x.2) (fun v => (backV v, kOf s.heap v)) (xs := out) fun v hv => mem v (h2.perm.mem_iff.mp hv)
  have fin : ∀ out : List Value, Prd (fun (u : Value) (x : V × (Int × Int)) => S x.1 x.2) out (out.map fun v => (backV v, kOf s.heap v)) → Prd S (out.map backV) (out.map (kOf s.heap)) := by
    intro out
    induction out with
    | nil => intro _; exact .nil
    | cons v out ih =>
      intro z
      cases z with
      | cons a b => exact .cons a (ih b)
  exact fin out z
section
variable {K : Kf} {m m1 m2 p p1 p2 : Bool} {ta tb te : TE} {Γ Γ1 Γ2 : List Sl}
theorem n_srtP {x : List (Int × Int)} (h : E K m true ta Γ Γ1 x) : EN K m (tCB (rSrtP K) (tCons ta tNil)) Γ Γ1 (srtP x) := fun F I H0 H σ r Q q =>
  h F I H0 H σ r _ fun v H1 H1' r1 a1 b1 c1 => by
    obtain ⟨a, vs, rfl, hs, hp⟩ := rl c1
    refine ⟨a, vs, x, rfl, r1.h.seq hs, prd_mono (fun u q z => ?_) hp, fun ys l hy hl => ?_⟩
    · obtain ⟨t, u1, u2, rfl, ht, e1, e2⟩ := z
      have e1' : u1 = .int _ := e1
      have e2' : u2 = .int _ := e2
      subst e1'; subst e2'
      exact ⟨t, rfl, same_t r1.h ht⟩
    obtain ⟨r2, s1, z1, z2, z3⟩ := r1.fresh (vs := ys) hl
    exact q _ _ _ _ r2 a1 (fun z => (b1 z).trans s1) z1 z2 z3 upd_same (hy _ hp)
end
end FF

set_option Elab.async false
set_option linter.all false
set_option maxRecDepth 100000
set_option maxHeartbeats 2000000
namespace FF
open PySem L2
/-! ### a list or a tuple, walked -/
def iSeq (K : Kf) (tl : TE) : TI := fun σ H R => tl σ H fun x H1 => ∃ a, x = .ref a ∧ (((∃ xs, SqL K H1 a xs) ∧ R (Itl K a) H1) ∨ ((∃ xs, SqT K H1 a xs) ∧ R (Itt K a) H1))
theorem pi_seq {X : Cx} {tg l : Expr} {tl : TE} (hl : PE X l tl) : PI X tg l (iSeq X.K tl) := ⟨fun pins s σ H R I h => thn (hl.run pins s σ H _ I h) fun v s1 ⟨x, H1, I1, r1, a, e, q1⟩ => by
  subst e; cases r1
  have old : ∀ (O : Obj) (b : Addr) (o : Obj), s1.heap.get? b = some o → (s1.heap.push O).get? b = some o := fun O b o e => Heap.get?_push_of_some O e
  have new : ∀ b ∈ [s1.heap.objs.size], b = s1.heap.objs.size := fun b hb => List.mem_singleton.mp hb
  rcases q1 with ⟨⟨xs, hq⟩, q⟩ | ⟨⟨xs, hq⟩, q⟩
  · obtain ⟨its, _, pl, _⟩ := I1.list hq
    exact wpAny_pyIter_list pl.isList ⟨s1.heap.objs.size, [s1.heap.objs.size], _, _, H1, rfl, I1.kept (t' := s1.toks) (old _), turn_list a _, ⟨_, Heap.get?_push_size _ rfl, rfl, rfl⟩, fun b hb => by rw [new b hb]; exact I1.fpOk (Nat.le_refl _) (I1.hok.fresh (Nat.le_refl _)), q⟩
  · obtain ⟨its, _, pt, _⟩ := I1.tuple hq
    exact wpAny_pyIter_tuple (show s1.heap.IsTuple a its.toArray from pt) ⟨s1.heap.objs.size, [s1.heap.objs.size], _, _, H1, rfl, I1.kept (t' := s1.toks) (old _), turn_tuple a _, ⟨_, Heap.get?_push_size _ rfl, rfl, rfl⟩, fun b hb => by rw [new b hb]; exact I1.fpOk (Nat.le_refl _) (I1.hok.fresh (Nat.le_refl _)), q⟩⟩
section
variable {K : Kf} {m p : Bool} {Γ Γ1 : List Sl} {tl : TE}
theorem itl_go {α : Type} {R : V → α → Prop} {a : Addr} {vs : List V} {xs : List α} {H : Hp} (hs : SqL K H a vs) (hp : Prd R vs xs) {n : Nat} (hn : n ≤ xs.length) : (n = xs.length → (Itl K a).stop n H) ∧ (∀ x, xs[n]? = some x → (Itl K a).go n H ∧ ∀ v H2, (Itl K a).yld n H v H2 → H2 = H ∧ R v x) := by
  have el := prd_len hp
  refine ⟨fun e => ⟨vs, hs, by omega⟩, fun x hx => ?_⟩
  obtain ⟨u, e1, e2⟩ := prd_get hp hx
  refine ⟨⟨vs, u, hs, e1⟩, fun v H3 y => ?_⟩
  have e5 := y.2 vs hs
  rw [e1] at e5
  cases e5
  exact ⟨y.1, e2⟩
theorem itt_go {α : Type} {R : V → α → Prop} {a : Addr} {vs : List V} {xs : List α} {H : Hp} (hs : SqT K H a vs) (hp : Prd R vs xs) {n : Nat} (hn : n ≤ xs.length) : (n = xs.length → (Itt K a).stop n H) ∧ (∀ x, xs[n]? = some x → (Itt K a).go n H ∧ ∀ v H2, (Itt K a).yld n H v H2 → H2 = H ∧ R v x) := by
  have el := prd_len hp
  refine ⟨fun e => ⟨vs, hs, by omega⟩, fun x hx => ?_⟩
  obtain ⟨u, e1, e2⟩ := prd_get hp hx
  refine ⟨⟨vs, u, hs, e1⟩, fun v H3 y => ?_⟩
  have e5 := y.2 vs hs
  rw [e1] at e5
  cases e5
  exact ⟨y.1, e2⟩
theorem yl_of {α : Type} {i : Rp α} {o : Bool} {K : Kf} {Fb H1 H1' : Hp} {n : Nat} {xs : List α} {J : It} (h : (n = xs.length → J.stop n H1') ∧ (∀ x, xs[n]? = some x → J.go n H1' ∧ ∀ v H2, J.yld n H1' v H2 → H2 = H1' ∧ i.rep K (if o = true then H1 else Fb) v x)) : (n = xs.length → J.stop n H1') ∧ (∀ x, xs[n]? = some x → J.go n H1' ∧ ∀ v H2, J.yld n H1' v H2 → Yl K o Fb H1 H1' i x v H2) :=
  ⟨h.1, fun x hx => ⟨(h.2 x hx).1, fun v H2 y => yl_in ((h.2 x hx).2 v H2 y)⟩⟩
/-- for x in xs, xs lent: its items are lent -/
theorem w_listB {α : Type} [i : Rp α] {xs : List α} {n : Nat} (hn : Γ[n]? = some (.bor inferInstance xs)) : Wlk K false false (iList K (tVar n)) Γ Γ i xs := fun F I H0 H σ r R q => by
  obtain ⟨ov, e1, v, e2, c1⟩ := r.ok n _ hn
  subst e2
  obtain ⟨a, vs, rfl, hs, hp⟩ := rl c1
  exact ⟨.ref a, e1, a, rfl, ⟨vs, (F.sub.trans r.f).seq hs⟩, q (Itl K a) H0 H r (Same.refl _) (fun _ => Same.refl _) fun k H2 H2' s2 s3 s4 hk => yl_of (itl_go ((F.sub.trans s4).seq hs) hp hk)⟩
theorem w_seqB {α : Type} [i : Rp α] {xs : Sq α} {n : Nat} (hn : Γ[n]? = some (.bor inferInstance xs)) : Wlk K false false (iSeq K (tVar n)) Γ Γ i xs.l := fun F I H0 H σ r R q => by
  obtain ⟨ov, e1, v, e2, c1⟩ := r.ok n _ hn
  subst e2
  obtain ⟨a, vs, rfl, hs, hp⟩ := c1
  refine ⟨.ref a, e1, a, rfl, ?_⟩
  rcases hs with hs | hs
  · exact .inl ⟨⟨vs, (F.sub.trans r.f).seq hs⟩, q (Itl K a) H0 H r (Same.refl _) (fun _ => Same.refl _) fun k H2 H2' s2 s3 s4 hk => yl_of (itl_go ((F.sub.trans s4).seq hs) hp hk)⟩
  · exact .inr ⟨⟨vs, same_t (F.sub.trans r.f) hs⟩, q (Itt K a) H0 H r (Same.refl _) (fun _ => Same.refl _) fun k H2 H2' s2 s3 s4 hk => yl_of (itt_go (same_t (F.sub.trans s4) hs) hp hk)⟩
theorem w_seq {α : Type} [i : Rp α] {xs : Sq α} (h : E K m true tl Γ Γ1 xs) : Wlk K true m (iSeq K tl) Γ Γ1 i xs.l := fun F I H0 H σ r R q =>
  h F I H0 H σ r _ fun v H1 H1' r1 a1 b1 c1 => by
    obtain ⟨a, vs, rfl, hs, hp⟩ := c1
    refine ⟨a, rfl, ?_⟩
    rcases hs with hs | hs
    · exact .inl ⟨⟨vs, r1.h.seq hs⟩, q (Itl K a) H1 H1' r1 a1 b1 fun k H2 H2' s2 s3 s4 hk => yl_of (itl_go ((s2.trans s3).seq hs) (prd_mono (fun _ _ z => i.mono s2 z) hp) hk)⟩
    · exact .inr ⟨⟨vs, same_t r1.h hs⟩, q (Itt K a) H1 H1' r1 a1 b1 fun k H2 H2' s2 s3 s4 hk => yl_of (itt_go (same_t (s2.trans s3) hs) (prd_mono (fun _ _ z => i.mono s2 z) hp) hk)⟩
/-! targets of a for over lent things -/
theorem tg_nameB {α : Type} [i : Rp α] {x : α} {n : Nat} (hn : n < Γ.length := by exact Nat.le_of_ble_eq_true rfl) : Tg K false (gName n) i x Γ (Γ.set n (bw x)) := fun F I H0 H σ v r h Q q => q _ (r.set (s := bw x) ⟨v, rfl, h⟩ (fun _ z => z.elim) hn)
theorem tg_nameS {α : Type} [i : Rp α] [Sc α] {x : α} {n : Nat} (hn : n < Γ.length := by exact Nat.le_of_ble_eq_true rfl) : Tg K false (gName n) i x Γ (Γ.set n (pr x)) := fun F I H0 H σ v r h Q q => q _ (pr_set r (Sc.any h) hn)
theorem tg_twoS {α β : Type} [i : Rp α] [j : Rp β] [Sc α] [Sc β] {x : α × β} {n k : Nat} (hn : n < Γ.length := by exact Nat.le_of_ble_eq_true rfl) (hk : k < Γ.length := by exact Nat.le_of_ble_eq_true rfl) : Tg K false (gTup K 2 (gCons (gName n) (gCons (gName k) gNil))) (inferInstance : Rp (α × β)) x Γ ((Γ.set n (pr x.1)).set k (pr x.2)) := fun F I H0 H σ v r h Q q => by
  obtain ⟨a, u1, u2, rfl, hs, e1, e2⟩ := h
  exact ⟨a, _, rfl, same_t (F.sub.trans r.f) hs, rfl, u1, _, rfl, u2, _, rfl, rfl, q _ (pr_set (pr_set r (Sc.any e1) hn) (Sc.any e2) (by simpa using hk))⟩
end
end FF

set_option Elab.async false
set_option linter.all false
set_option maxRecDepth 100000
set_option maxHeartbeats 2000000
namespace FF
open PySem L2
/-! ### methods -/
section
variable {K : Kf} {m m1 m2 p : Bool} {ta : TE} {t : TA} {Γ Γ1 Γ2 : List Sl} {ι β : Type} [ib : Rp β] {args : ι → List Sl} {pre : ι → Prop} {res : ι → β} {resN : ι → List β} {out : ι → List Sl} {as : List Ar}
theorem meth_core {α : Type} {C : Addr} {fs : α → List (Str × Pv)} {x : α} {mn : Str} {po : Rs ι} {Q : VK} {F : Fm} {I H0 H : Hp} {σ : St} (d : ι) (h : @E K m1 true ta Γ Γ1 α (repOb C fs) x) (hl : (fs x).lookup mn = none) (ha : A K m2 t Γ1 Γ2 as) (hm : Mt (.per (repOb C fs) x :: as) (args d)) (hp : pre d)
    (r : SR K F I H0 H σ Γ) (q : ∀ v H0' H' H1 σ', SR K F I H0' H' σ Γ2 → Same H0 H0' → ((m1 || m2) = false → Same H H') → Same H1 H' → SR K F I H0' H1 σ Γ2 ∨ True → (∀ a, H1 a = none → F.k a = none) → SR K F I H0' H' σ Γ2 → (∀ a, H1 a = none → Fre H' σ Γ2 a) → po ⟨H1, H1, Same.refl _⟩ H0' H' σ' v d → Q v H') : tMeth C mn (spG K args pre out po) [] E0 ta t σ H Q :=
  h F I H0 H σ r _ fun v H1 H1' r1 a1 b1 c1 => by
    obtain ⟨a, dx, vs, rfl, h1, h2, h3⟩ := c1
    refine ⟨a, dx, vs, rfl, r1.h _ _ h1, fs_none h3 hl, ha F I H1 H1' σ r1 _ fun us H2 H2' r2 a2 b2 c2 => ?_⟩
    rw [List.append_nil]
    have c0 : arOk K H2 H2' σ (.ref a) (.per (repOb C fs) x) := (repOb C fs).mono a2 ⟨a, dx, vs, rfl, h1, h2, h3⟩
    exact call_core (vs := .ref a :: us) r2 (.cons c0 c2) d hp hm fun v H3 H3' σ' r3 s0 s1 _ rv => q v H3 H3' H2' σ' r3 ((a1.trans a2).trans s0) (fun z => (same_mm b1 b2 z).trans s1) s1 (.inr trivial) (fun b hb => Same.free r2.f hb) r3 (fun b hb => fre_same r2 s1 (own_free r2 hb)) rv
/-- o.m(..) -/
theorem e_meth {α : Type} {C : Addr} {fs : α → List (Str × Pv)} {x : α} {mn : Str} (d : ι) (h : @E K m1 true ta Γ Γ1 α (repOb C fs) x) (hl : (fs x).lookup mn = none) (ha : A K m2 t Γ1 Γ2 as) (hm : Mt (.per (repOb C fs) x :: as) (args d)) (hp : pre d) :
    E K (m1 || m2) true (tMeth C mn (spF K args pre res out) [] E0 ta t) Γ Γ2 (res d) := fun F I H0 H σ r Q q =>
  meth_core d h hl ha hm hp r fun v H0' H' H1 σ' r2 s0 s1 _ _ _ _ _ rv => q v H0' H' r2 s0 s1 rv
theorem n_meth {α : Type} {C : Addr} {fs : α → List (Str × Pv)} {x : α} {mn : Str} (d : ι) (h : @E K m1 true ta Γ Γ1 α (repOb C fs) x) (hl : (fs x).lookup mn = none) (ha : A K m2 t Γ1 Γ2 as) (hm : Mt (.per (repOb C fs) x :: as) (args d)) (hp : pre d) :
    EN K (m1 || m2) (tMeth C mn (spN K args pre resN out) [] E0 ta t) Γ Γ2 (resN d) := fun F I H0 H σ r Q q =>
  meth_core d h hl ha hm hp r fun v H0' H' H1 σ' r2 s0 s1 _ _ hk _ ho rv => by
    obtain ⟨a, vs, rfl, z1, z2, z3, z4, z5⟩ := rv
    exact q a vs H0' H' r2 s0 s1 (hk a z1) z2 (ho a z1) z4 z5
end
/-! ### in, by the kind of the row -/
section
variable {K : Kf} {m1 m2 p1 p2 : Bool} {ta tb : TE} {Γ Γ1 Γ2 : List Sl}
instance : IntRow (Sq Int) := ⟨fun x => x.l, fun ⟨a, vs, e, hs, hp⟩ => by
  rw [ints_map hp] at hs
  exact ⟨a, e, hs⟩⟩
theorem e_inL {x : Int} {y : List Int} (ha : E K m1 p1 ta Γ Γ1 x) (hb : E K m2 p2 tb Γ1 Γ2 y) : E K (m1 || m2) true (tOp (rIn K false) ta tb) Γ Γ2 (decide (x ∈ y)) := e_in ha hb
theorem e_inT {x : Int} {y : Tu Int} (ha : E K m1 p1 ta Γ Γ1 x) (hb : E K m2 p2 tb Γ1 Γ2 y) : E K (m1 || m2) true (tOp (rIn K false) ta tb) Γ Γ2 (decide (x ∈ y.l)) := e_in ha hb
theorem e_inS {x : Int} {y : Sq Int} (ha : E K m1 p1 ta Γ Γ1 x) (hb : E K m2 p2 tb Γ1 Γ2 y) : E K (m1 || m2) true (tOp (rIn K false) ta tb) Γ Γ2 (decide (x ∈ y.l)) := e_in ha hb
theorem e_inP {x : Int} {y : Int × Int} (ha : E K m1 p1 ta Γ Γ1 x) (hb : E K m2 p2 tb Γ1 Γ2 y) : E K (m1 || m2) true (tOp (rIn K false) ta tb) Γ Γ2 (decide (x ∈ [y.1, y.2])) := e_in ha hb
theorem e_ninL {x : Int} {y : List Int} (ha : E K m1 p1 ta Γ Γ1 x) (hb : E K m2 p2 tb Γ1 Γ2 y) : E K (m1 || m2) true (tOp (rIn K true) ta tb) Γ Γ2 (!decide (x ∈ y)) := e_nin ha hb
theorem e_ninT {x : Int} {y : Tu Int} (ha : E K m1 p1 ta Γ Γ1 x) (hb : E K m2 p2 tb Γ1 Γ2 y) : E K (m1 || m2) true (tOp (rIn K true) ta tb) Γ Γ2 (!decide (x ∈ y.l)) := e_nin ha hb
theorem e_ninS {x : Int} {y : Sq Int} (ha : E K m1 p1 ta Γ Γ1 x) (hb : E K m2 p2 tb Γ1 Γ2 y) : E K (m1 || m2) true (tOp (rIn K true) ta tb) Γ Γ2 (!decide (x ∈ y.l)) := e_nin ha hb
theorem e_ninP {x : Int} {y : Int × Int} (ha : E K m1 p1 ta Γ Γ1 x) (hb : E K m2 p2 tb Γ1 Γ2 y) : E K (m1 || m2) true (tOp (rIn K true) ta tb) Γ Γ2 (!decide (x ∈ [y.1, y.2])) := e_nin ha hb
end
section
variable {K : Kf} {m p : Bool} {ta : TE} {Γ Γ1 : List Sl}
theorem n_srtL {x : List Int} (h : E K m p ta Γ Γ1 x) : EN K m (tCB (rSrt K) (tCons ta tNil)) Γ Γ1 (srt x) := n_srt h
theorem e_minL {x : List Int} (h : E K m p ta Γ Γ1 x) (hn : x ≠ []) : E K m true (tCB (rMin1 K) (tCons ta tNil)) Γ Γ1 (mn x) := e_min h hn
theorem e_maxL {x : List Int} (h : E K m p ta Γ Γ1 x) (hn : x ≠ []) : E K m true (tCB (rMax1 K) (tCons ta tNil)) Γ Γ1 (mx x) := e_max h hn
theorem n_srtT {x : Tu Int} (h : E K m p ta Γ Γ1 x) : EN K m (tCB (rSrt K) (tCons ta tNil)) Γ Γ1 (srt (x.l)) := n_srt h
theorem e_minT {x : Tu Int} (h : E K m p ta Γ Γ1 x) (hn : x.l ≠ []) : E K m true (tCB (rMin1 K) (tCons ta tNil)) Γ Γ1 (mn (x.l)) := e_min h hn
theorem e_maxT {x : Tu Int} (h : E K m p ta Γ Γ1 x) (hn : x.l ≠ []) : E K m true (tCB (rMax1 K) (tCons ta tNil)) Γ Γ1 (mx (x.l)) := e_max h hn
theorem n_srtS {x : Sq Int} (h : E K m p ta Γ Γ1 x) : EN K m (tCB (rSrt K) (tCons ta tNil)) Γ Γ1 (srt (x.l)) := n_srt h
theorem e_minS {x : Sq Int} (h : E K m p ta Γ Γ1 x) (hn : x.l ≠ []) : E K m true (tCB (rMin1 K) (tCons ta tNil)) Γ Γ1 (mn (x.l)) := e_min h hn
theorem e_maxS {x : Sq Int} (h : E K m p ta Γ Γ1 x) (hn : x.l ≠ []) : E K m true (tCB (rMax1 K) (tCons ta tNil)) Γ Γ1 (mx (x.l)) := e_max h hn
theorem e_minP {x : Int × Int} (h : E K m p ta Γ Γ1 x) (hn : [x.1, x.2] ≠ []) : E K m true (tCB (rMin1 K) (tCons ta tNil)) Γ Γ1 (mn ([x.1, x.2])) := e_min h hn
theorem e_maxP {x : Int × Int} (h : E K m p ta Γ Γ1 x) (hn : [x.1, x.2] ≠ []) : E K m true (tCB (rMax1 K) (tCons ta tNil)) Γ Γ1 (mx ([x.1, x.2])) := e_max h hn
end
end FF

set_option Elab.async false
set_option linter.all false
set_option maxRecDepth 100000
set_option maxHeartbeats 2000000
namespace FF
open PySem L2 PySem.Calls
/-! ### the things of a list, each once -/
section
variable {α : Type u} [DecidableEq α]
def once (acc : List α) (x : α) : List α := if x ∈ acc then acc else acc ++ [x]
def dis (xs : List α) : List α := xs.foldl once []
theorem dis_snoc (xs : List α) (x : α) : dis (xs ++ [x]) = once (dis xs) x := by unfold dis; rw [List.foldl_append]; rfl
theorem dis_ind {P : List α → List α → Prop} (h0 : P [] []) (h1 : ∀ xs x d, P xs d → P (xs ++ [x]) (once d x)) (xs : List α) : P xs (dis xs) := by
  have key : ∀ (ys xs : List α), P xs (dis xs) → P (xs ++ ys) (dis (xs ++ ys)) := by
    intro ys
    induction ys with
    | nil => intro xs h; simpa using h
    | cons y ys ih =>
      intro xs h
      have h2 := ih (xs ++ [y]) (by rw [dis_snoc]; exact h1 _ _ _ h)
      simpa using h2
  exact key xs [] h0
theorem dis_nodup (xs : List α) : (dis xs).Nodup := dis_ind (P := fun _ d => d.Nodup) List.nodup_nil (fun _ x d h => by
  unfold once
  split
  · exact h
  · rename_i hx
    refine List.nodup_append.mpr ⟨h, by simp, fun a ha b hb e => ?_⟩
    rw [List.mem_singleton.mp hb] at e
    exact hx (e ▸ ha)) xs
theorem mem_dis (xs : List α) (y : α) : y ∈ dis xs ↔ y ∈ xs := dis_ind (P := fun xs d => y ∈ d ↔ y ∈ xs) Iff.rfl (fun xs x d h => by
  unfold once
  split
  · rename_i hx
    rw [h, List.mem_append, List.mem_singleton]
    constructor
    · exact .inl
    · rintro (z | z)
      · exact z
      · subst z; exact h.mp hx
  · rw [List.mem_append, h, List.mem_append]) xs
theorem dis_of {xs l : List α} (h1 : l.Nodup) (h2 : ∀ y, y ∈ l ↔ y ∈ xs) : l.length = (dis xs).length := ((List.perm_ext_iff_of_nodup h1 (dis_nodup xs)).mpr fun y => (h2 y).trans (mem_dis xs y).symm).length_eq
theorem dis_full {xs : List α} : (dis xs).length = xs.length ↔ xs.Nodup := by
  constructor
  · intro h
    have key : ∀ (ys : List α) (acc : List α), (ys.foldl once acc).length ≤ acc.length + ys.length ∧ ((ys.foldl once acc).length = acc.length + ys.length → acc.Nodup → (acc ++ ys).Nodup) := by
      intro ys
      induction ys with
      | nil => intro acc; exact ⟨Nat.le_refl _, fun _ h => by simpa using h⟩
      | cons y ys ih =>
        intro acc
        obtain ⟨i1, i2⟩ := ih (once acc y)
        have l : (once acc y).length ≤ acc.length + 1 := by unfold once; split <;> simp
        refine ⟨by simp only [List.foldl_cons, List.length_cons]; omega, fun e hn => ?_⟩
        simp only [List.foldl_cons, List.length_cons] at e
        have l2 : (once acc y).length = acc.length + 1 := by omega
        have hy : y ∉ acc := fun hy => by unfold once at l2; rw [if_pos hy] at l2; omega
        have e2 : once acc y = acc ++ [y] := by unfold once; rw [if_neg hy]
        have h3 := i2 (by omega) (by
          rw [e2]
          refine List.nodup_append.mpr ⟨hn, by simp, fun a ha b hb e => ?_⟩
          rw [List.mem_singleton.mp hb] at e
          exact hy (e ▸ ha))
        rw [e2] at h3
        simpa using h3
    have := (key xs []).2 (by simpa [dis] using h) List.nodup_nil
    simpa using this
  · intro h
    exact (dis_of h fun _ => Iff.rfl).symm
end
def tLenQ (K : Kf) (ta : TE) : TE := fun σ H Q => ta σ H fun x H1 => ∃ (l : Addr) (ns : List Int), x = .ref l ∧ (SqL K H1 l (ns.map V.int) ∨ SqT K H1 l (ns.map V.int)) ∧ ns.length ≤ 4000 ∧ Q (.int ((dis ns).length : Nat)) H1
theorem met_dis (ns : List Int) : PyProof.Rows.firstMet (fun i => ns.getD i 0) ns.length = dis ns := by
  have e : (List.range ns.length).map (fun i => ns.getD i 0) = ns := by
    apply List.ext_getElem
    · simp
    · intro i h1 h2
      simp [List.getElem?_eq_getElem h2]
  unfold PyProof.Rows.firstMet dis
  rw [e]
  congr 1
  funext acc x
  unfold PyProof.Rows.step_dedup once
  by_cases h : x ∈ acc
  · rw [if_pos h, if_pos (show (acc.any fun z => z == x) = true from List.any_eq_true.mpr ⟨x, h, beq_self_eq_true x⟩)]
  · rw [if_neg h, if_neg fun (z : (acc.any fun z => z == x) = true) => by
      obtain ⟨y, hy, ey⟩ := List.any_eq_true.mp z
      exact h ((beq_iff_eq.mp ey) ▸ hy)]
section
variable {X : Cx} {a : Expr} {ta : TE} {p p2 q pos : Pos}
theorem pe_lenSetI (hg : Gl X "len") (hm : X.mg "len" = none) (hg2 : Gl X "set") (hm2 : X.mg "set" = none) (ha : PE X a ta) (hc : X.calm = true) (hu : X.A.units + 64 < cLine)
    (na : starEach [a] X.env = (false, eval a X.env) :: starEach [] X.env := by rfl) : PE X (.Call (.Name "len" p) [.Call (.Name "set" p2) [a] [] q] [] pos) (tLenQ X.K ta) := by
  refine ⟨fun pins s σ H Q I h => PyProof.Rows.Call_ (ld_blt I hg hm boot_len (PyProof.Rows.callWith_builtin1 (PyProof.Rows.args_cons (PyProof.Rows.Call_ (ld_blt I hg2 hm2 PyProof.Rows.boot_set (PyProof.Rows.callWith_type1 (PyProof.Rows.args_cons (thn (ha.run pins s σ H _ I h) fun v s1 ⟨x, H1, I1, r1, q1⟩ => PyProof.Rows.args_nil ?_) na) na rfl))) rfl) rfl rfl))⟩
  obtain ⟨l, ns, rfl, hq, hl, q1⟩ := q1
  cases r1
  have hs : ns.length + 1 < scanBound := by unfold scanBound; omega
  rcases hq with hq | hq
  · obtain ⟨its, r, pl, _⟩ := I1.list hq
    have hz : its.toArray.size = ns.length := by rw [List.size_toArray, ← r.length, List.length_map]
    refine call_set_list (I1.ok.hd hc) pl.isList (by simpa using RZ.intsAre_vals r) (by rw [hz]; exact hs) fun h' tk hS hk => PyProof.Rows.args_nil ?_
    rw [hz, met_dis] at hS
    obtain ⟨o, es, ep, t, ho, hex, hd, _, _, hb, hf, hn⟩ := hS
    have I2 : Inv X pins σ H1 { s1 with heap := h', toks := tk } := I1.kept fun b o e => hk b o (Heap.lt_size e) e
    exact call_len_set ho hex hd hf (by unfold scanBound at hb; omega) ⟨.int ((dis ns).length : Nat), H1, I2.tok _, ⟨_, by rw [hn]⟩, q1⟩
  · obtain ⟨its, r, pt, _⟩ := I1.tuple hq
    refine call_set_tupI ns (I1.ok.hd hc) pt (by simpa using RZ.intsAre_vals r) hs fun h' tk c hS hc hk => PyProof.Rows.args_nil ?_
    obtain ⟨o, es, ep, t, ho, hex, hd, hg, nd, mem, hb, hf, hn, _⟩ := hS
    have I2 : Inv X pins σ H1 { s1 with heap := h', toks := tk } := I1.kept hk
    have e : es.size = (dis ns).length := by
      have z := dis_of (xs := ns) nd fun y => (mem y).symm.trans decide_eq_true_iff
      rw [List.length_map, Array.length_toList] at z
      exact z
    exact call_len_set ho hex hd hf (by unfold scanBound at hb; omega) ⟨.int ((dis ns).length : Nat), H1, I2.tok _, ⟨_, by rw [e]⟩, q1⟩
end
section
variable {K : Kf} {m p : Bool} {ta : TE} {Γ Γ1 : List Sl}
theorem e_lenSetI {α : Type} [i : Rp α] [t : IntRow α] {x : α} (h : E K m p ta Γ Γ1 x) (hz : (IntRow.row x).length ≤ 4000) : E K m true (tLenQ K ta) Γ Γ1 (((dis (IntRow.row x)).length : Nat) : Int) := fun F I H0 H σ r Q q =>
  h.nowP F I H0 H σ r _ fun v H1 H1' r1 a1 b1 c1 => by
    obtain ⟨a, rfl, hs⟩ := t.ok c1
    exact ⟨a, _, rfl, hs, hz, q _ H1 H1' r1 a1 b1 rfl⟩
theorem e_lenSetIL {x : List Int} (h : E K m p ta Γ Γ1 x) (hz : x.length ≤ 4000) : E K m true (tLenQ K ta) Γ Γ1 (((dis x).length : Nat) : Int) := e_lenSetI h hz
theorem e_lenSetIT {x : Tu Int} (h : E K m p ta Γ Γ1 x) (hz : x.l.length ≤ 4000) : E K m true (tLenQ K ta) Γ Γ1 (((dis x.l).length : Nat) : Int) := e_lenSetI h hz
theorem e_lenSetIS {x : Sq Int} (h : E K m p ta Γ Γ1 x) (hz : x.l.length ≤ 4000) : E K m true (tLenQ K ta) Γ Γ1 (((dis x.l).length : Nat) : Int) := e_lenSetI h hz
end
theorem gs_len {α : Type} (xs : List α) (lo hi : Option Int) : (gs xs lo hi).length ≤ xs.length := by
  unfold gs
  simp only [List.length_take, List.length_drop]
  omega
section
variable {K : Kf} {m : Bool} {ta : TA} {te : TE} {Γ Γ1 Γ2 : List Sl} {ι β : Type} [ib : Rp β] {args : ι → List Sl} {pre : ι → Prop} {resN : ι → List β} {out : ι → List Sl} {as : List Ar}
/-- f([..] or g(..), a, ..): a list that is made for the call and changed by it; a new list comes back -/
theorem n_callN {m2 : Bool} {α : Type} {i : Rp α} {xs ys : List α} {z : List β} (d : Addr → ι) (h : EN K m te Γ Γ1 xs) (ha : A K m2 ta Γ1 Γ2 as) (ss : List Sl) (hs : ∀ p, args (d p) = .own i (some p) xs :: ss) (hm : MtP as ss) (hp : ∀ p, pre (d p)) (ho : ∀ p, (out (d p))[0]? = some (.own i (some p) ys)) (hz : ∀ p, resN (d p) = z) :
    EN K true (tCall (spN K args pre resN out) [] E0 (tCons te ta)) Γ Γ2 z := fun F I H0 H σ r Q q =>
  h F I H0 H σ r _ fun b us H1 H1' r1 a1 b1 y1 y2 y3 y4 y5 => ha (F.plus b (.lst us) y1) I H1 H1' σ (r1.guard y1 y2 y3 y4) _ fun vs H2 H2' r2 a2 b2 c2 => by
    show spN K args pre resN out ((.ref b :: vs) ++ []) H2' Q E0
    rw [List.append_nil]
    obtain ⟨r3, d1, d2, d3⟩ := r2.unguard (Same.free r1.i y2)
    have r4 := r3.without y1 d1 d3 d2
    have sub0 : Same H2 (but b H2') := r4.h
    have zz := mtp_sl (F := Fm.but b H2 H2' sub0) (H := H2') (σ := σ) (Same.refl _) hm c2
    refine ⟨d b, Fm.but b H2 H2' sub0, H2, by rw [hs]; simp [prd_len zz.1], hp b, ?_, fun v H0' H' σ' s1 r5 rv => ?_⟩
    · rw [hs]
      refine sr_of (vs := .ref b :: vs) (fun c o e => (of_but e).2) (Same.refl _) (fun _ _ _ n => n) r3.h (.cons ⟨b, us, rfl, fun q z => Option.some.inj z, but_self, d1, d2, prd_mono (fun _ _ z => i.mono a2 z) y5⟩ zz.1) fun l l' ne h1 h2 => ?_
      cases l with
      | zero =>
        cases l' with
        | zero => exact ne rfl
        | succ l' => exact zz.2 l' h2
      | succ l => exact zz.2 l h1
    · obtain ⟨c, ws, rfl, z1, z2, z3, z4, z5⟩ := rv
      rw [hz] at z5
      obtain ⟨ov, w1, c', ws', w2, w3, w4, w5, w6, w7⟩ := r5.ok 0 _ (ho b)
      have ec : c' = b := w3 b rfl
      subst ec
      have nc : c ≠ c' := fun z => z3 0 ⟨_, _, ho c', w1, by show ov = some (V.ref c); rw [w2, z]⟩
      have hc : H2' c = none := by
        have z1' : but c' H2' c = none := z1
        rwa [but_ne nc] at z1'
      exact q c ws H0' H' (r4.step s1 r5.f r5.h (fun a o e n => r5.g a o e n)) ((a1.trans a2).trans s1) (fun zm => nomatch zm) (Same.free r3.f hc) z2 (fre_same r4 r5.f (fre_of r4 (show but c' H2' c = none from z1))) z4 z5
end
end FF

set_option Elab.async false
set_option linter.all false
set_option maxRecDepth 100000
set_option maxHeartbeats 2000000
namespace FF
open PySem L2
/-! ### data of any depth: ==, in -/
class Dt (α : Type) [i : Rp α] where
  d : α → PyData
  ok : α → Prop
  n : Nat
  dp : ∀ {K : Kf} {H : Hp} {v : V} {x : α}, i.rep K H v x → Dp K H v (d x)
  lay : ∀ {x : α}, ok x → (d x).canLay0 = true
  dep : ∀ {x : α}, (d x).depth ≤ n
  eq : ∀ {x y : α}, PyData.eqv (d x) (d y) = true ↔ x = y
instance : Dt Int := ⟨.int, fun _ => True, 0, fun h => by cases (show _ = V.int _ from h); exact .int _, fun _ => rfl, Nat.le_refl _, by intro x y; simp [PyData.eqv]⟩
instance : Dt Bool := ⟨.bool, fun _ => True, 0, fun h => by cases (show _ = V.bl _ from h); exact .bl _, fun _ => rfl, Nat.le_refl _, by intro x y; simp [PyData.eqv]⟩
instance : Dt Unit := ⟨fun _ => .none, fun _ => True, 0, fun h => by cases (show _ = V.non from h); exact .non, fun _ => rfl, Nat.le_refl _, by intro x y; simp [PyData.eqv]⟩
instance : Dt PySem.Str := ⟨.str, fun x => PyData.strOk x = true, 0, fun h => by cases (show _ = V.str _ from h); exact .str _, fun h => h, Nat.le_refl _, by intro x y; simp [PyData.eqv]⟩
/-- data that are never None -/
class DtN (α : Type) [Rp α] [Dt α] : Prop where
  nn : ∀ {x : α}, PyData.eqv (Dt.d x) .none = false ∧ PyData.eqv .none (Dt.d x) = false
instance : DtN Int := ⟨⟨rfl, rfl⟩⟩
instance : DtN Bool := ⟨⟨rfl, rfl⟩⟩
instance : DtN PySem.Str := ⟨⟨rfl, rfl⟩⟩
section
variable {α β γ δ ε : Type} [i : Rp α] [j : Rp β] [k : Rp γ] [l : Rp δ] [m : Rp ε] [a : Dt α] [b : Dt β] [c : Dt γ] [e : Dt δ] [g : Dt ε]
instance [DtN α] : Dt (Option α) where
  d x := match x with | none => .none | some y => a.d y
  ok x := match x with | none => True | some y => a.ok y
  n := a.n
  dp := fun {K H v x} h => by
    cases x with
    | none => cases (show v = V.non from h); exact .non
    | some y => exact a.dp h.2
  lay := fun {x} h => by
    cases x with
    | none => rfl
    | some y => exact a.lay h
  dep := fun {x} => by
    cases x with
    | none => exact Nat.zero_le _
    | some y => exact a.dep
  eq := fun {x y} => by
    cases x with
    | none =>
      cases y with
      | none => simp [PyData.eqv]
      | some y => simp [(DtN.nn (x := y)).2]
    | some x =>
      cases y with
      | none => simp [(DtN.nn (x := x)).1]
      | some y => simp [a.eq]
theorem prd_dp {K : Kf} {H : Hp} : ∀ {vs : List V} {xs : List α}, Prd (i.rep K H) vs xs → DpAll K H vs (xs.map a.d)
  | _, _, .nil => .nil
  | _, _, .cons r t => .cons (a.dp r) (prd_dp t)
theorem all_lay : ∀ {xs : List α}, (∀ x ∈ xs, a.ok x) → PyData.canLayAll0 (xs.map a.d) = true
  | [], _ => rfl
  | x :: xs, h => by
    show (PyData.canLay0 (a.d x) && PyData.canLayAll0 (xs.map a.d)) = true
    rw [a.lay (h x List.mem_cons_self), all_lay fun y hy => h y (List.mem_cons_of_mem _ hy)]
    rfl
theorem all_dep : ∀ {xs : List α}, PyData.depthAll (xs.map a.d) ≤ a.n
  | [] => Nat.zero_le _
  | x :: xs => by
    show max (PyData.depth (a.d x)) (PyData.depthAll (xs.map a.d)) ≤ a.n
    exact Nat.max_le.mpr ⟨a.dep, all_dep⟩
theorem all_eq : ∀ {xs ys : List α}, PyData.eqvAll (xs.map a.d) (ys.map a.d) = true ↔ xs = ys
  | [], [] => by simp [PyData.eqvAll]
  | [], y :: ys => by simp [PyData.eqvAll]
  | x :: xs, [] => by simp [PyData.eqvAll]
  | x :: xs, y :: ys => by
    have h := all_eq (xs := xs) (ys := ys)
    simp only [List.map_cons, PyData.eqvAll, Bool.and_eq_true, List.cons.injEq, a.eq, h]
instance : Dt (List α) where
  d xs := .list (xs.map a.d)
  ok xs := ∀ x ∈ xs, a.ok x
  n := a.n + 1
  dp := fun {K H v x} h => by
    obtain ⟨p, vs, rfl, hs, hp⟩ := rl h
    exact .lst hs (prd_dp hp)
  lay := fun h => all_lay h
  dep := Nat.succ_le_succ all_dep
  eq := fun {x y} => by
    show PyData.eqvAll _ _ = true ↔ _
    exact all_eq
instance : DtN (List α) := ⟨⟨rfl, rfl⟩⟩
instance : Dt (Tu α) where
  d xs := .tuple (xs.l.map a.d)
  ok xs := ∀ x ∈ xs.l, a.ok x
  n := a.n + 1
  dp := fun {K H v x} h => by
    obtain ⟨p, vs, rfl, hs, hp⟩ := h
    exact .tup hs (prd_dp hp)
  lay := fun h => all_lay h
  dep := Nat.succ_le_succ all_dep
  eq := fun {x y} => by
    cases x; cases y
    show PyData.eqvAll _ _ = true ↔ _
    rw [all_eq]
    simp
instance : DtN (Tu α) := ⟨⟨rfl, rfl⟩⟩
instance : Dt (α × β) where
  d x := .tuple [a.d x.1, b.d x.2]
  ok x := a.ok x.1 ∧ b.ok x.2
  n := max a.n b.n + 1
  dp := fun {K H v x} h => by
    obtain ⟨p, u, w, rfl, hs, h1, h2⟩ := h
    exact .tup hs (.cons (a.dp h1) (.cons (b.dp h2) .nil))
  lay := fun {x} h => by
    show (PyData.canLay0 (a.d x.1) && (PyData.canLay0 (b.d x.2) && true)) = true
    rw [a.lay h.1, b.lay h.2]; rfl
  dep := fun {x} => by
    have h1 := a.dep (x := x.1)
    have h2 := b.dep (x := x.2)
    show max (PyData.depth (a.d x.1)) (max (PyData.depth (b.d x.2)) 0) + 1 ≤ _
    omega
  eq := fun {x y} => by
    show (PyData.eqv (a.d x.1) (a.d y.1) && (PyData.eqv (b.d x.2) (b.d y.2) && true)) = true ↔ _
    rw [Bool.and_true, Bool.and_eq_true, a.eq, b.eq, Prod.ext_iff]
instance : DtN (α × β) := ⟨⟨rfl, rfl⟩⟩
instance : Dt (T3 α β γ) where
  d x := .tuple [a.d x.a, b.d x.b, c.d x.c]
  ok x := a.ok x.a ∧ b.ok x.b ∧ c.ok x.c
  n := max a.n (max b.n c.n) + 1
  dp := fun {K H v x} h => by
    obtain ⟨p, u1, u2, u3, rfl, hs, h1, h2, h3⟩ := h
    exact .tup hs (.cons (a.dp h1) (.cons (b.dp h2) (.cons (c.dp h3) .nil)))
  lay := fun {x} h => by
    show (PyData.canLay0 (a.d x.a) && (PyData.canLay0 (b.d x.b) && (PyData.canLay0 (c.d x.c) && true))) = true
    rw [a.lay h.1, b.lay h.2.1, c.lay h.2.2]; rfl
  dep := fun {x} => by
    have h1 := a.dep (x := x.a)
    have h2 := b.dep (x := x.b)
    have h3 := c.dep (x := x.c)
    show max (PyData.depth (a.d x.a)) (max (PyData.depth (b.d x.b)) (max (PyData.depth (c.d x.c)) 0)) + 1 ≤ _
    omega
  eq := fun {x y} => by
    show (PyData.eqv (a.d x.a) (a.d y.a) && (PyData.eqv (b.d x.b) (b.d y.b) && (PyData.eqv (c.d x.c) (c.d y.c) && true))) = true ↔ _
    rw [Bool.and_true, Bool.and_eq_true, Bool.and_eq_true, a.eq, b.eq, c.eq]
    cases x; cases y; simp
instance : DtN (T3 α β γ) := ⟨⟨rfl, rfl⟩⟩
instance : Dt (T4 α β γ δ) where
  d x := .tuple [a.d x.a, b.d x.b, c.d x.c, e.d x.d]
  ok x := a.ok x.a ∧ b.ok x.b ∧ c.ok x.c ∧ e.ok x.d
  n := max a.n (max b.n (max c.n e.n)) + 1
  dp := fun {K H v x} h => by
    obtain ⟨p, u1, u2, u3, u4, rfl, hs, h1, h2, h3, h4⟩ := h
    exact .tup hs (.cons (a.dp h1) (.cons (b.dp h2) (.cons (c.dp h3) (.cons (e.dp h4) .nil))))
  lay := fun {x} h => by
    show (PyData.canLay0 (a.d x.a) && (PyData.canLay0 (b.d x.b) && (PyData.canLay0 (c.d x.c) && (PyData.canLay0 (e.d x.d) && true)))) = true
    rw [a.lay h.1, b.lay h.2.1, c.lay h.2.2.1, e.lay h.2.2.2]; rfl
  dep := fun {x} => by
    have h1 := a.dep (x := x.a)
    have h2 := b.dep (x := x.b)
    have h3 := c.dep (x := x.c)
    have h4 := e.dep (x := x.d)
    show max (PyData.depth (a.d x.a)) (max (PyData.depth (b.d x.b)) (max (PyData.depth (c.d x.c)) (max (PyData.depth (e.d x.d)) 0))) + 1 ≤ _
    omega
  eq := fun {x y} => by
    show (PyData.eqv (a.d x.a) (a.d y.a) && (PyData.eqv (b.d x.b) (b.d y.b) && (PyData.eqv (c.d x.c) (c.d y.c) && (PyData.eqv (e.d x.d) (e.d y.d) && true)))) = true ↔ _
    rw [Bool.and_true, Bool.and_eq_true, Bool.and_eq_true, Bool.and_eq_true, a.eq, b.eq, c.eq, e.eq]
    cases x; cases y; simp
instance : DtN (T4 α β γ δ) := ⟨⟨rfl, rfl⟩⟩
instance : Dt (T5 α β γ δ ε) where
  d x := .tuple [a.d x.a, b.d x.b, c.d x.c, e.d x.d, g.d x.e]
  ok x := a.ok x.a ∧ b.ok x.b ∧ c.ok x.c ∧ e.ok x.d ∧ g.ok x.e
  n := max a.n (max b.n (max c.n (max e.n g.n))) + 1
  dp := fun {K H v x} h => by
    obtain ⟨p, u1, u2, u3, u4, u5, rfl, hs, h1, h2, h3, h4, h5⟩ := h
    exact .tup hs (.cons (a.dp h1) (.cons (b.dp h2) (.cons (c.dp h3) (.cons (e.dp h4) (.cons (g.dp h5) .nil)))))
  lay := fun {x} h => by
    show (PyData.canLay0 (a.d x.a) && (PyData.canLay0 (b.d x.b) && (PyData.canLay0 (c.d x.c) && (PyData.canLay0 (e.d x.d) && (PyData.canLay0 (g.d x.e) && true))))) = true
    rw [a.lay h.1, b.lay h.2.1, c.lay h.2.2.1, e.lay h.2.2.2.1, g.lay h.2.2.2.2]; rfl
  dep := fun {x} => by
    have h1 := a.dep (x := x.a)
    have h2 := b.dep (x := x.b)
    have h3 := c.dep (x := x.c)
    have h4 := e.dep (x := x.d)
    have h5 := g.dep (x := x.e)
    show max (PyData.depth (a.d x.a)) (max (PyData.depth (b.d x.b)) (max (PyData.depth (c.d x.c)) (max (PyData.depth (e.d x.d)) (max (PyData.depth (g.d x.e)) 0)))) + 1 ≤ _
    omega
  eq := fun {x y} => by
    show (PyData.eqv (a.d x.a) (a.d y.a) && (PyData.eqv (b.d x.b) (b.d y.b) && (PyData.eqv (c.d x.c) (c.d y.c) && (PyData.eqv (e.d x.d) (e.d y.d) && (PyData.eqv (g.d x.e) (g.d y.e) && true))))) = true ↔ _
    rw [Bool.and_true, Bool.and_eq_true, Bool.and_eq_true, Bool.and_eq_true, Bool.and_eq_true, a.eq, b.eq, c.eq, e.eq, g.eq]
    cases x; cases y; simp
instance : DtN (T5 α β γ δ ε) := ⟨⟨rfl, rfl⟩⟩
theorem dt_shaped {x : α} (h : a.ok x) (hn : a.n ≤ 60) : SeqAt.shaped (a.d x) = true := by
  show ((a.d x).canLay0 && decide ((a.d x).depth ≤ 64)) = true
  rw [a.lay h, decide_eq_true (Nat.le_trans a.dep (Nat.le_trans hn (by decide)))]
  rfl
theorem dt_dec [DecidableEq α] {x y : α} : PyData.eqv (a.d x) (a.d y) = decide (x = y) := by
  by_cases h : x = y
  · rw [a.eq.mpr h, decide_eq_true h]
  · rw [decide_eq_false h]
    cases q : PyData.eqv (a.d x) (a.d y) with
    | false => rfl
    | true => exact absurd (a.eq.mp q) h
end
section
variable {K : Kf} {m m1 m2 m3 p p1 p2 : Bool} {te ta tb tc : TE} {tt t1 t2 : TT} {Γ Γ1 Γ2 Γ3 : List Sl} {α : Type} [i : Rp α]
theorem rep_mono {α : Type} [i : Rp α] {H H' : Hp} {v : V} {x : α} (s : Same H H') (h : i.rep K H v x) : i.rep K H' v x := i.mono s h
/-- x == y of data of any depth; the left one stands for good or needs no heap -/
theorem e_eqD [d : Dt α] [DecidableEq α] {x y : α} (ha : E K m1 true ta Γ Γ1 x) (hb : E K m2 p2 tb Γ1 Γ2 y) (hx : d.ok x) (hy : d.ok y) (hn : d.n ≤ 60 := by exact Nat.le_of_ble_eq_true rfl) : E K (m1 || m2) true (tOp (rEqD K) ta tb) Γ Γ2 (decide (x = y)) := fun F I H0 H σ r Q q =>
  ha F I H0 H σ r _ fun v H1 H1' r1 a1 b1 c1 => hb.nowP F I H1 H1' σ r1 _ fun w H2 H2' r2 a2 b2 c2 =>
    ⟨d.d x, d.d y, d.dp (i.mono (a2.trans r2.h) (by simpa using c1)), d.dp (by simpa using c2), dt_shaped hx hn, dt_shaped hy hn, q _ H2 H2' r2 (a1.trans a2) (same_mm b1 b2) (congrArg V.bl dt_dec)⟩
theorem e_neD [d : Dt α] [DecidableEq α] {x y : α} (ha : E K m1 true ta Γ Γ1 x) (hb : E K m2 p2 tb Γ1 Γ2 y) (hx : d.ok x) (hy : d.ok y) (hn : d.n ≤ 60 := by exact Nat.le_of_ble_eq_true rfl) : E K (m1 || m2) true (tOp (rNeD K) ta tb) Γ Γ2 (!decide (x = y)) := fun F I H0 H σ r Q q =>
  ha F I H0 H σ r _ fun v H1 H1' r1 a1 b1 c1 => hb.nowP F I H1 H1' σ r1 _ fun w H2 H2' r2 a2 b2 c2 =>
    ⟨d.d x, d.d y, d.dp (i.mono (a2.trans r2.h) (by simpa using c1)), d.dp (by simpa using c2), dt_shaped hx hn, dt_shaped hy hn, q _ H2 H2' r2 (a1.trans a2) (same_mm b1 b2) (congrArg V.bl (congrArg not dt_dec))⟩
/-- the same where the left one is a list of one's own or lent: nothing is changed on the right -/
theorem e_eqDB [d : Dt α] [DecidableEq α] {x y : α} (ha : E K false p1 ta Γ Γ x) (hb : E K false p2 tb Γ Γ y) (hx : d.ok x) (hy : d.ok y) (hn : d.n ≤ 60 := by exact Nat.le_of_ble_eq_true rfl) : E K false true (tOp (rEqD K) ta tb) Γ Γ (decide (x = y)) := fun F I H0 H σ r Q q =>
  ha.nowP F I H0 H σ r _ fun v H1 H1' r1 a1 b1 c1 => hb.nowP F I H1 H1' σ r1 _ fun w H2 H2' r2 a2 b2 c2 =>
    ⟨d.d x, d.d y, d.dp (i.mono (b2 rfl) (by simpa using c1)), d.dp (by simpa using c2), dt_shaped hx hn, dt_shaped hy hn, q _ H2 H2' r2 (a1.trans a2) (fun _ => (b1 rfl).trans (b2 rfl)) (congrArg V.bl dt_dec)⟩
theorem e_neDB [d : Dt α] [DecidableEq α] {x y : α} (ha : E K false p1 ta Γ Γ x) (hb : E K false p2 tb Γ Γ y) (hx : d.ok x) (hy : d.ok y) (hn : d.n ≤ 60 := by exact Nat.le_of_ble_eq_true rfl) : E K false true (tOp (rNeD K) ta tb) Γ Γ (!decide (x = y)) := fun F I H0 H σ r Q q =>
  ha.nowP F I H0 H σ r _ fun v H1 H1' r1 a1 b1 c1 => hb.nowP F I H1 H1' σ r1 _ fun w H2 H2' r2 a2 b2 c2 =>
    ⟨d.d x, d.d y, d.dp (i.mono (b2 rfl) (by simpa using c1)), d.dp (by simpa using c2), dt_shaped hx hn, dt_shaped hy hn, q _ H2 H2' r2 (a1.trans a2) (fun _ => (b1 rfl).trans (b2 rfl)) (congrArg V.bl (congrArg not dt_dec))⟩
theorem any_mem [d : Dt α] [DecidableEq α] {x : α} : ∀ {ys : List α}, ((ys.map d.d).any fun z => PyData.eqv z (d.d x)) = decide (x ∈ ys)
  | [] => by simp
  | y :: ys => by
    rw [List.map_cons, List.any_cons, any_mem, dt_dec]
    by_cases h : y = x
    · subst h; simp
    · have h' : ¬ x = y := fun e => h e.symm
      simp [h, h']
/-- x in ys, ys a list of data of any depth -/
theorem e_inD [d : Dt α] [DecidableEq α] {x : α} {ys : List α} (ha : E K m1 true ta Γ Γ1 x) (hb : E K m2 p2 tb Γ1 Γ2 ys) (hx : d.ok x) (hy : ∀ y ∈ ys, d.ok y) (hn : d.n + 1 ≤ 60 := by exact Nat.le_of_ble_eq_true rfl) : E K (m1 || m2) true (tOp (rInD K) ta tb) Γ Γ2 (decide (x ∈ ys)) := fun F I H0 H σ r Q q =>
  ha F I H0 H σ r _ fun v H1 H1' r1 a1 b1 c1 => hb.nowP F I H1 H1' σ r1 _ fun w H2 H2' r2 a2 b2 c2 =>
    ⟨d.d x, ys.map d.d, d.dp (i.mono (a2.trans r2.h) (by simpa using c1)), (inferInstance : Dt (List α)).dp (by simpa using c2), dt_shaped hx (Nat.le_of_succ_le hn), dt_shaped (α := List α) hy hn, q _ H2 H2' r2 (a1.trans a2) (same_mm b1 b2) (congrArg V.bl any_mem)⟩
theorem e_ninD [d : Dt α] [DecidableEq α] {x : α} {ys : List α} (ha : E K m1 true ta Γ Γ1 x) (hb : E K m2 p2 tb Γ1 Γ2 ys) (hx : d.ok x) (hy : ∀ y ∈ ys, d.ok y) (hn : d.n + 1 ≤ 60 := by exact Nat.le_of_ble_eq_true rfl) : E K (m1 || m2) true (tOp (rNotInD K) ta tb) Γ Γ2 (!decide (x ∈ ys)) := fun F I H0 H σ r Q q =>
  ha F I H0 H σ r _ fun v H1 H1' r1 a1 b1 c1 => hb.nowP F I H1 H1' σ r1 _ fun w H2 H2' r2 a2 b2 c2 =>
    ⟨d.d x, ys.map d.d, d.dp (i.mono (a2.trans r2.h) (by simpa using c1)), (inferInstance : Dt (List α)).dp (by simpa using c2), dt_shaped hx (Nat.le_of_succ_le hn), dt_shaped (α := List α) hy hn, q _ H2 H2' r2 (a1.trans a2) (same_mm b1 b2) (congrArg V.bl (congrArg not any_mem))⟩
/-- data without texts -/
class DtF (α : Type) [i : Rp α] [d : Dt α] : Prop where
  ok : ∀ x : α, d.ok x
instance : DtF Int := ⟨fun _ => trivial⟩
instance : DtF Bool := ⟨fun _ => trivial⟩
instance : DtF Unit := ⟨fun _ => trivial⟩
section
variable {α β γ δ ε : Type} [i : Rp α] [j : Rp β] [k : Rp γ] [l : Rp δ] [m : Rp ε] [a : Dt α] [b : Dt β] [c : Dt γ] [e : Dt δ] [g : Dt ε] [DtF α] [DtF β] [DtF γ] [DtF δ] [DtF ε]
instance [DtN α] : DtF (Option α) := ⟨fun x => by
  cases x with
  | none => exact trivial
  | some y => exact DtF.ok (α := α) y⟩
instance : DtF (List α) := ⟨fun _ x _ => DtF.ok x⟩
instance : DtF (Tu α) := ⟨fun _ x _ => DtF.ok x⟩
instance : DtF (α × β) := ⟨fun _ => ⟨DtF.ok _, DtF.ok _⟩⟩
instance : DtF (T3 α β γ) := ⟨fun _ => ⟨DtF.ok _, DtF.ok _, DtF.ok _⟩⟩
instance : DtF (T4 α β γ δ) := ⟨fun _ => ⟨DtF.ok _, DtF.ok _, DtF.ok _, DtF.ok _⟩⟩
instance : DtF (T5 α β γ δ ε) := ⟨fun _ => ⟨DtF.ok _, DtF.ok _, DtF.ok _, DtF.ok _, DtF.ok _⟩⟩
end
/-! ### [x] * n -/
theorem prd_repl {α : Type} {R : V → α → Prop} {u : V} {x : α} (h : R u x) : ∀ n : Nat, Prd R (List.replicate n [u]).flatten (List.replicate n x)
  | 0 => .nil
  | n + 1 => by
    rw [List.replicate_succ, List.replicate_succ, List.flatten_cons]
    exact .cons h (prd_repl h n)
theorem n_rep {x : α} {k : Int} (ha : E K m1 true ta Γ Γ1 [x]) (hb : E K m2 p tb Γ1 Γ2 k) (hz : -100000 ≤ k ∧ k ≤ 100000) : EN K (m1 || m2) (tOp rRep ta tb) Γ Γ2 (List.replicate k.toNat x) := fun F I H0 H σ r Q q =>
  ha F I H0 H σ r _ fun v H1 H1' r1 a1 b1 c1 => hb.sc F I H1 H1' σ r1 _ fun w H2 H2' r2 a2 b2 c2 => by
    obtain ⟨a, vs, rfl, hs, hp⟩ := c1
    cases (show w = V.int k from c2)
    cases hp with | cons h1 h2 => cases h2 with | nil =>
    refine ⟨a, k, _, rfl, rfl, r2.h _ _ (a2 _ _ hs), by omega, by omega, ?_, fun l hl => ?_⟩
    · have e : (100000 : Nat) ≤ sizeLine := by decide
      simp only [List.length_singleton]
      omega
    · obtain ⟨r3, s1, z1, z2, z3⟩ := r2.fresh (vs := (List.replicate k.toNat [_]).flatten) hl
      exact q _ _ _ _ r3 (a1.trans a2) (fun z => (same_mm b1 b2 z).trans s1) z1 z2 z3 upd_same (prd_repl (i.mono a2 h1) _)
/-! ### narrowing -/
def og {α : Type} [Inhabited α] (x : Option α) : α := x.getD default
theorem e_get [Inhabited α] {x : Option α} (h : E K m p te Γ Γ1 x) (hs : x.isSome = true) : E K m p te Γ Γ1 (og x) := by
  cases x with
  | none => cases hs
  | some y => exact fun F I H0 H σ r Q q => h F I H0 H σ r Q fun v H0' H' r' a b c => q v H0' H' r' a b c.2
theorem e_isN0 [NN α] {x : α} (ha : E K m p ta Γ Γ1 x) : E K m true (tIsN ta) Γ Γ1 false := fun F I H0 H σ r Q q =>
  ha.nowP F I H0 H σ r _ fun v H1 H1' r1 a1 b1 c1 => by
    have hv : v ≠ .non := fun e => by subst e; exact NN.nn c1
    have := q (.bl (decide (v = .non))) H1 H1' r1 a1 b1 (congrArg V.bl (decide_eq_false hv))
    exact this
theorem e_notN0 [NN α] {x : α} (ha : E K m p ta Γ Γ1 x) : E K m true (tNotN ta) Γ Γ1 true := fun F I H0 H σ r Q q =>
  ha.nowP F I H0 H σ r _ fun v H1 H1' r1 a1 b1 c1 => by
    have hv : v ≠ .non := fun e => by subst e; exact NN.nn c1
    have := q (.bl (!decide (v = .non))) H1 H1' r1 a1 b1 (congrArg V.bl (by rw [decide_eq_false hv]; rfl))
    exact this
/-! ### xs.pop(k) -/
theorem prd_erase {α β : Type} {R : α → β → Prop} : ∀ {l₁ : List α} {l₂ : List β} (n : Nat), Prd R l₁ l₂ → Prd R (l₁.eraseIdx n) (l₂.eraseIdx n)
  | _, _, _, .nil => .nil
  | _, _, 0, .cons _ t => t
  | _, _, n + 1, .cons r t => .cons r (prd_erase n t)
theorem e_popAt [Inhabited α] {xs ys : List α} {k : Int} {n : Nat} {a a' : Option Addr} (h0 : Γ[n]? = some (.own i a' ys)) (hk : E K m p tb Γ Γ1 k) (hn : Γ1[n]? = some (.own i a xs)) (hz : 0 ≤ k ∧ k < xs.length ∧ xs.length ≤ 100000) :
    E K true true (tBM K "list" rPopAt (tVar n) (tCons tb tNil)) Γ (Γ1.set n (.own i a (xs.eraseIdx k.toNat))) (gi xs k) := fun F I H0 H σ r Q q => by
  obtain ⟨b, vs, e1, f1, f2, f3, f4⟩ := own_at r h0
  refine ⟨.ref b, e1, Or.inl ⟨rfl, vs, SqL.of f3⟩, hk.sc F I H0 H σ r _ fun w H1 H1' r1 a1 b1 c1 => ?_⟩
  cases (show w = V.int k from c1)
  obtain ⟨b', vs', e1', g1, g2, g3, g4⟩ := own_at r1 hn
  rw [e1] at e1'
  cases e1'
  obtain ⟨u, u1, u2⟩ := gi_at g4 (k := k) (by omega)
  have el := prd_len g4
  have u3 : vs'[k.toNat]? = some u := by
    unfold atI ixN at u1
    rw [if_pos hz.1, if_pos (by omega)] at u1
    exact u1
  refine ⟨b, vs', k, k.toNat, u, rfl, rfl, g3, by omega, by omega, ?_, u3, q _ _ _ (r1.mut hn e1 (prd_erase _ g4)) a1 (fun z => nomatch z) u2⟩
  unfold seqIndex?
  have e1 : ¬ k < 0 := by omega
  have e2 : (0 : Int) ≤ k ∧ k < (vs'.length : Int) := by omega
  simp [e1, e2.1, e2.2]
/-- xs.reverse() -/
theorem g_rev {xs : List α} {n : Nat} {a : Option Addr} (hn : Γ[n]? = some (.own i a xs)) : Go K (tDrop (tBM0 K "list" rReverse (tVar n))) Γ (Γ.set n (.own i a xs.reverse)) := fun F I H0 H σ D r q => by
  obtain ⟨b, vs, e1, f1, f2, f3, f4⟩ := own_at r hn
  exact ⟨.ref b, e1, Or.inl ⟨rfl, vs, SqL.of f3⟩, b, vs, rfl, rfl, f3, q _ _ σ (Same.refl _) (r.mut hn e1 (prd_rev f4))⟩
/-- y = xs[k], xs lent -/
theorem g_setBx [Inhabited α] {xs : List α} {k : Int} {n l : Nat} (hn : Γ[n]? = some (.bor inferInstance xs)) (hb : E K false p tb Γ Γ k) (h : -(xs.length : Int) ≤ k ∧ k < xs.length) (hl : l < Γ.length := by exact Nat.le_of_ble_eq_true rfl) : Go K (tAsg (tOp (rIxL K) (tVar n) tb) (gName l)) Γ (Γ.set l (bw (gi xs k))) := fun F I H0 H σ D r q => by
  obtain ⟨ov, e1, v, e2, c1⟩ := r.ok n _ hn
  subst e2
  obtain ⟨a, vs, rfl, hs, hp⟩ := rl c1
  refine ⟨.ref a, e1, hb.sc F I H0 H σ r _ fun w H2 H2' r2 a2 b2 c2 => ?_⟩
  cases (show w = V.int k from c2)
  obtain ⟨u, u1, u2⟩ := gi_at hp h
  exact ⟨a, vs, k, u, rfl, rfl, (F.sub.trans r2.f).seq hs, u1, q H2 H2' _ a2 (r2.set (s := bw (gi xs k)) ⟨u, rfl, u2⟩ (fun _ z => z.elim) hl)⟩
/-! ### a list as a test -/
theorem t_ne {xs : List α} (h : E K m p te Γ Γ1 xs) : Tt K m (fun σ H Q => te σ H fun x H' => ∃ k, TruV K x H' k ∧ Q k H') Γ Γ1 (!xs.isEmpty) := fun F I H0 H σ r Q q =>
  h.nowP F I H0 H σ r _ fun v H1 H1' r1 a1 b1 c1 => by
    obtain ⟨a, vs, rfl, hs, hp⟩ := rl c1
    refine ⟨!xs.isEmpty, .inl ⟨vs, hs, ?_⟩, q H1 H1' r1 a1 b1⟩
    have e := prd_len hp
    cases vs <;> cases xs <;> simp_all
/-! ### a state that the second operand changes -/
theorem t_andJ {S : Type} (G : S → List Sl) {s1 s2 : S} {b1 b2 : Bool} (h1 : Tt K m1 t1 Γ (G s1) b1) (h2 : b1 = true → Tt K m2 t2 (G s1) (G s2) b2) : Tt K true (tAnd t1 t2) Γ (G (if b1 = true then s2 else s1)) (b1 && b2) := fun F I H0 H σ r Q q => h1 F I H0 H σ r _ fun H1 H1' r1 a1 c1 => by
  cases b1 with
  | true => exact h2 rfl F I H1 H1' σ r1 _ fun H2 H2' r2 a2 c2 => q H2 H2' r2 (a1.trans a2) fun z => nomatch z
  | false => exact q H1 H1' r1 a1 fun z => nomatch z
theorem t_orJ {S : Type} (G : S → List Sl) {s1 s2 : S} {b1 b2 : Bool} (h1 : Tt K m1 t1 Γ (G s1) b1) (h2 : b1 = false → Tt K m2 t2 (G s1) (G s2) b2) : Tt K true (tOr t1 t2) Γ (G (if b1 = true then s1 else s2)) (b1 || b2) := fun F I H0 H σ r Q q => h1 F I H0 H σ r _ fun H1 H1' r1 a1 c1 => by
  cases b1 with
  | false => exact h2 rfl F I H1 H1' σ r1 _ fun H2 H2' r2 a2 c2 => q H2 H2' r2 (a1.trans a2) fun z => nomatch z
  | true => exact q H1 H1' r1 a1 fun z => nomatch z
/-! ### enumerate, zip, reversed -/
def enum {α : Type} (xs : List α) : List (Int × α) := (rng 0 xs.length).zip xs
theorem enum_len {α : Type} (xs : List α) : (enum xs).length = xs.length := by
  unfold enum
  rw [List.length_zip, rng_len]
  omega
theorem enum_get {α : Type} {xs : List α} {n : Nat} {z : Int × α} (h : (enum xs)[n]? = some z) : z.1 = n ∧ xs[n]? = some z.2 := by
  unfold enum at h
  rw [List.getElem?_zip_eq_some] at h
  refine ⟨?_, h.2⟩
  have := rng_at h.1
  omega
theorem w_enum {xs : List α} {ta : TA} (h : A K m ta Γ Γ1 [ap xs]) : Wlk K true m (iEnum K ta) Γ Γ1 (inferInstance : Rp (Int × α)) (enum xs) := fun F I H0 H σ r R q =>
  h F I H0 H σ r _ fun ws H1 H1' r1 a1 b1 c1 => by
    cases c1 with | cons z1 c1 => cases c1 with | nil =>
    obtain ⟨a, vs, rfl, hs, hp⟩ := rl (K := K) (H := H1) z1
    have el := prd_len hp
    refine ⟨a, vs, rfl, r1.h.seq hs, q (Ite K a) H1 H1' r1 a1 b1 fun n H2 H2' s2 s3 _ hn => ?_⟩
    rw [enum_len] at hn
    have hs' := (s2.trans s3).seq hs
    refine ⟨fun e => ⟨vs, hs', by rw [e, enum_len]; omega⟩, fun z hz => ?_⟩
    obtain ⟨e0, hx⟩ := enum_get hz
    obtain ⟨u, e1, e2⟩ := prd_get hp hx
    refine ⟨⟨vs, u, hs', e1⟩, fun v H3 y => ?_⟩
    obtain ⟨T, x, rfl, hT, e3, e4⟩ := y
    have e5 := e4 vs hs'
    rw [e1] at e5
    cases e5
    refine .inr ⟨T, .tup [.int (n : Nat), u], hT, e3, T, .int (n : Nat), u, rfl, .inl (.inl upd_same), congrArg V.int e0.symm, ?_⟩
    have h2 : H2 T = none := Same.free s3 hT
    have s4 : Same H2 (upd H2 T (HO.tup [V.int (n : Nat), u])) := fun b o e => by rw [upd_ne (ne_of_none e h2)]; exact e
    exact i.mono (s2.trans s4) e2
end
end FF

set_option Elab.async false
set_option linter.all false
set_option maxRecDepth 100000
set_option maxHeartbeats 2000000
namespace FF
open PySem L2
/-! ### a list of lists of one's own: lent as a whole to one statement, then cleared list by list -/
def plain : Sl → Prop
  | .un => True
  | .per _ _ => True
  | _ => False
def Plain (Γ : List Sl) : Prop := ∀ (n : Nat) (s : Sl), Γ[n]? = some s → plain s
theorem plain_nil : Plain [] := fun n s h => by simp at h
theorem plain_cons {s : Sl} {Γ : List Sl} (h : plain s) (k : Plain Γ) : Plain (s :: Γ) := fun n t e => by
  cases n with
  | zero => cases (Option.some.inj e); exact h
  | succ n => exact k n t e
section
variable {K : Kf} {F : Fm} {I H0 H H0' H' : Hp} {σ σ' : St} {Γ Γ' : List Sl}
theorem Plain.own (h : Plain Γ) : ∀ n : Nat, ¬ isOwn Γ[n]? := fun n hn => by
  cases e : Γ[n]? with
  | none => rw [e] at hn; exact hn
  | some s =>
    have := h n s e
    rw [e] at hn
    cases s with
    | own _ _ _ => exact this
    | dp _ _ _ => exact this
    | gn _ => exact this
    | un => exact hn
    | ob _ _ _ _ => exact hn
    | per _ _ => exact hn
    | bor _ _ => exact hn
    | bl _ _ => exact hn
/-- all that there is is kept for a while -/
theorem SR.lend (r : SR K F I H0 H σ Γ) (h : Plain Γ) : SR K ⟨H, H, Same.refl _⟩ H0 H0 H σ Γ :=
  ⟨Same.refl _, Same.refl _, fun _ _ _ n => n, r.h, r.len, fun n s e => by
    obtain ⟨ov, q1, q2⟩ := r.ok n s e
    have := h n s e
    refine ⟨ov, q1, ?_⟩
    cases s with
    | un => trivial
    | per _ _ => exact q2
    | bor _ _ => exact this.elim
    | bl _ _ => exact this.elim
    | own _ _ _ => exact this.elim
    | dp _ _ _ => exact this.elim
    | gn _ => exact this.elim
    | ob _ _ _ _ => exact this.elim, r.dj⟩
theorem SR.back (r : SR K F I H0 H σ Γ) (r' : SR K ⟨H, H, Same.refl _⟩ H0 H0' H' σ' Γ') (h : Plain Γ') : SR K F I H0' H' σ' Γ' :=
  ⟨r.f.trans r'.f, r.i.trans r'.i, fun a o e n => r'.g a o (r.f a o e) (r.g a o e n), r'.h, r'.len, fun n s e => by
    obtain ⟨ov, q1, q2⟩ := r'.ok n s e
    have := h n s e
    refine ⟨ov, q1, ?_⟩
    cases s with
    | un => trivial
    | per _ _ => exact q2
    | bor _ _ => exact this.elim
    | bl _ _ => exact this.elim
    | own _ _ _ => exact this.elim
    | dp _ _ _ => exact this.elim
    | gn _ => exact this.elim
    | ob _ _ _ _ => exact this.elim, r'.dj⟩
/-- a thing that nobody asks for is changed -/
theorem SR.hurt (r : SR K F I H0 H σ Γ) (h : Plain Γ) {p : Addr} {o : HO} (hF : F.k p = none) (h0 : H0 p = none) : SR K F I H0 (upd H p o) σ Γ :=
  ⟨fun b u e => by rw [upd_ne (ne_of_none e hF)]; exact r.f b u e, r.i, r.g, fun b u e => by rw [upd_ne (ne_of_none e h0)]; exact r.h b u e, r.len, fun n s e => by
    obtain ⟨ov, q1, q2⟩ := r.ok n s e
    have := h n s e
    refine ⟨ov, q1, ?_⟩
    cases s with
    | un => trivial
    | per _ _ => exact q2
    | bor _ _ => exact this.elim
    | bl _ _ => exact this.elim
    | own _ _ _ => exact this.elim
    | dp _ _ _ => exact this.elim
    | gn _ => exact this.elim
    | ob _ _ _ _ => exact this.elim, fun n m a ne h1 _ => h.own n (ftp_isOwn h1)⟩
end
section
variable {α β γ δ : Type} [i : Rp α] [j : Rp β] [k : Rp γ] [l : Rp δ]
/-- a list of four lists, at these places -/
@[reducible] def rep4 (a b1 b2 b3 b4 : Addr) : Rp (T4 (List α) (List β) (List γ) (List δ)) :=
  ⟨fun K H v x => v = .ref a ∧ H a = some (.lst [.ref b1, .ref b2, .ref b3, .ref b4]) ∧ rep K H (.ref b1) x.a ∧ rep K H (.ref b2) x.b ∧ rep K H (.ref b3) x.c ∧ rep K H (.ref b4) x.d,
   fun s ⟨e, h, p, q, r, t⟩ => ⟨e, s _ _ h, (inferInstance : Rp (List α)).mono s p, (inferInstance : Rp (List β)).mono s q, (inferInstance : Rp (List γ)).mono s r, (inferInstance : Rp (List δ)).mono s t⟩⟩
variable {K : Kf} {Γ : List Sl} {n : Nat} {a b1 b2 b3 b4 : Addr} {x : T4 (List α) (List β) (List γ) (List δ)}
theorem e_q4 {τ : Type} [it : Rp τ] {m : Nat} {z : Int} {y : τ} {w : V} (hz : z = (m : Int)) (hw : [V.ref b1, .ref b2, .ref b3, .ref b4][m]? = some w) (hn : Γ[n]? = some (.bor (rep4 a b1 b2 b3 b4) x)) (hr : ∀ H : Hp, (rep4 a b1 b2 b3 b4).rep K H (.ref a) x → it.rep K H w y) : E K false false (tOp (rIxL K) (tVar n) (tC (.int z))) Γ Γ y := fun F I H0 H σ r Q q => by
  obtain ⟨ov, e1, v, e2, c1⟩ := r.ok n _ hn
  subst e2
  have c2 := (rep4 a b1 b2 b3 b4).mono (F.sub.trans r.f) c1
  obtain ⟨rfl, h5, _⟩ := id c2
  refine ⟨.ref a, e1, a, _, z, w, rfl, rfl, SqL.of h5, ?_, q w H0 H r (Same.refl _) (fun _ => Same.refl _) (hr H c2)⟩
  subst hz
  have hm : m < 4 := (List.getElem?_eq_some_iff.mp hw).1
  unfold atI ixN
  rw [if_pos (by omega), if_pos (by simp only [List.length_cons, List.length_nil]; omega)]
  simpa using hw
theorem e_q4a (hn : Γ[n]? = some (.bor (rep4 a b1 b2 b3 b4) x)) : E K false false (tOp (rIxL K) (tVar n) (tC (.int 0))) Γ Γ x.a := e_q4 (m := 0) rfl rfl hn fun H h => h.2.2.1
theorem e_q4b (hn : Γ[n]? = some (.bor (rep4 a b1 b2 b3 b4) x)) : E K false false (tOp (rIxL K) (tVar n) (tC (.int 1))) Γ Γ x.b := e_q4 (m := 1) rfl rfl hn fun H h => h.2.2.2.1
theorem e_q4c (hn : Γ[n]? = some (.bor (rep4 a b1 b2 b3 b4) x)) : E K false false (tOp (rIxL K) (tVar n) (tC (.int 2))) Γ Γ x.c := e_q4 (m := 2) rfl rfl hn fun H h => h.2.2.2.2.1
theorem e_q4d (hn : Γ[n]? = some (.bor (rep4 a b1 b2 b3 b4) x)) : E K false false (tOp (rIxL K) (tVar n) (tC (.int 3))) Γ Γ x.d := e_q4 (m := 3) rfl rfl hn fun H h => h.2.2.2.2.2
end
section
variable {K : Kf} {α β γ δ ω : Type} [i : Rp α] [j : Rp β] [k : Rp γ] [l : Rp δ] [o : Rp ω]
/-- parts = [.., .., .., ..]; y = e(parts); for part in parts: part.clear(); return y -/
theorem r_parts {mm : Bool} {Γ0 : Sl} {t1 t2 t3 t4 ty : TE} {x1 : List α} {x2 : List β} {x3 : List γ} {x4 : List δ} {y : ω} {te : TS} (hΓ : plain Γ0)
    (h1 : EN K false t1 [Γ0, .un, .un, .un] [Γ0, .un, .un, .un] x1) (h2 : EN K false t2 [Γ0, .un, .un, .un] [Γ0, .un, .un, .un] x2) (h3 : EN K false t3 [Γ0, .un, .un, .un] [Γ0, .un, .un, .un] x3) (h4 : EN K false t4 [Γ0, .un, .un, .un] [Γ0, .un, .un, .un] x4)
    (hy : ∀ a b1 b2 b3 b4 : Addr, E K mm true ty [Γ0, .bor (rep4 a b1 b2 b3 b4) (T4.mk x1 x2 x3 x4), .un, .un] [Γ0, .bor (rep4 a b1 b2 b3 b4) (T4.mk x1 x2 x3 x4), .un, .un] y) :
    R K (tSeq (tAsg (tLst (tCons t1 (tCons t2 (tCons t3 (tCons t4 tNil))))) (gName 1)) (tSeq (tAsg ty (gName 2)) (tSeq (tFor (iList K (tVar 1)) (gName 3) (tSeq (tDrop (tBM0 K "list" rClear (tVar 3))) tNext)) (tSeq (tRet (tVar 2)) te)))) [Γ0, .un, .un, .un] (PerR K (fun r : ω => r)) (fun _ => []) y := fun F I H0 H σ D r q n => by
  have hp4 : Plain [Γ0, .un, .un, .un] := plain_cons hΓ (plain_cons trivial (plain_cons trivial (plain_cons trivial plain_nil)))
  refine h1 F I H0 H σ r _ fun b1 v1 H1 H1' r1 a1 c1 f1 g1 _ e1 p1 => ?_
  refine h2 _ _ _ _ σ (r1.lend hp4) _ fun b2 v2 H2 H2' r2' a2 c2 f2 g2 _ e2 p2 => ?_
  have r2 := r1.back r2' hp4
  refine h3 _ _ _ _ σ (r2.lend hp4) _ fun b3 v3 H3 H3' r3' a3 c3 f3 g3 _ e3 p3 => ?_
  have r3 := r2.back r3' hp4
  refine h4 _ _ _ _ σ (r3.lend hp4) _ fun b4 v4 H4 H4' r4' a4 c4 f4 g4 _ e4 p4 => ?_
  have r4 := r3.back r4' hp4
  have g1 := r4'.g _ _ (r3'.f _ _ (r2'.f _ _ e1)) (r3'.g _ _ (r2'.f _ _ e1) (r2'.g _ _ e1 g1))
  have g2 := r4'.g _ _ (r3'.f _ _ e2) (r3'.g _ _ e2 g2)
  have g3 := r4'.g _ _ e3 g3
  have e1 := r4'.f _ _ (r3'.f _ _ (r2'.f _ _ e1))
  have e2 := r4'.f _ _ (r3'.f _ _ e2)
  have e3 := r4'.f _ _ e3
  have f2 : F.k b2 = none := Same.free r1.f f2
  have f3 : F.k b3 = none := Same.free r2.f f3
  have f4 : F.k b4 = none := Same.free r3.f f4
  refine ⟨by show 4 ≤ sizeLine; decide, fun a ha => ?_⟩
  have n1 : H4 a = none := Same.free r4.h ha
  have fa : F.k a = none := Same.free r4.f ha
  have na : ∀ {b : Addr} {u : HO}, H4' b = some u → a ≠ b := fun e z => by rw [z, e] at ha; cases ha
  have na1 := na e1
  have na2 := na e2
  have na3 := na e3
  have na4 := na e4
  -- the outer list beside
  have r5 : SR K F I H4 (upd H4' a (.lst [.ref b1, .ref b2, .ref b3, .ref b4])) σ [Γ0, .un, .un, .un] := (r4.beside ha).1
  have s5 : Same H4' (upd H4' a (.lst [.ref b1, .ref b2, .ref b3, .ref b4])) := (r4.beside ha).2
  show tSeq (tAsg ty (gName 2)) _ D (σ.set 1 (some (V.ref a))) (upd H4' a (.lst [.ref b1, .ref b2, .ref b3, .ref b4]))
  generalize hH5 : upd H4' a (.lst [.ref b1, .ref b2, .ref b3, .ref b4]) = H5 at r5 s5
  have ea : H5 a = some (.lst [.ref b1, .ref b2, .ref b3, .ref b4]) := by rw [← hH5]; exact upd_same
  have rp : (rep4 a b1 b2 b3 b4).rep K H5 (.ref a) (T4.mk x1 x2 x3 x4) := by
    have m : Same H4 H5 := r5.h
    exact ⟨rfl, ea, ⟨b1, v1, rfl, s5 _ _ e1, prd_mono (fun _ _ z => i.mono (((a2.trans a3).trans a4).trans m) z) p1⟩, ⟨b2, v2, rfl, s5 _ _ e2, prd_mono (fun _ _ z => j.mono ((a3.trans a4).trans m) z) p2⟩, ⟨b3, v3, rfl, s5 _ _ e3, prd_mono (fun _ _ z => k.mono (a4.trans m) z) p3⟩, ⟨b4, v4, rfl, s5 _ _ e4, prd_mono (fun _ _ z => l.mono m z) p4⟩⟩
  have hl : 1 < ([Γ0, .un, .un, .un] : List Sl).length := by show 1 < 4; decide
  have rl6 := (r5.lend hp4).set (i := 1) (v := .ref a) (s := .bor (rep4 a b1 b2 b3 b4) (T4.mk x1 x2 x3 x4)) ⟨_, rfl, rp⟩ (fun _ z => z.elim) hl
  refine hy a b1 b2 b3 b4 _ _ _ _ _ rl6 _ fun vy H6 H6' r6 a6 _ c6 => ?_
  have c6 : o.rep K H6 vy y := by simpa using c6
  have r7 := pr_set (n := 2) r6 c6 (by show 2 < 4; decide)
  show tSeq (tFor (iList K (tVar 1)) (gName 3) (tSeq (tDrop (tBM0 K "list" rClear (tVar 3))) tNext)) (tSeq (tRet (tVar 2)) te) D ((σ.set 1 (some (V.ref a))).set 2 (some vy)) H6'
  generalize hσ7 : (σ.set 1 (some (V.ref a))).set 2 (some vy) = σ7 at r7 ⊢
  have hp8 : Plain [.un, .un, pr y, .un] := plain_cons trivial (plain_cons trivial (plain_cons trivial (plain_cons trivial plain_nil)))
  have r8 : SR K F I H6 H6' σ7 [.un, .un, pr y, .un] := r5.back (r7.weak (Γ' := [.un, .un, pr y, .un]) (by show 4 ≤ 4; decide) fun n s e => by
      match n, e with
      | 0, e => exact .inl (Option.some.inj e).symm
      | 1, e => exact .inl (Option.some.inj e).symm
      | 2, e => exact .inr e
      | 3, e => exact .inl (Option.some.inj e).symm) hp8
  have hσ1 : σ7[1]? = some (some (.ref a)) := by
    have hlen : 4 ≤ σ.length := r5.len
    rw [← hσ7, List.getElem?_set_ne (by decide), List.getElem?_set_self (by omega)]
  have w1 : H6 b1 = none := r6.g _ _ (s5 _ _ e1) g1
  have w2 : H6 b2 = none := r6.g _ _ (s5 _ _ e2) g2
  have w3 : H6 b3 = none := r6.g _ _ (s5 _ _ e3) g3
  have w4 : H6 b4 = none := r6.g _ _ (s5 _ _ e4) g4
  have u1 := r6.f _ _ (s5 _ _ e1)
  have u2 := r6.f _ _ (s5 _ _ e2)
  have u3 := r6.f _ _ (s5 _ _ e3)
  have u4 := r6.f _ _ (s5 _ _ e4)
  have ua := r6.f _ _ ea
  have lst_upd : ∀ {X : Hp} {b c : Addr}, (∃ w, X b = some (.lst w)) → ∃ w, (upd X c (.lst [])) b = some (.lst w) := fun {X b c} ⟨w, e⟩ => by
    by_cases h : b = c
    · subst h; exact ⟨[], upd_same⟩
    · exact ⟨w, by rw [upd_ne h]; exact e⟩
  refine ⟨.ref a, hσ1, a, rfl, ⟨_, SqL.of ua⟩, ?_⟩
  refine ⟨fun n k σ' H' => k = 4 - n ∧ n ≤ 4 ∧ SR K F I H6 H' σ' [.un, .un, pr y, .un] ∧ H' a = some (.lst [.ref b1, .ref b2, .ref b3, .ref b4]) ∧ (∃ w, H' b1 = some (.lst w)) ∧ (∃ w, H' b2 = some (.lst w)) ∧ (∃ w, H' b3 = some (.lst w)) ∧ (∃ w, H' b4 = some (.lst w)), ⟨4, rfl, by decide, r8, ua, ⟨_, u1⟩, ⟨_, u2⟩, ⟨_, u3⟩, ⟨_, u4⟩⟩, ?_⟩
  rintro n k σ' H' ⟨rfl, hn, r', ea', l1, l2, l3, l4⟩
  have hlen : 4 ≤ σ'.length := r'.len
  by_cases hn4 : n < 4
  · -- one turn
    have turn : ∀ b : Addr, [V.ref b1, .ref b2, .ref b3, .ref b4][n]? = some (.ref b) → (∃ w, H' b = some (.lst w)) → F.k b = none → H6 b = none → a ≠ b → (Itl K a).go n H' ∧ ∃ N : St → Hp → Prop, (∀ σ2 H2, N σ2 H2 → ∃ k', k' < 4 - n ∧ (k' = 4 - (n + 1) ∧ n + 1 ≤ 4 ∧ SR K F I H6 H2 σ2 [.un, .un, pr y, .un] ∧ H2 a = some (.lst [.ref b1, .ref b2, .ref b3, .ref b4]) ∧ (∃ w, H2 b1 = some (.lst w)) ∧ (∃ w, H2 b2 = some (.lst w)) ∧ (∃ w, H2 b3 = some (.lst w)) ∧ (∃ w, H2 b4 = some (.lst w)))) ∧ ∀ v H2, (Itl K a).yld n H' v H2 → gName 3 v σ' H2 fun σ2 H3 => tSeq (tDrop (tBM0 K "list" rClear (tVar 3))) tNext { D with nx := N, ct := N, bk := tSeq (tRet (tVar 2)) te D } σ2 H3 := by
      rintro b hb ⟨w, hw⟩ hf h6 hab
      refine ⟨⟨_, _, SqL.of ea', hb⟩, fun σ2 H2 => SR K F I H6 H2 σ2 [.un, .un, pr y, .un] ∧ H2 a = some (.lst [.ref b1, .ref b2, .ref b3, .ref b4]) ∧ (∃ w, H2 b1 = some (.lst w)) ∧ (∃ w, H2 b2 = some (.lst w)) ∧ (∃ w, H2 b3 = some (.lst w)) ∧ (∃ w, H2 b4 = some (.lst w)), fun σ2 H2 z => ⟨4 - (n + 1), by omega, rfl, by omega, z⟩, fun v H2 yv => ?_⟩
      obtain ⟨rfl, y2⟩ := yv
      have y3 := y2 _ (SqL.of ea')
      rw [hb] at y3
      cases y3
      refine ⟨.ref b, List.getElem?_set_self (by omega), Or.inl ⟨rfl, w, SqL.of hw⟩, b, w, rfl, rfl, hw, ?_⟩
      have r9 : SR K F I H6 H2 (σ'.set 3 (some (.ref b))) [.un, .un, pr y, .un] := r'.set (i := 3) (v := .ref b) (s := .un) trivial (fun _ z => z.elim) (by show 3 < 4; decide)
      exact ⟨r9.hurt hp8 hf h6, by rw [upd_ne hab]; exact ea', lst_upd l1, lst_upd l2, lst_upd l3, lst_upd l4⟩
    refine .inr ?_
    match n, hn4 with
    | 0, _ => exact turn b1 rfl l1 f1 w1 na1
    | 1, _ => exact turn b2 rfl l2 f2 w2 na2
    | 2, _ => exact turn b3 rfl l3 f3 w3 na3
    | 3, _ => exact turn b4 rfl l4 f4 w4 na4
  · refine .inl ⟨⟨_, SqL.of ea', by show 4 ≤ n; omega⟩, ?_⟩
    obtain ⟨ov, z1, vz, z2, z3⟩ := r'.ok 2 (pr y) rfl
    subst z2
    exact ⟨vz, z1, q vz H6 H' σ' ((((a1.trans a2).trans a3).trans a4).trans a6) (r'.weak (Nat.zero_le _) fun n s e => by simp at e) z3⟩
end
section
variable {K : Kf} {m p : Bool} {ta : TE} {Γ Γ1 : List Sl} {α β γ δ ε : Type} [i : Rp α] [j : Rp β] [k : Rp γ] [l : Rp δ] [o : Rp ε]
theorem e_p5a {x : T5 α β γ δ ε} (h : E K m p ta Γ Γ1 x) : E K m p (tOp (rIxT K) ta (tC (.int 0))) Γ Γ1 x.a := fun F I H0 H σ r Q q => h F I H0 H σ r _ fun v H1 H1' r1 a1 b1 c1 => by
  obtain ⟨a, u1, u2, u3, u4, u5, rfl, hs, e1, e2, e3, e4, e5⟩ := c1
  exact ⟨a, _, 0, u1, rfl, rfl, sel_t r1.h hs, by rfl, q _ H1 H1' r1 a1 b1 e1⟩
theorem e_p5b {x : T5 α β γ δ ε} (h : E K m p ta Γ Γ1 x) : E K m p (tOp (rIxT K) ta (tC (.int 1))) Γ Γ1 x.b := fun F I H0 H σ r Q q => h F I H0 H σ r _ fun v H1 H1' r1 a1 b1 c1 => by
  obtain ⟨a, u1, u2, u3, u4, u5, rfl, hs, e1, e2, e3, e4, e5⟩ := c1
  exact ⟨a, _, 1, u2, rfl, rfl, sel_t r1.h hs, by rfl, q _ H1 H1' r1 a1 b1 e2⟩
theorem e_p5c {x : T5 α β γ δ ε} (h : E K m p ta Γ Γ1 x) : E K m p (tOp (rIxT K) ta (tC (.int 2))) Γ Γ1 x.c := fun F I H0 H σ r Q q => h F I H0 H σ r _ fun v H1 H1' r1 a1 b1 c1 => by
  obtain ⟨a, u1, u2, u3, u4, u5, rfl, hs, e1, e2, e3, e4, e5⟩ := c1
  exact ⟨a, _, 2, u3, rfl, rfl, sel_t r1.h hs, by rfl, q _ H1 H1' r1 a1 b1 e3⟩
theorem e_p5d {x : T5 α β γ δ ε} (h : E K m p ta Γ Γ1 x) : E K m p (tOp (rIxT K) ta (tC (.int 3))) Γ Γ1 x.d := fun F I H0 H σ r Q q => h F I H0 H σ r _ fun v H1 H1' r1 a1 b1 c1 => by
  obtain ⟨a, u1, u2, u3, u4, u5, rfl, hs, e1, e2, e3, e4, e5⟩ := c1
  exact ⟨a, _, 3, u4, rfl, rfl, sel_t r1.h hs, by rfl, q _ H1 H1' r1 a1 b1 e4⟩
theorem e_p5e {x : T5 α β γ δ ε} (h : E K m p ta Γ Γ1 x) : E K m p (tOp (rIxT K) ta (tC (.int 4))) Γ Γ1 x.e := fun F I H0 H σ r Q q => h F I H0 H σ r _ fun v H1 H1' r1 a1 b1 c1 => by
  obtain ⟨a, u1, u2, u3, u4, u5, rfl, hs, e1, e2, e3, e4, e5⟩ := c1
  exact ⟨a, _, 4, u5, rfl, rfl, sel_t r1.h hs, by rfl, q _ H1 H1' r1 a1 b1 e5⟩
end
end FF

set_option Elab.async false
set_option linter.all false
set_option maxRecDepth 100000
set_option maxHeartbeats 2000000
namespace FF
open PySem L2
/-! ### calls by keywords, calls with defaults -/
section
variable {K : Kf} {m m1 p1 : Bool} {ta tk : TA} {te : TE} {Γ Γ1 Γ2 : List Sl} {ι β : Type} [ib : Rp β] {args : ι → List Sl} {pre : ι → Prop} {res : ι → β} {resN : ι → List β} {out : ι → List Sl} {as bs cs ds : List Ar} {po : Rs ι} {dvs : List V} {n k : Nat} {gV : List V → List V → List V}
theorem e_callD (d : ι) (ha : A K m ta Γ Γ1 as) (hd : ∀ H0 H σ, Prd (arOk K H0 H σ) dvs ds) (hm : Mt (as ++ ds) (args d)) (hp : pre d) : E K m true (tCall (spF K args pre res out) dvs E0 ta) Γ Γ1 (res d) := fun F I H0 H σ r Q q =>
  ha F I H0 H σ r _ fun vs H1 H1' r1 a1 b1 c1 =>
    call_core r1 (prd_app c1 (hd _ _ _)) d hp hm fun v H2 H2' _ r2 s0 s1 _ rv => q v H2 H2' r2 (a1.trans s0) (fun z => (b1 z).trans s1) rv
theorem e_callKw (d : ι) (ha : A K m ta Γ Γ1 as) (hb : A K false tk Γ1 Γ2 bs) (hn : as.length = n) (hk : bs.length = k) (har : ∀ H0 H σ us ws, Prd (arOk K H0 H σ) us as → Prd (arOk K H0 H σ) ws bs → Prd (arOk K H0 H σ) (gV us ws) cs) (hm : Mt cs (args d)) (hp : pre d) : E K m true (tCallN n k (spF K args pre res out) gV E0 ta tk) Γ Γ2 (res d) := fun F I H0 H σ r Q q =>
  ha F I H0 H σ r _ fun us H1 H1' r1 a1 b1 c1 => hb F I H1 H1' σ r1 _ fun ws H2 H2' r2 a2 b2 c2 => by
    have c1' : Prd (arOk K H2 H2' σ) us as := prd_mono (fun _ _ z => ar_mono a2 (b2 rfl) z) c1
    refine ⟨(prd_len c1).trans hn, (prd_len c2).trans hk, ?_⟩
    exact call_core r2 (har _ _ _ _ _ c1' c2) d hp hm fun v H3 H3' _ r3 s0 s1 _ rv => q v H3 H3' r3 ((a1.trans a2).trans s0) (fun z => ((b1 z).trans (b2 rfl)).trans s1) rv
theorem newR_end {F : Fm} {I H0 H H2 H2' : Hp} {σ : St} {Γ : List Sl} {xs : List β} {v : V} {σ' : St} {ol : List Sl} (r : SR K F I H0 H σ Γ) (r2 : SR K F I H2 H2' σ Γ) (r3 : SR K ⟨H, H, Same.refl _⟩ H0 H2 H2' σ' ol) {d : ι} (rv : NewR K resN out ⟨H, H, Same.refl _⟩ H2 H2' σ' v d) : ∃ a vs, v = .ref a ∧ F.k a = none ∧ H2 a = none ∧ Fre H2' σ Γ a ∧ H2' a = some (.lst vs) ∧ Prd (ib.rep K H2) vs (resN d) := by
  obtain ⟨a, vs, e, f, g, _, h, p⟩ := rv
  have hHa : H a = none := f
  exact ⟨a, vs, e, Same.free r.f hHa, g, fre_same r r3.f (own_free r hHa), h, p⟩
theorem n_callD (d : ι) (ha : A K m ta Γ Γ1 as) (hd : ∀ H0 H σ, Prd (arOk K H0 H σ) dvs ds) (hm : Mt (as ++ ds) (args d)) (hp : pre d) : EN K m (tCall (spN K args pre resN out) dvs E0 ta) Γ Γ1 (resN d) := fun F I H0 H σ r Q q =>
  ha F I H0 H σ r _ fun vs H1 H1' r1 a1 b1 c1 =>
    call_core r1 (prd_app c1 (hd _ _ _)) d hp hm fun v H2 H2' σ' r2 s0 s1 r3 rv => by
      obtain ⟨a, us, rfl, z1, z2, z3, z4, z5⟩ := newR_end (xs := ([] : List β)) r1 r2 r3 rv
      exact q a us H2 H2' r2 (a1.trans s0) (fun z => (b1 z).trans s1) z1 z2 z3 z4 z5
theorem n_callKw (d : ι) (ha : A K m ta Γ Γ1 as) (hb : A K false tk Γ1 Γ2 bs) (hn : as.length = n) (hk : bs.length = k) (har : ∀ H0 H σ us ws, Prd (arOk K H0 H σ) us as → Prd (arOk K H0 H σ) ws bs → Prd (arOk K H0 H σ) (gV us ws) cs) (hm : Mt cs (args d)) (hp : pre d) : EN K m (tCallN n k (spN K args pre resN out) gV E0 ta tk) Γ Γ2 (resN d) := fun F I H0 H σ r Q q =>
  ha F I H0 H σ r _ fun us H1 H1' r1 a1 b1 c1 => hb F I H1 H1' σ r1 _ fun ws H2 H2' r2 a2 b2 c2 => by
    have c1' : Prd (arOk K H2 H2' σ) us as := prd_mono (fun _ _ z => ar_mono a2 (b2 rfl) z) c1
    refine ⟨(prd_len c1).trans hn, (prd_len c2).trans hk, ?_⟩
    exact call_core r2 (har _ _ _ _ _ c1' c2) d hp hm fun v H3 H3' σ' r3 s0 s1 r4 rv => by
      obtain ⟨a, us, rfl, z1, z2, z3, z4, z5⟩ := newR_end (xs := ([] : List β)) r2 r3 r4 rv
      exact q a us H3 H3' r3 ((a1.trans a2).trans s0) (fun z => ((b1 z).trans (b2 rfl)).trans s1) z1 z2 z3 z4 z5
end
theorem prd_dropU {α : Type u} {β : Type v} {F : α → β → Prop} : ∀ {l₁ : List α} {l₂ : List β} (n : Nat), Prd F l₁ l₂ → Prd F (l₁.drop n) (l₂.drop n)
  | _, _, 0, h => h
  | _, _, n + 1, .nil => .nil
  | _, _, n + 1, .cons _ t => prd_dropU n t
theorem prd_takeU {α : Type u} {β : Type v} {F : α → β → Prop} : ∀ {l₁ : List α} {l₂ : List β} (n : Nat), Prd F l₁ l₂ → Prd F (l₁.take n) (l₂.take n)
  | _, _, 0, _ => .nil
  | _, _, n + 1, .nil => .nil
  | _, _, n + 1, .cons r t => .cons r (prd_takeU n t)
/-- a def that may be called with the last of its arguments left out | with keywords -/
structure ClD (P : Program) (w : World) (K : Kf) (mg : Str → Option Value) (base : Heap) (k : Nat) (x : Str) (dvs : List V) (sp : Sp) : Prop where
  ex : ∃ (f : Addr) (fd : FuncData) (ps : List Str) (ds : List Value), FnOk P w K mg base CX0 k f fd ps sp ∧ mg x = some (.ref f) ∧ PySem.W.keepIn K (.ref f) = true ∧ Binds K fd ps ds ∧ Vals dvs ds
structure ClK (P : Program) (w : World) (K : Kf) (mg : Str → Option Value) (base : Heap) (k : Nat) (x : Str) (n : Nat) (ks : List Str) (gV : List V → List V → List V) (sp : Sp) : Prop where
  ex : ∃ (f : Addr) (fd : FuncData) (ps : List Str) (g : List Value → List Value → List Value), FnOk P w K mg base CX0 k f fd ps sp ∧ mg x = some (.ref f) ∧ PySem.W.keepIn K (.ref f) = true ∧ KBn K fd ps n ks g gV
section
variable {X : Cx} {k j n : Nat} {x : Str} {ks : List Str} {gV : List V → List V → List V} {dvs : List V} {sp : Sp} {p pos : Pos} {e : Expr} {es : List Expr} {kws : List Keyword} {t tk : TA}
theorem pe_clD (c : ClD X.prog X.w X.K X.mg X.base k x dvs sp) (hr : Room j X.A) (hk : k ≤ j) (hg : Gl X x) (ha : PA X (e :: es) t)
    (hdb : (x == ("__debug__" : Str)) = false := by decide) (he : starEach (e :: es) X.env = (false, eval e X.env) :: starEach es X.env := by rfl) (hpl : (backTo pos (starEach es X.env)).any (·.1) = false := by rfl) :
    PE X (.Call (.Name x p) (e :: es) [] pos) (tCall sp dvs E0 t) := by
  obtain ⟨f, fd, ps, ds, F, hm, kp, b, hv⟩ := c.ex
  exact pe_call F (hr.mono hk) hg hm kp b hv pass0 ha hdb he hpl
theorem pe_clK (c : ClK X.prog X.w X.K X.mg X.base k x n ks gV sp) (hr : Room j X.A) (hj : k ≤ j) (hg : Gl X x) (ha : PA X (e :: es) t) (hkw : PK X kws tk)
    (hall : (backToKw pos (keywordEach kws X.env)).all (·.1.isSome) = true := by rfl) (hks : (backToKw pos (keywordEach kws X.env)).filterMap (·.1) = ks := by rfl) (hdb : (x == ("__debug__" : Str)) = false := by decide)
    (he : starEach (e :: es) X.env = (false, eval e X.env) :: starEach es X.env := by rfl) (hpl : ((backTo pos (starEach (e :: es) X.env)).any (·.1) || (backToKw pos (keywordEach kws X.env)).any (·.1.isNone)) = false := by rfl) :
    PE X (.Call (.Name x p) (e :: es) kws pos) (tCallN n ks.length sp gV E0 t tk) := by
  obtain ⟨f, fd, ps, g, F, hm, kp, hb⟩ := c.ex
  exact pe_callN F (hr.mono hj) hg hm kp hb pass0 ha hkw hall hks hdb he hpl
end
theorem FunD.kbinds1 {K : PySem.W.Frag} {x qual : Str} {params : Arguments} {body : List Stmt} {scope : Scope} {dvs : List V} {f : Addr} {fd : FuncData} {ps : List Str} (F : FunD K x qual params body scope dvs [] f fd) (n : Nat) (ks : List Str) (g : {α : Type} → List α → List α → List α → List α) (hd : dvs ≠ [])
    (hrel : ∀ {vs ds zs : List V} {us its ws : List Value}, Vals vs us → Vals ds its → Vals zs ws → Vals (g vs ds zs) (g us its ws))
    (h : ∀ (T : Addr) (kV doc pm : Value) (an : Option Addr) (cdv ct : Value) (us its ws : List Value), us.length = n → its.length = dvs.length → ws.length = ks.length →
      ∃ k, bindArgs (PySem.W.fnOf x qual params body scope (.ref T) kV doc pm an cdv ct) ⟨us, ks.zip ws⟩ = seqItems? (.ref T) >>= k ∧ k (some its.toArray) = pure (ps.zip (g us its ws))) :
    ∃ its : List Value, KBn K fd ps n ks (fun us ws => g us its ws) (fun vs zs => g vs dvs zs) := by
  obtain ⟨oc, od, dV, kV, doc, pm, an, cdv, ct, osl, rfl, lk, hcd, hD, hK⟩ := F.ex
  rcases hD with ⟨e, _⟩ | ⟨_, T, o, its, m, rfl, lT, oT, rT⟩
  · exact absurd e hd
  · refine ⟨its, ⟨fun s us ws X l1 l2 => ?_, fun r1 r2 => hrel r1 rT r2⟩⟩
    obtain ⟨k, e1, e2⟩ := h T kV doc pm an cdv ct us its ws l1 rT.length.symm l2
    refine BindsTo.of_looks fun M => ?_
    rw [e1]
    exact looks_items X lT oT (.of_pure e2)
theorem vals_one {vs : List V} {us : List Value} (r : Vals vs us) (i : Nat) : Vals ((vs.drop i).take 1) ((us.drop i).take 1) := (r.drop i).take 1
/-- A DEF BY ITS BODY, with defaults -/
theorem fn_bodyD {P : Program} {w : World} {K : Kf} {mg : Str → Option Value} {base : Heap} {ι ρ : Type} {x qual : Str} {st : Stmt} {dvs : List V} {f : Addr} {fd : FuncData} {N ps : List Str} {k : Nat} {args : ι → List Sl} {pre : ι → Prop} {out : ι → List Sl} {po : Rs ι} (rp : ι → Rs ρ) (rg : ι → ρ → List Sl) (r : ι → ρ)
    (Fd : FunD K x qual (defArgs st) (defBody st) (defScope st) dvs [] f fd) (S : FnScope N ps (defScope st)) (hl : ∀ d, (args d).length = ps.length) (hout : ∀ d, out d = rg d (r d)) (hpo : ∀ F H0 H σ v d, rp d F H0 H σ v (r d) → po F H0 H σ v d)
    (hb : ∀ (cdv : Value) (A : Around) (outer : List Env) (s : Shared) (H : Hp) (E : XK), Room k (A.deeper (PyProof.Rows.envOfC qual (defScope st) s.heap.objs.size f cdv)) →
      ∃ t, PSs (cxOf CX0 P w K mg base N qual (defScope st) f cdv A outer s H E).nox (defBody st) t ∧ ∀ d, pre d → R K t (args d ++ List.replicate (N.length - ps.length) .un) (rp d) (rg d) (r d)) :
    FnOk P w K mg base CX0 (k + 1) f fd ps (spG K args pre out po) := by
  refine Fd.ok (CX := CX0) S (fun vs H Q E h => ?_) fun cdv A outer s H vs Q E hr h => ?_
  · obtain ⟨d, F, I, e, _⟩ := h
    exact e.trans (hl d)
  obtain ⟨d, F, I, e, hp, r0, q⟩ := h
  obtain ⟨t, h1, h2⟩ := hb cdv A outer s H E hr
  refine ⟨t, h1.nox, ?_⟩
  have e1 : vs.length = ps.length := e.trans (hl d)
  have r1 : SR K F I I H (L2.start N vs) (args d ++ List.replicate (N.length - ps.length) .un) := by
    unfold L2.start
    rw [e1]
    exact sr_start r0 e _
  refine h2 d hp F I I H _ _ r1 (fun v H0' H' σ' s1 r2 rv2 => ?_) (fun H0' H' σ' s1 r2 rv2 => ?_)
  · exact q v H0' H' σ' s1 (by rw [hout]; exact r2) (hpo _ _ _ _ _ _ rv2)
  · exact q .non H0' H' σ' s1 (by rw [hout]; exact r2) (hpo _ _ _ _ _ _ rv2)
/-! ### while -/
def whileL {S : Type} (c : S → Bool) (f : S → S) : Nat → S → S
  | 0, s => s
  | n + 1, s => if c s = true then whileL c f n (f s) else s
theorem while_stop {S : Type} {c : S → Bool} {f : S → S} {s : S} (h : c s = false) : ∀ n, whileL c f n s = s
  | 0 => rfl
  | n + 1 => by unfold whileL; rw [if_neg (by rw [h]; decide)]
section
variable {K : Kf} {S : Type} {m : Bool} {tc : TT} {tb : TS} {Γ : List Sl}
theorem g_while {c : S → Bool} {f : S → S} {s0 : S} {n : Nat} (Γs : S → List Sl) (Inv : S → Prop) (μ : S → Nat) (w : Wk Γ (Γs s0)) (h0 : Inv s0) (hμ : μ s0 ≤ n) (hz : ∀ s, Inv s → μ s = 0 → c s = false)
    (ht : ∀ s, Inv s → Tt K m tc (Γs s) (Γs s) (c s)) (hb : ∀ s, Inv s → c s = true → GP K tb (Γs s) Γs (fun s' => Inv s' ∧ μ s' < μ s) (f s)) :
    Go K (tWhile tc tb) Γ (Γs (whileL c f n s0)) ∧ Inv (whileL c f n s0) := by
  have inv : ∀ k s, Inv s → Inv (whileL c f k s) := by
    intro k
    induction k with
    | zero => intro s h; exact h
    | succ k ih =>
      intro s h
      unfold whileL
      split
      · rename_i hc
        exact ih _ (hb s h hc).2.1
      · exact h
  refine ⟨fun F I H0 H σ D r q => ?_, inv n s0 h0⟩
  refine ⟨fun mm σ' H' => ∃ H0' s k, mm = μ s ∧ Same H0 H0' ∧ SR K F I H0' H' σ' (Γs s) ∧ Inv s ∧ μ s ≤ k ∧ whileL c f n s0 = whileL c f k s, ⟨_, H0, s0, n, rfl, Same.refl _, wk_sr r w, h0, hμ, rfl⟩, ?_⟩
  rintro mm σ' H' ⟨H0', s, k, rfl, s1, r1, hI, hk, e⟩
  refine ht s hI F I H0' H' σ' r1 _ fun H2 H2' r2 a2 b2 => ?_
  cases hc : c s with
  | false =>
    rw [if_neg (by decide)]
    rw [while_stop hc] at e
    rw [e] at q
    exact q H2 H2' σ' (s1.trans a2) r2
  | true =>
    rw [if_pos rfl]
    have hpos : μ s ≠ 0 := fun z => by have := hz s hI z; rw [hc] at this; cases this
    obtain ⟨k', rfl⟩ : ∃ k', k = k' + 1 := ⟨k - 1, by omega⟩
    obtain ⟨g1, g2, g3⟩ := hb s hI hc
    refine ⟨fun σ3 H3 => ∃ H0'', Same H0 H0'' ∧ SR K F I H0'' H3 σ3 (Γs (f s)), fun σ3 H3 ⟨H0'', z1, z2⟩ => ⟨μ (f s), g3, H0'', f s, k', rfl, z1, z2, g2, by omega, ?_⟩, ?_⟩
    · rw [e]
      conv => lhs; unfold whileL
      rw [if_pos hc]
    · exact g1 F I H2 H2' σ' _ r2 fun H3 H3' σ3 a3 r3 => ⟨H3, (s1.trans a2).trans a3, r3⟩
end
/-! ### reversed -/
theorem prd_getrev {α : Type} {R : V → α → Prop} {vs : List V} {xs : List α} (hp : Prd R vs xs) {n : Nat} {x : α} (h : xs.reverse[n]? = some x) : ∃ v, vs[xs.length - 1 - n]? = some v ∧ R v x := by
  have hl := (List.getElem?_eq_some_iff.mp h).1
  rw [List.length_reverse] at hl
  rw [List.getElem?_reverse hl] at h
  exact prd_get hp h
end FF

set_option Elab.async false
set_option linter.all false
set_option maxRecDepth 100000
set_option maxHeartbeats 2000000
namespace FF
open PySem L2
/-- a comprehension whose test changes a state, too -/
def compT {S α γ : Type} (t : S → α → Bool × S) (e : S → α → γ × S) : S → List α → List γ × S
  | s, [] => ([], s)
  | s, x :: xs => if (t s x).1 = true then ((e (t s x).2 x).1 :: (compT t e (e (t s x).2 x).2 xs).1, (compT t e (e (t s x).2 x).2 xs).2) else compT t e (t s x).2 xs
theorem compT_snoc {S α γ : Type} {t : S → α → Bool × S} {e : S → α → γ × S} {x : α} : ∀ {s : S} {xs : List α}, compT t e s (xs ++ [x]) =
    if (t (compT t e s xs).2 x).1 = true then ((compT t e s xs).1 ++ [(e (t (compT t e s xs).2 x).2 x).1], (e (t (compT t e s xs).2 x).2 x).2) else ((compT t e s xs).1, (t (compT t e s xs).2 x).2)
  | s, [] => by
    show (if (t s x).1 = true then _ else _) = _
    rfl
  | s, y :: ys => by
    by_cases h : (t s y).1 = true
    · have e1 : ∀ zs, compT t e s (y :: zs) = ((e (t s y).2 y).1 :: (compT t e (e (t s y).2 y).2 zs).1, (compT t e (e (t s y).2 y).2 zs).2) := fun zs => by
        show (if (t s y).1 = true then _ else _) = _
        rw [if_pos h]
      rw [List.cons_append, e1, e1, compT_snoc (s := (e (t s y).2 y).2) (xs := ys)]
      dsimp only
      by_cases h2 : (t (compT t e (e (t s y).2 y).2 ys).2 x).1 = true
      · rw [if_pos h2, if_pos h2]; rfl
      · rw [if_neg h2, if_neg h2]
    · have e1 : ∀ zs, compT t e s (y :: zs) = compT t e (t s y).2 zs := fun zs => by
        show (if (t s y).1 = true then _ else _) = _
        rw [if_neg h]
      rw [List.cons_append, e1, e1, compT_snoc (s := (t s y).2) (xs := ys)]
theorem compT_len {S α γ : Type} {t : S → α → Bool × S} {e : S → α → γ × S} : ∀ {s : S} {xs : List α}, (compT t e s xs).1.length ≤ xs.length
  | s, [] => Nat.le_refl _
  | s, x :: xs => by
    show (if (t s x).1 = true then _ else _ : List γ × S).1.length ≤ _
    by_cases h : (t s x).1 = true
    · rw [if_pos h]
      have := compT_len (t := t) (e := e) (s := (e (t s x).2 x).2) (xs := xs)
      simp only [List.length_cons]
      omega
    · rw [if_neg h]
      have := compT_len (t := t) (e := e) (s := (t s x).2) (xs := xs)
      simp only [List.length_cons]
      omega
section
variable {K : Kf} {S : Type} {o m m2 m3 : Bool} {wi : TI} {g : TG} {tt : TT} {te : TE} {Γ Γ1 : List Sl} {vs : List Nat}
theorem n_lcT {α γ : Type} {i : Rp α} [j : Rp γ] {xs : List α} {s0 : S} {t : S → α → Bool × S} {e : S → α → γ × S} (Γs : S → List Sl) (Γt : S → α → List Sl) (Γu : S → α → List Sl) (Γe : S → α → List Sl) (Inv : Nat → S → Prop) (hw : Wlk K o m wi Γ Γ1 i xs) (w : Wk Γ1 (Γs s0)) (hf : ∀ s, Free vs (Γs s)) (h0 : Inv 0 s0) (hz : xs.length ≤ 100000)
    (hg : ∀ s x, TgC K o g i x (Γs s) (Γt s x) vs) (ht : ∀ (n : Nat) s x, xs[n]? = some x → Inv n s → Tt K m3 tt (Γt s x) (Γu (t s x).2 x) (t s x).1)
    (he : ∀ (n : Nat) s x, xs[n]? = some x → Inv n s → (t s x).1 = true → E K m2 true te (Γu (t s x).2 x) (Γe (t s x).2 x) (e (t s x).2 x).1) (hk : ∀ s x, Wk (Γe s x) (Γs (e s x).2)) (hk' : ∀ s x, Wk (Γu s x) (Γs s))
    (hi : ∀ (n : Nat) s x, xs[n]? = some x → Inv n s → ((t s x).1 = true → Inv (n + 1) (e (t s x).2 x).2) ∧ ((t s x).1 = false → Inv (n + 1) (t s x).2)) :
    EN K true (tLc wi g tt te vs) Γ (Γs (compT t e s0 xs).2) (compT t e s0 xs).1 ∧ Inv xs.length (compT t e s0 xs).2 := by
  have inv : ∀ n, n ≤ xs.length → Inv n (compT t e s0 (xs.take n)).2 := by
    intro n
    induction n with
    | zero => intro _; exact h0
    | succ n ih =>
      intro hn
      have hx : xs[n]? = some xs[n] := List.getElem?_eq_getElem (by omega)
      rw [take_succ hx, compT_snoc]
      have h1 := hi n _ _ hx (ih (by omega))
      by_cases c : (t (compT t e s0 (xs.take n)).2 xs[n]).1 = true
      · rw [if_pos c]; exact h1.1 c
      · rw [if_neg c]; exact h1.2 (by simpa using c)
  refine ⟨fun F I H0 H σ r Q q => ?_, by have h := inv xs.length (Nat.le_refl _); rwa [List.take_length] at h⟩
  refine hw F I H0 H σ r _ fun J H1 H1' r1 a1 b1 turn => fun D hD => ?_
  have hFD : F.k D = none := Same.free r1.f hD
  have h0D : H1 D = none := Same.free r1.h hD
  have hID : I D = none := Same.free r1.i h0D
  refine ⟨fun n k H' => k = xs.length - n ∧ n ≤ xs.length ∧ ∃ H0' ws, Same H1 H0' ∧ SR K F I H0' H' σ (Γs (compT t e s0 (xs.take n)).2) ∧ True ∧ H0' D = none ∧ Fre H' σ (Γs (compT t e s0 (xs.take n)).2) D ∧ H' D = some (.lst ws) ∧ Prd (j.rep K H0') ws (compT t e s0 (xs.take n)).1, ⟨xs.length, by simp, Nat.zero_le _, H1, [], Same.refl _, ?_⟩, ?_⟩
  · obtain ⟨r2, s1, z1, z2, z3⟩ := (wk_sr r1 w).fresh (vs := []) hD
    exact ⟨r2, trivial, z2, z3, upd_same, .nil⟩
  rintro n k H' ⟨rfl, hn, H0', ws, s0', r', hm, hD0, hDn, hDl, hp⟩
  obtain ⟨t1, t2⟩ := turn n H0' H' s0' r'.h r'.f hn
  by_cases hl : n < xs.length
  · have hx : xs[n]? = some xs[n] := List.getElem?_eq_getElem hl
    obtain ⟨t3, t4⟩ := t2 _ hx
    generalize es : (compT t e s0 (xs.take n)).2 = s at r' hDn
    have hI : Inv n s := by rw [← es]; exact inv n hn
    refine .inr ⟨t3, fun H2 => ∃ H0'' us, Same H1 H0'' ∧ SR K F I H0'' H2 σ (Γs (compT t e s0 (xs.take (n + 1))).2) ∧ True ∧ H0'' D = none ∧ Fre H2 σ (Γs (compT t e s0 (xs.take (n + 1))).2) D ∧ H2 D = some (.lst us) ∧ Prd (j.rep K H0'') us (compT t e s0 (xs.take (n + 1))).1,
      fun H2 ⟨H0'', us, z⟩ => ⟨xs.length - (n + 1), by omega, rfl, by omega, H0'', us, z⟩, fun v H2 y => ?_⟩
    obtain ⟨H0n, sn, rg, y2, sh⟩ := (t4 v H2 y).step ((r'.guard hFD hD0 hDn hDl).wiped (hf s))
    have s0' := s0'.trans sn
    have hp := prd_mono (fun _ _ z => j.mono sn z) hp
    refine hg s _ _ I H0n H2 (wipe σ vs) v rg y2 _ fun σ2 r2 hw2 => ⟨?_, ?_⟩
    · rw [hw2]
      exact wipe_ext (wipe_length _ _) fun l hl => wipe_get hl
    have back : ∀ {l : Nat}, l ∉ vs → σ2[l]? = σ[l]? := fun {l} hl => by
      have := wipe_back hw2 hl
      rw [this, wipe_get hl]
    have home : ∀ {G : Fm} {A B : Hp} {Δ : List Sl} {s' : S}, SR K G I A B σ2 Δ → Wk Δ (Γs s') → SR K G I A B σ (Γs s') := fun {G A B Δ s'} z wz => by
      have hle : (Γs s').length ≤ σ.length := by
        have h1 := (wk_sr z wz).len
        have h2 : σ2.length = σ.length := by
          have := congrArg List.length hw2
          rw [wipe_length, wipe_length, wipe_length] at this
          exact this
        omega
      refine (wk_sr z wz).sets hle fun l t' el => ?_
      by_cases hv : l ∈ vs
      · exact .inl (hf s' l hv t' el)
      · exact .inr ⟨el, (back hv).symm⟩
    refine ht n s _ hx hI _ I H0n H2 σ2 r2 _ fun H3 H3' r3 a3 b3 => ?_
    rw [take_succ hx, compT_snoc, es]
    cases c : (t s xs[n]).1 with
    | true =>
      rw [if_pos rfl, if_pos rfl]
      refine he n s _ hx hI c _ I H3 H3' σ2 r3 _ fun u H4 H4' r4 a4 b4 c4 => ?_
      obtain ⟨r5, d1, d2, d3⟩ := (home r4 (hk _ _)).unguard hID
      refine ⟨ws, d2, ?_, H4, ws ++ [u], (s0'.trans a3).trans a4, (r5.aside hFD d1 d3 d2).1, trivial, d1, (r5.aside hFD d1 d3 d2).2, upd_same, prd_app (prd_mono (fun _ _ z => j.mono (a3.trans a4) z) hp) (.cons (by simpa using c4) .nil)⟩
      · rw [prd_len hp]
        have h1 := compT_len (t := t) (e := e) (s := s0) (xs := xs.take n)
        rw [List.length_take] at h1
        exact Nat.lt_of_lt_of_le (show _ < 100000 by omega) (by decide)
    | false =>
      rw [if_neg (by decide), if_neg (by decide)]
      have r4 : SR K (F.plus D (.lst ws) hFD) I H3 H3' σ (Γs (t s xs[n]).2) := home r3 (hk' _ _)
      obtain ⟨r5, d1, d2, d3⟩ := r4.unguard hID
      refine ⟨H3, ws, s0'.trans a3, ?_, trivial, d1, ?_, d2, prd_mono (fun _ _ z => j.mono a3 z) hp⟩
      · exact r5
      · exact d3
  · have e' : n = xs.length := by omega
    subst e'
    rw [List.take_length] at r' hDn hp
    exact .inl ⟨t1 rfl, q D ws H0' H' r' (a1.trans s0') (fun z => nomatch z) hFD hD0 hDn hDl hp⟩
end
end FF
namespace FF
open PySem L2
theorem tt_bnd {K : Kf} {m : Bool} {tt : TT} {Γ : List Sl} {τ S : Type} {x : τ} {f : τ → Bool × S} {G : S → List Sl} (h : ∀ y, y = x → Tt K m tt Γ (G (f y).2) (f y).1) : Tt K m tt Γ (G (bnd x f).2) (bnd x f).1 := h x rfl
end FF

set_option Elab.async false
set_option linter.all false
set_option maxRecDepth 100000
set_option maxHeartbeats 2000000
namespace FF
open PySem L2
/-! ### list(range(..)), reversed(range(..)) -/
theorem prd_ints {K : Kf} {H : Hp} {α : Type} (f : α → Int) : ∀ xs : List α, Prd ((inferInstance : Rp Int).rep K H) (xs.map fun i => V.int (f i)) (xs.map f)
  | [] => .nil
  | x :: xs => .cons rfl (prd_ints f xs)
theorem prd_rg {K : Kf} {H : Hp} (a b : Int) : Prd ((inferInstance : Rp Int).rep K H) (rgV a b) (rng a b) := prd_ints (fun i : Nat => a + (i : Int)) _
section
variable {K : Kf} {m m1 m2 p p1 p2 : Bool} {ta tb : TE} {Γ Γ1 Γ2 : List Sl}
theorem n_listRg1 {n : Int} (h : E K m p ta Γ Γ1 n) (hz : -100000 ≤ n ∧ n ≤ 100000) : EN K m (tLstRg (tRg1 ta)) Γ Γ1 (rng 0 n) := fun F I H0 H σ r Q q =>
  h.sc F I H0 H σ r _ fun v H1 H1' r1 a1 b1 c1 => by
    refine ⟨n, c1, ⟨by omega, by omega, by omega, by omega, by omega⟩, fun l hl => ?_⟩
    obtain ⟨r2, s1, z1, z2, z3⟩ := r1.fresh (vs := rgV 0 n) hl
    exact q _ _ _ _ r2 a1 (fun z => (b1 z).trans s1) z1 z2 z3 upd_same (prd_rg 0 n)
theorem n_listRg2 {a n : Int} (h : E K m1 p1 ta Γ Γ1 a) (h2 : E K m2 p2 tb Γ1 Γ2 n) (hz : -100000 ≤ a ∧ a ≤ 100000 ∧ -100000 ≤ n ∧ n ≤ 100000) : EN K (m1 || m2) (tLstRg (tRg2 ta tb)) Γ Γ2 (rng a n) := fun F I H0 H σ r Q q =>
  h.sc F I H0 H σ r _ fun v H1 H1' r1 a1 b1 c1 => h2.sc F I H1 H1' σ r1 _ fun w H2 H2' r2 a2 b2 c2 => by
    refine ⟨a, n, c1, c2, ⟨by omega, by omega, by omega, by omega, by omega⟩, fun l hl => ?_⟩
    obtain ⟨r3, s1, z1, z2, z3⟩ := r2.fresh (vs := rgV a n) hl
    exact q _ _ _ _ r3 (a1.trans a2) (fun z => (same_mm b1 b2 z).trans s1) z1 z2 z3 upd_same (prd_rg a n)
theorem rev_rng {a n x : Int} {k : Nat} (h : (rng a n).reverse[k]? = some x) : k < (n - a).toNat ∧ x = a + (((n - a).toNat : Nat) : Int) - 1 + (k : Int) * (-1) := by
  have hl := (List.getElem?_eq_some_iff.mp h).1
  rw [List.length_reverse, rng_len] at hl
  rw [List.getElem?_reverse (by rw [rng_len]; exact hl), rng_len, rng_get (by omega)] at h
  cases h
  exact ⟨hl, by omega⟩
theorem w_revR1 {n : Int} (h : E K m p ta Γ Γ1 n) (hz : -(2 ^ 62) ≤ n ∧ n < 2 ^ 62) : Wlk K true m (iRevR (tRg1 ta)) Γ Γ1 (inferInstance : Rp Int) (rng 0 n).reverse := fun F I H0 H σ r R q =>
  h.sc F I H0 H σ r _ fun v H1 H1' r1 a1 b1 c1 => by
    refine ⟨n, c1, by decide, by decide, hz.1, hz.2, q _ H1 H1' r1 a1 b1 fun k H2 H2' s2 s3 _ hk => ?_⟩
    rw [List.length_reverse, rng_len] at hk
    refine ⟨fun e => by show (n - 0).toNat ≤ k; rw [e, List.length_reverse, rng_len]; omega, fun x hx => ?_⟩
    obtain ⟨e1, e2⟩ := rev_rng hx
    exact ⟨e1, fun v H3 y => yl_in ⟨y.1, y.2.trans (congrArg V.int e2.symm)⟩⟩
end
end FF

set_option Elab.async false
set_option linter.all false
set_option maxRecDepth 100000
set_option maxHeartbeats 2000000
namespace FF
open PySem L2
/-! ### x += e -/
section
variable {K : Kf} {m p : Bool} {te : TE} {Γ Γ1 : List Sl}
theorem g_aug {f : Int → Int → Int} {x y : Int} {n : Nat} (hn : Γ[n]? = some (.per inferInstance x)) (h : E K m p te Γ Γ1 y) (hl : n < Γ1.length := by exact Nat.le_of_ble_eq_true rfl) : Go K (tAug n te (ipI f)) Γ (Γ1.set n (pr (f x y))) := fun F I H0 H σ D r q => by
  obtain ⟨ov, e1, v, e2, e3⟩ := r.ok n _ hn
  subst e2
  cases (show v = V.int x from e3)
  refine ⟨.int x, e1, h.sc F I H0 H σ r _ fun w H1 H1' r1 a1 b1 c1 => ?_⟩
  cases (show w = V.int y from c1)
  exact ⟨x, y, rfl, rfl, q H1 H1' _ a1 (pr_set r1 rfl hl)⟩
end
end FF

set_option Elab.async false
set_option linter.all false
set_option maxRecDepth 100000
set_option maxHeartbeats 2000000
namespace FF
open PySem L2
/-! ### texts -/
/-- the signs of a text, each a text -/
def signs (z : PySem.Str) : List PySem.Str := z.cps.toList.map fun c => ⟨#[c]⟩
theorem signs_len (z : PySem.Str) : (signs z).length = z.length := by
  unfold signs
  rw [List.length_map, Array.length_toList]
  rfl
section
variable {K : Kf} {m m1 m2 p p1 p2 : Bool} {te ta tb : TE} {Γ Γ1 Γ2 : List Sl}
theorem w_str {z : PySem.Str} (h : E K m p te Γ Γ1 z) : Wlk K true m (iStr te) Γ Γ1 (inferInstance : Rp PySem.Str) (signs z) := fun F I H0 H σ r R q =>
  h.sc F I H0 H σ r _ fun v H1 H1' r1 a1 b1 c1 => by
    refine ⟨z, c1, q (Its z) H1 H1' r1 a1 b1 fun n H2 H2' s2 s3 _ hn => ?_⟩
    unfold signs at hn ⊢
    rw [List.length_map] at hn
    refine ⟨fun e => by rw [List.length_map] at e; show z.cps.size ≤ n; rw [e, Array.length_toList]; exact Nat.le_refl _, fun x hx => ?_⟩
    rw [List.getElem?_map] at hx
    cases e : z.cps.toList[n]? with
    | none => rw [e] at hx; cases hx
    | some c =>
      rw [e] at hx
      cases hx
      have hl : n < z.cps.size := by
        have := (List.getElem?_eq_some_iff.mp e).1
        rwa [Array.length_toList] at this
      refine ⟨hl, fun v H3 y => yl_in ⟨y.1, ?_⟩⟩
      obtain ⟨c', e2, e3⟩ := y.2
      rw [← Array.getElem?_toList, e] at e2
      cases e2
      exact e3
theorem e_lenStr {z : PySem.Str} (h : E K m p ta Γ Γ1 z) (hz : z.length ≤ 100000) : E K m true (tCB (fun xs H Q => ∃ z, xs = [.str z] ∧ z.length ≤ sizeLine ∧ Q (.int z.length) H) (tCons ta tNil)) Γ Γ1 ((z.length : Nat) : Int) := fun F I H0 H σ r Q q =>
  h.sc F I H0 H σ r _ fun v H1 H1' r1 a1 b1 c1 => by
    cases (show v = V.str z from c1)
    exact ⟨z, rfl, Nat.le_trans hz (by decide), q _ H1 H1' r1 a1 b1 rfl⟩
theorem str_eqV {x y : PySem.Str} : eqV (.str y) (.str x) = decide (x = y) := by
  show (y == x) = _
  by_cases h : x = y
  · subst h; simp
  · have h' : ¬ y = x := fun e => h e.symm
    rw [decide_eq_false h]
    simpa using h'
/-- x in (a, b), texts -/
theorem e_inPS {x : PySem.Str} {y : PySem.Str × PySem.Str} (ha : E K m1 p1 ta Γ Γ1 x) (hb : E K m2 true tb Γ1 Γ2 y) : E K (m1 || m2) true (tOp (rIn K false) ta tb) Γ Γ2 (decide (x ∈ [y.1, y.2])) := fun F I H0 H σ r Q q =>
  ha.sc F I H0 H σ r _ fun v H1 H1' r1 a1 b1 c1 => hb F I H1 H1' σ r1 _ fun w H2 H2' r2 a2 b2 c2 => by
    cases (show v = V.str x from c1)
    obtain ⟨a, u1, u2, rfl, hs, h1, h2⟩ := c2
    cases (show u1 = V.str y.1 from h1)
    cases (show u2 = V.str y.2 from h2)
    refine ⟨a, _, rfl, .inr (same_t r2.h hs), rfl, rfl, q _ H2 H2' r2 (a1.trans a2) (same_mm b1 b2) (congrArg V.bl ?_)⟩
    show (if false = true then _ else inV (.str x) [.str y.1, .str y.2]) = _
    rw [if_neg (by decide)]
    show (eqV (.str y.1) (.str x) || (eqV (.str y.2) (.str x) || false)) = _
    rw [str_eqV, str_eqV, Bool.or_false]
    by_cases e1 : x = y.1
    · simp [e1]
    · by_cases e2 : x = y.2
      · simp [e2]
      · simp [e1, e2]
/-- an item of a pair, by a number -/
theorem e_ixPv {α : Type} [i : Rp α] [Inhabited α] {x : α × α} {k : Int} (ha : E K m1 true ta Γ Γ1 x) (hb : E K m2 p2 tb Γ1 Γ2 k) (h : -(([x.1, x.2] : List α).length : Int) ≤ k ∧ k < ([x.1, x.2] : List α).length) : E K (m1 || m2) true (tOp (rIxT K) ta tb) Γ Γ2 (gi [x.1, x.2] k) := fun F I H0 H σ r Q q =>
  ha F I H0 H σ r _ fun v H1 H1' r1 a1 b1 c1 => hb.sc F I H1 H1' σ r1 _ fun w H2 H2' r2 a2 b2 c2 => by
    obtain ⟨a, u1, u2, rfl, hs, h1, h2⟩ := c1
    cases (show w = V.int k from c2)
    have hp : Prd (i.rep K H1) [u1, u2] [x.1, x.2] := .cons h1 (.cons h2 .nil)
    obtain ⟨u, e1, e2⟩ := gi_at hp h
    exact ⟨a, _, k, u, rfl, rfl, same_t (a2.trans r2.h) hs, e1, q u H2 H2' r2 (a1.trans a2) (same_mm b1 b2) (i.mono a2 e2)⟩
end
theorem in_room {k : Nat} {A : Around} (hr : Room k A) : A.units + 65 < cLine := by have := hr.un; omega
theorem idx_lt {α : Type} {xs : List α} {n : Nat} {x : α} (h : xs[n]? = some x) : n < xs.length := (List.getElem?_eq_some_iff.mp h).1
section
variable {K : Kf} {m1 m2 p2 : Bool} {ta tb : TE} {Γ Γ1 Γ2 : List Sl} {α : Type} [i : Rp α]
theorem e_inDq [d : Dt α] [DecidableEq α] {x : α} {ys : List α} {q : Decidable (x ∈ ys)} (ha : E K m1 true ta Γ Γ1 x) (hb : E K m2 p2 tb Γ1 Γ2 ys) (hx : d.ok x) (hy : ∀ y ∈ ys, d.ok y) (hn : d.n + 1 ≤ 60 := by exact Nat.le_of_ble_eq_true rfl) : E K (m1 || m2) true (tOp (rInD K) ta tb) Γ Γ2 (@decide (x ∈ ys) q) := by
  have h := e_inD ha hb hx hy hn
  rw [decide_eq_decide.mpr (Iff.rfl : x ∈ ys ↔ x ∈ ys)] at h
  exact h
theorem e_ninDq [d : Dt α] [DecidableEq α] {x : α} {ys : List α} {q : Decidable (x ∈ ys)} (ha : E K m1 true ta Γ Γ1 x) (hb : E K m2 p2 tb Γ1 Γ2 ys) (hx : d.ok x) (hy : ∀ y ∈ ys, d.ok y) (hn : d.n + 1 ≤ 60 := by exact Nat.le_of_ble_eq_true rfl) : E K (m1 || m2) true (tOp (rNotInD K) ta tb) Γ Γ2 (!(@decide (x ∈ ys) q)) := by
  have h := e_ninD ha hb hx hy hn
  rw [decide_eq_decide.mpr (Iff.rfl : x ∈ ys ↔ x ∈ ys)] at h
  exact h
end
end FF

set_option Elab.async false
set_option linter.all false
set_option maxRecDepth 100000
set_option maxHeartbeats 2000000
/-! A set of up to 76 tuples of ints: a search among them (the library's ends at 63). -/
namespace FF
open PySem L2 PySem.Spec PyProof.Rows
section
variable {P : Program} {w : World} {A : Around} {E : Value → Shared → Prop} {s : Shared} {a : Addr} {L : List (Addr × List Int)} {es : Array (Int × Value)} {ep : Nat} {t : SetTable}
structure PT (P : Program) (w : World) (h : Heap) (a : Addr) (L : List (Addr × List Int)) (es : Array (Int × Value)) (ep : Nat) (t : SetTable) : Prop where
  o : ∃ o, h.get? a = some o ∧ o.ExactSet ∧ o.data = .set es ep t
  r : es.toList = rowsOf P w L
  tb : TabOk t (L.map fun q => thash P w q.2)
  n : (L.map Prod.snd).Nodup
  tu : ∀ q ∈ L, IsT P w h q.2 q.1
  pl : t.plain = true
  ld : w.params.followText "set-order" = true ∨ t.led = true
  rm : L.length * 5 < t.mask * 3
theorem PT.of (R : SetTR P w s.heap a L es ep t) : PT P w s.heap a L es ep t := ⟨R.ob, R.rows, R.tab, R.nd, R.tup, R.plain, R.led, R.room⟩
theorem PT.to (R : PT P w s.heap a L es ep t) (h : L.length < 64) : SetTR P w s.heap a L es ep t := ⟨R.o, R.r, R.tb, R.n, R.tu, R.pl, R.ld, R.rm, h⟩
theorem PT.sz (R : PT P w s.heap a L es ep t) : es.size = L.length := by
  have h := congrArg List.length R.r
  simpa [rowsOf] using h
theorem PT.psz (R : PT P w s.heap a L es ep t) : t.place.toList.length = L.length := by
  have h := R.tb.sz
  rw [List.length_map] at h
  rw [Array.length_toList, h]
theorem PT.fits (R : PT P w s.heap a L es ep t) : t.fits es.size = true := by
  have h1 := R.tb.sz
  have h2 := R.sz
  have h3 := R.rm
  rw [List.length_map, ← h2] at h1
  unfold SetTable.fits SetTable.fill
  rw [R.tb.dm, h1, Bool.and_eq_true]
  exact ⟨beq_self_eq_true _, decide_eq_true (by show es.size + 0 ≤ t.mask; omega)⟩
theorem PT.ent (R : PT P w s.heap a L es ep t) {i : Nat} {q : Addr × List Int} (h : L[i]? = some q) : es[i]? = some (thash P w q.2, Value.ref q.1) := by
  rw [← Array.getElem?_toList, R.r]
  simp [rowsOf, h]
abbrev prb (t : SetTable) (h : Int) (n : Nat) : SetTable.Probe := nth t.mask (runAt t.mask (SetTable.bits h % (t.mask + 1)) (SetTable.bits h)) n
theorem prb_add (t : SetTable) (h : Int) (c q : Nat) : nth t.mask (prb t h c) q = prb t h (c + q) := (nth_add t.mask c _ q).symm
theorem prb_dummy (t : SetTable) (h : Int) (n : Nat) : (prb t h n).dummy = none := by
  have key : ∀ (n : Nat) (p : SetTable.Probe), p.dummy = none → (nth t.mask p n).dummy = none := fun n => by
    induction n with
    | zero => exact fun p h => h
    | succ n ih => exact fun p h => ih (adv t.mask p) (by unfold adv; split <;> exact h)
  exact key n _ rfl
/-- what a probe from the c-th step on meets: the first entry of this hash, or the empty slot -/
theorem meets (R : PT P w s.heap a L es ep t) {h : Int} {K c : Nat} (hf : K < 10 * SetTable.turns t.mask) (hc : c ≤ K) (he : way t.mask h K ∉ t.place.toList) (hb : ∀ c, c < K → way t.mask h c ∈ t.place.toList) :
    (∃ (q i : Nat) (p : Addr × List Int), c + q < K ∧ L[i]? = some p ∧ t.place.toList[i]? = some (way t.mask h (c + q)) ∧ thash P w p.2 = h ∧ (∀ (q' i' : Nat) (p' : Addr × List Int), q' < q → L[i']? = some p' → t.place.toList[i']? = some (way t.mask h (c + q')) → thash P w p'.2 ≠ h) ∧
      t.probe (fun i => (es[i]?.map (·.1)).getD 0) h (prb t h c) = some (.candidate (way t.mask h (c + q)) i (prb t h (c + (q + 1))))) ∨
    ((∀ (q' i' : Nat) (p' : Addr × List Int), c + q' < K → L[i']? = some p' → t.place.toList[i']? = some (way t.mask h (c + q')) → thash P w p'.2 ≠ h) ∧ t.probe (fun i => (es[i]?.map (·.1)).getD 0) h (prb t h c) = some (.empty (way t.mask h K) none)) := by
  have at_ : ∀ {i : Nat} {p : Addr × List Int}, L[i]? = some p → (es[i]?.map (·.1)).getD 0 = thash P w p.2 := fun h => by rw [R.ent h]; rfl
  have j_ : ∀ q, (nth t.mask (prb t h c) q).j = way t.mask h (c + q) := fun q => congrArg SetTable.Probe.j (prb_add t h c q)
  have in_ : ∀ {i j : Nat}, t.place.toList[i]? = some j → ∃ p, L[i]? = some p := fun {i j} e => by
    have h1 := (List.getElem?_eq_some_iff.mp e).1
    rw [R.psz] at h1
    exact ⟨_, List.getElem?_eq_getElem h1⟩
  rcases go_spec t R.tb.ris R.tb.dm (fun i => (es[i]?.map (·.1)).getD 0) h (10 * SetTable.turns t.mask) (K - c) (prb t h c) (prb_dummy t h c) (by omega) (fun q hq => by rw [j_]; exact hb (c + q) (by omega)) (by rw [j_, show c + (K - c) = K by omega]; exact he) with ⟨q, i, hq, hi, hh, hno, e⟩ | ⟨hno, e⟩
  · rw [j_] at hi e
    obtain ⟨p, hp⟩ := in_ hi
    refine .inl ⟨q, i, p, by omega, hp, hi, (at_ hp).symm.trans hh, fun q' i' p' h1 h2 h3 h4 => hno q' i' h1 (by rw [j_]; exact h3) ((at_ h2).trans h4), ?_⟩
    rw [prb_add] at e
    exact e
  · rw [j_, show c + (K - c) = K by omega] at e
    exact .inr ⟨fun q' i' p' h1 h2 h3 h4 => hno q' i' (by omega) (by rw [j_]; exact h3) ((at_ h2).trans h4), e⟩
theorem PT.noway (R : PT P w s.heap a L es ep t) : ¬ t.gaveWay = true := by unfold SetTable.gaveWay; rw [mask_odd R.tb.mok]; decide
theorem rest_tup {Q : SetFound → Shared → Prop} (R : PT P w s.heap a L es ep t) {x : Addr} {k : List Int} (hx : IsT P w s.heap k x) (hu : A.units < cLine) {i j f : Nat} {p : Addr × List Int} {nx : SetTable.Probe} {h : Int} (hp : L[i]? = some p) (hj : t.place.toList[i]? = some j)
    (h1 : p.2 = k → Q (.there none) s) (h2 : p.2 ≠ k → wpAny (model P w) A (setSearchFrom a (.ref x) h true f (some nx)) Q E s) : wpAny (model P w) A (searchRest a (.ref x) h true f es t j i nx) Q E s := by
  obtain ⟨o, ho, _, hd⟩ := R.o
  unfold searchRest; rw [R.ent hp]; dsimp only
  refine wpAny_bind (wpAny_holding (wpAny_eqBool_tuple hu (R.tu p (List.mem_of_getElem? hp)) hx (wpAny_bind (wpAny_setState_of ho hd R.fits ?_)))); dsimp only
  by_cases e : p.2 = k
  · exact wp_if_pos (by simp [e]) (wpAny_pure (h1 e))
  · refine wp_if_neg (by simp [e]) ?_
    try refine wpAny_bind (wpAny_pure ?_)
    rw [sameMem]; dsimp only
    simp only [if_true, slot_live R.tb.ris hj, R.ent hp]
    refine wpAny_bind (wpAny_isSame_ref_self (wpAny_bind (wpAny_pure ?_))); simp only [if_true]
    exact wp_if_neg (by simp [e]) (h2 e)
theorem srch {Q : SetFound → Shared → Prop} (R : PT P w s.heap a L es ep t) {x : Addr} {k : List Int} (hx : IsT P w s.heap k x) (hu : A.units < cLine) {K : Nat} (hf : K < 10 * SetTable.turns t.mask) (he : way t.mask (thash P w k) K ∉ t.place.toList) (hb : ∀ c, c < K → way t.mask (thash P w k) c ∈ t.place.toList)
    (hin : k ∈ L.map Prod.snd → Q (.there none) s) (hout : k ∉ L.map Prod.snd → Q (.free (way t.mask (thash P w k) K) false) s) :
    ∀ (f c : Nat) (st : Option SetTable.Probe), st.getD (t.probeStart (thash P w k)) = prb t (thash P w k) c → c ≤ K → K - c < f → (∀ (i : Nat) (p : Addr × List Int), L[i]? = some p → p.2 = k → ∃ c', c ≤ c' ∧ c' < K ∧ t.place.toList[i]? = some (way t.mask (thash P w k) c')) →
      wpAny (model P w) A (setSearchFrom a (.ref x) (thash P w k) true f st) Q E s
  | 0, c, st, _, _, h, _ => absurd h (Nat.not_lt_zero _)
  | f + 1, c, st, hst, hc, hl, todo => by
    obtain ⟨o, ho, _, hd⟩ := R.o
    rw [setSearchFrom_succ]; refine wpAny_bind (wpAny_setState_of ho hd R.fits ?_); dsimp only
    refine wp_if_neg R.noway ?_
    try refine wpAny_bind (wpAny_pure ?_)
    rw [hst]
    rcases meets R hf hc he hb with ⟨q, i, p, hq, hp, hj, hh, no, e⟩ | ⟨no, e⟩
    · rw [e]; dsimp only
      have go : wpAny (model P w) A (searchRest a (.ref x) (thash P w k) true f es t (way t.mask (thash P w k) (c + q)) i (prb t (thash P w k) (c + (q + 1)))) Q E s := by
        refine rest_tup R hx hu hp hj (fun z => hin (List.mem_map.mpr ⟨p, List.mem_of_getElem? hp, z⟩)) fun z => ?_
        refine srch R hx hu hf he hb hin hout f (c + (q + 1)) _ rfl (by omega) (by omega) fun i' p' hp' hk' => ?_
        obtain ⟨c', b1, b2, b3⟩ := todo i' p' hp' hk'
        refine ⟨c', ?_, b2, b3⟩
        rcases Nat.lt_trichotomy c' (c + q) with y | y | y
        · exact absurd (congrArg (thash P w) hk') (no (c' - c) i' p' (by omega) hp' (by rw [show c + (c' - c) = c' by omega]; exact b3))
        · subst y
          have s1 := slot_live R.tb.ris b3
          rw [slot_live R.tb.ris hj] at s1
          injection s1 with s1
          subst s1
          rw [hp] at hp'
          exact absurd ((congrArg Prod.snd (Option.some.inj hp')).trans hk') z
        · omega
      by_cases y : t.led = true
      · refine wp_if_neg (by simp [y]) ?_
        try refine wpAny_bind (wpAny_pure ?_)
        exact go
      · refine wp_if_pos (by simp [y]) (wpAny_bind (seen_tup hx (fun v hv => ?_) ?_))
        · obtain ⟨z, hz, rfl⟩ := List.mem_map.mp hv
          have hz2 : z ∈ es.toList := by
            have h0 : z ∈ es ∧ z.1 = thash P w k := by simpa using hz
            simpa using h0.1
          rw [R.r] at hz2
          obtain ⟨p2, hp2, rfl⟩ := List.mem_map.mp hz2
          exact ⟨p2.2, p2.1, rfl, R.tu p2 hp2⟩
        · refine wp_if_neg (by decide) ?_
          try refine wpAny_bind (wpAny_pure ?_)
          exact go
    · rw [e]; dsimp only
      refine wpAny_pure (hout fun hm => ?_)
      obtain ⟨p, hp, hk⟩ := List.mem_map.mp hm
      obtain ⟨i, hi⟩ := List.mem_iff_getElem?.mp hp
      obtain ⟨c', b1, b2, b3⟩ := todo i p hi hk
      exact no (c' - c) i p (by omega) hi (by rw [show c + (c' - c) = c' by omega]; exact b3) (congrArg (thash P w) hk)
theorem srch_at {Q : SetFound → Shared → Prop} (R : PT P w s.heap a L es ep t) {x : Addr} {k : List Int} (hx : IsT P w s.heap k x) (hu : A.units < cLine) (hin : k ∈ L.map Prod.snd → Q (.there none) s)
    (hout : ∀ K, k ∉ L.map Prod.snd → way t.mask (thash P w k) K ∉ t.place.toList → (∀ c, c < K → way t.mask (thash P w k) c ∈ t.place.toList) → Q (.free (way t.mask (thash P w k) K) false) s) : wpAny (model P w) A (setSearch a (.ref x) (thash P w k) true) Q E s := by
  have rm := R.rm
  obtain ⟨K, hf, he, hb⟩ := R.tb.first (by rw [List.length_map]; omega) (thash P w k)
  have big : 10 * SetTable.turns t.mask ≤ 1420 := by unfold SetTable.turns; rcases R.tb.mok with z | z | z <;> omega
  unfold setSearch
  refine srch R hx hu hf he hb hin (fun n => hout K n he hb) 100000 0 none rfl (Nat.zero_le _) (by omega) fun i p hp hk => ?_
  have hi : i < t.place.toList.length := by rw [R.psz]; exact (List.getElem?_eq_some_iff.mp hp).1
  have hj := List.getElem?_eq_getElem hi
  obtain ⟨c, hc, e⟩ := R.tb.before he (i := i) (h := thash P w k) (by rw [List.getElem?_map, hp, ← hk]; rfl) hj
  exact ⟨c, Nat.zero_le _, hc, by rw [hj, e]⟩
/-- one more, where the table needs not grow -/
theorem add_big {Q : Bool → Shared → Prop} (R : PT P w s.heap a L es ep t) (hm : t.mask = 127) (hl : L.length + 1 ≤ 76) {x : Addr} {k : List Int} (hx : IsT P w s.heap k x) (hu : A.units < cLine)
    (hQ : ∀ b h' L' es' ep' t', Heap.SameBut a s.heap h' → PT P w h' a L' es' ep' t' → (k ∈ L.map Prod.snd → L' = L) → (k ∉ L.map Prod.snd → L'.Perm ((x, k) :: L)) → Q b { s with heap := h' }) : wpAny (model P w) A (setAddHashed a (.ref x) (thash P w k)) Q E s := by
  obtain ⟨o, ho, hex, hd⟩ := R.o
  have hsl := R.sz
  unfold setAddHashed; refine wpAny_holding ?_
  rw [show (100000 : Nat) = 99999 + 1 from rfl, setAddHashedIn_succ]; refine wpAny_bind (wpAny_setState_of ho hd R.fits ?_); dsimp only
  refine wp_if_neg (by simp [byScan, Value.scannable]) ?_
  try refine wpAny_bind (wpAny_pure ?_)
  refine wpAny_bind (srch_at R hx hu (fun z => ?_) fun K z he hb => ?_)
  · dsimp only
    exact wpAny_pure (hQ false s.heap L es ep t (Heap.SameBut.refl a s.heap) R (fun _ => rfl) fun y => absurd z y)
  · dsimp only; refine wpAny_bind (wpAny_setState_of ho hd R.fits ?_); dsimp only
    obtain ⟨q1, q2, q3, q4, q5, q6, q7, q8, q9⟩ := R.tb.put he hb
    have pl1 : (t.put (way t.mask (thash P w k) K)).1.plain = true := q6.trans R.pl
    generalize e : t.put (way t.mask (thash P w k) K) = pt at q1 q3 q4 q5 q6 q7 q8 q9 pl1 ⊢
    obtain ⟨t1, p⟩ := pt
    dsimp only at q1 q3 q4 q5 q6 q7 q8 q9 pl1 ⊢
    subst q1
    first
      | (refine wpAny_bind ?_; refine wp_if_pos pl1 ?_; refine hashBy_tup hx ?_)
      | refine wp_if_pos pl1 (wpAny_bind (hashBy_tup hx ?_))
    simp only [if_true]
    have rows1 : (SetTable.insertAt es (SetTable.below t.place (way t.mask (thash P w k) K)) (thash P w k, Value.ref x)).toList = rowsOf P w (L.take (SetTable.below t.place (way t.mask (thash P w k) K)) ++ (x, k) :: L.drop (SetTable.below t.place (way t.mask (thash P w k) K))) := by
      rw [SetTable.toList_insertAt, rows_put, R.r]
    generalize SetTable.below t.place (way t.mask (thash P w k) K) = p at q2 q3 rows1 ⊢
    have pm := put_perm L p (x, k)
    have len1 : (L.take p ++ (x, k) :: L.drop p).length = L.length + 1 := pm.length_eq
    have hh : (L.take p ++ (x, k) :: L.drop p).map (fun q => thash P w q.2) = (L.map fun q => thash P w q.2).take p ++ thash P w k :: (L.map fun q => thash P w q.2).drop p := by simp
    rw [← hh] at q3
    have nd1 : ((L.take p ++ (x, k) :: L.drop p).map Prod.snd).Nodup := (pm.map Prod.snd).nodup_iff.mpr (List.nodup_cons.mpr ⟨z, R.n⟩)
    have sz1 : (SetTable.insertAt es p (thash P w k, Value.ref x)).size = L.length + 1 := by
      have h := congrArg List.length rows1
      rw [rowsOf, List.length_map, len1, Array.length_toList] at h
      exact h
    generalize SetTable.insertAt es p (thash P w k, Value.ref x) = es1 at rows1 sz1 ⊢
    generalize L.take p ++ (x, k) :: L.drop p = L1 at pm len1 q3 nd1 rows1
    refine wpAny_bind (wpAny_storeSet_of ho hd ?_ (by rw [sz1, sizeLine_eq]; omega))
    have sb : Heap.SameBut a s.heap (s.heap.update a (Obj.putSet es1 t1)) := Heap.SameBut.update ..
    have ho1 := store_at (es' := es1) (t' := t1) ho hd
    generalize s.heap.update a (Obj.putSet es1 t1) = h1 at sb ho1 ⊢
    have tu1 : ∀ q ∈ L1, IsT P w h1 q.2 q.1 := fun q hq => by
      rcases List.mem_cons.mp (pm.mem_iff.mp hq) with rfl | hq
      · exact isT_same hx ho hd sb
      · exact isT_same (R.tu q hq) ho hd sb
    have nf : ¬ t1.tooFull = true := by
      unfold SetTable.tooFull
      rw [decide_eq_true_eq, q9, List.length_map, q4, hm]
      omega
    first
      | refine wp_if_neg (by simp [nf]) ?_
      | (refine wpAny_bind ?_; refine wp_if_neg (by simp [nf]) ?_; refine wpAny_pure ?_)
    exact wpAny_pure (hQ true h1 L1 es1 (ep + 1) t1 sb ⟨⟨_, ho1, ⟨hex.1, hex.2.1, hex.2.2⟩, rfl⟩, rows1, q3, nd1, tu1, pl1, by rw [q5]; exact R.ld, by rw [len1, q4, hm]; omega⟩ (fun y => absurd y z) fun _ => pm)
theorem add_any {Q : Bool → Shared → Prop} (R : PT P w s.heap a L es ep t) (hl : L.length + 1 ≤ 76) {x : Addr} {k : List Int} (hx : IsT P w s.heap k x) (hu : A.units < cLine)
    (hQ : ∀ b h' L' es' ep' t', Heap.SameBut a s.heap h' → PT P w h' a L' es' ep' t' → (k ∈ L.map Prod.snd → L' = L) → (k ∉ L.map Prod.snd → L'.Perm ((x, k) :: L)) → Q b { s with heap := h' }) : wpAny (model P w) A (setAddHashed a (.ref x) (thash P w k)) Q E s := by
  by_cases c : L.length + 1 < 64
  · exact add_at (R.to (by omega)) hx hu c fun b h' L' es' ep' t' sb R' c1 c2 => hQ b h' L' es' ep' t' sb ⟨R'.ob, R'.rows, R'.tab, R'.nd, R'.tup, R'.plain, R'.led, R'.room⟩ c1 c2
  · refine add_big R ?_ hl hx hu hQ
    have rm := R.rm
    rcases R.tb.mok with z | z | z <;> omega
theorem PT.keep {h h' : Heap} (R : PT P w h a L es ep t) (ha : ∀ o, h.get? a = some o → h'.get? a = some o) (ht : ∀ q ∈ L, IsT P w h' q.2 q.1) : PT P w h' a L es ep t :=
  let ⟨o, ho, r⟩ := R.o; ⟨⟨o, ha o ho, r⟩, R.r, R.tb, R.n, ht, R.pl, R.ld, R.rm⟩
/-- the turns of set(xs) -/
theorem fill_loop {I : Addr} {fp wr : List Addr} {G : Array GenState → Array GenState → Prop} {n : Nat} {Pv : Nat → Value → Prop} {St : Nat → Shared → Prop} {R : Result → Shared → Prop} (W : WalksS P w A.in1 I fp wr G n Pv St) (S : Addr) (nS : S ∉ fp) (ks : List (Addr × List Int)) (hn : n = ks.length) (h76 : ks.length ≤ 76)
    (pv : ∀ i v, Pv i v → ∃ q, ks[i]? = some q ∧ v = .ref q.1) (h0 : Heap) (hk : ∀ q ∈ ks, IsT P w h0 q.2 q.1) (s0 : h0.get? S = none) (w0 : ∀ b ∈ wr, h0.get? b = none) (hu : A.in1.units < cLine) :
    ∀ (m i : Nat) (s : Shared), n - i = m → i ≤ n → St i s → (∀ b o, h0.get? b = some o → s.heap.get? b = some o) → (∃ L es ep t, PT P w s.heap S L es ep t ∧ Got ks i L) →
      (∀ s' L es ep t, Moved (S :: wr) G s s' → PT P w s'.heap S L es ep t → Got ks n L → (∀ b o, h0.get? b = some o → s'.heap.get? b = some o) → R (.ok (.ret .none)) s') →
      codeAny (model P w) A (.builtin "set.update.loop" ⟨[.ref S, .ref I], []⟩) R s := by
  have wS : S ∉ wr := fun h => nS (W.sub _ h)
  have up : ∀ b ∈ wr, b ∈ S :: wr := fun b hb => List.mem_cons_of_mem _ hb
  have old : ∀ {s s' : Shared}, Moved wr G s s' → (∀ b o, h0.get? b = some o → s.heap.get? b = some o) → ∀ b o, h0.get? b = some o → s'.heap.get? b = some o := fun mv k b o e => mv.heap b o (fun z => by rw [w0 b z] at e; cases e) (k b o e)
  have mem : ∀ {i : Nat} {L : List (Addr × List Int)}, Got ks i L → ∀ q ∈ L, q ∈ ks := fun g q hq => List.mem_of_mem_take (g.sub q hq)
  intro m
  induction m with
  | zero =>
    intro i s hm hi st kp ⟨L, es, ep, t, hS, g⟩ hR
    obtain rfl : i = n := by omega
    refine codeAny_builtin PyProof.Rows.F.entry_set_update_loop ?_; rw [Around.under_plainId PyProof.Rows.F.plain_set_update_loop _]
    show wpAny _ A.in1 (pyNext (.ref I) >>= _) _ _ s
    refine wpAny_bind (W.done s _ _ st fun s' mv => ?_)
    show wpAny _ A.in1 (ret Value.none) _ _ s'
    exact wpAny_pure (hR s' L es ep t (mv.mono up) (hS.keep (fun o e => mv.heap S o wS e) fun q hq => isT_keep (hk q (mem g q hq)) (old mv kp)) g (old mv kp))
  | succ m ih =>
    intro i s hm hi st kp ⟨L, es, ep, t, hS, g⟩ hR
    refine codeAny_builtin PyProof.Rows.F.entry_set_update_loop ?_; rw [Around.under_plainId PyProof.Rows.F.plain_set_update_loop _]
    show wpAny _ A.in1 (pyNext (.ref I) >>= _) _ _ s
    refine wpAny_bind (W.item i s _ _ (by omega) st fun v s' vv st' mv => ?_)
    obtain ⟨q, hq, rfl⟩ := pv i v vv
    have kp' := old mv kp
    have hS' : PT P w s'.heap S L es ep t := hS.keep (fun o e => mv.heap S o wS e) fun q hq => isT_keep (hk q (mem g q hq)) kp'
    have hx : IsT P w s'.heap q.2 q.1 := isT_keep (hk q (List.mem_of_getElem? hq)) kp'
    have gl := g.len
    show wpAny _ A.in1 (holding [Value.ref q.1] (setAdd S (.ref q.1)) >>= _) _ _ s'
    refine wpAny_bind (wpAny_holding ?_); unfold setAdd
    refine wpAny_holding (wpAny_bind (wpAny_pyHash_tuple hu hx ?_))
    refine add_any (s := { s' with toks := s'.toks + (q.2.length + 1) }) hS' (by omega) hx hu fun b h' L' es' ep' t' sb hS2 c1 c2 => ?_
    have g' : Got ks (i + 1) L' := (Classical.em (q.2 ∈ L.map Prod.snd)).elim (fun c => by rw [c1 c]; exact g.same hq c) fun c => g.more hq (c2 c)
    have kp2 : ∀ b o, h0.get? b = some o → h'.get? b = some o := fun b o e => (sb.2 b (fun z => by rw [z, s0] at e; cases e)).trans (kp' b o e)
    refine wpAny_pure ⟨plainId_quiet PyProof.Rows.F.plain_set_update_loop _, ih (i + 1) _ (by omega) (by omega) (W.frame _ s' _ _ st' (Nat.le_add_right _ _) fun b hb o e => ?_) kp2 ⟨L', es', ep', t', hS2, g'⟩ fun s2 L2 es2 ep2 t2 mv2 hS3 g2 kp3 => ?_⟩
    · rw [sb.2 b fun z : b = S => nS (z ▸ hb)]; exact e
    · refine hR s2 L2 es2 ep2 t2 (Moved.trans W.gtrans ((mv.mono up).then_heap (Nat.le_add_right _ _) fun b o hb e => ?_) mv2) hS3 g2 kp3
      rw [sb.2 b fun z : b = S => hb (z ▸ List.mem_cons_self)]; exact e
end
end FF

set_option Elab.async false
set_option linter.all false
set_option maxRecDepth 100000
set_option maxHeartbeats 4000000
/-! set(xs) of a list of up to 76 tuples of ints; its len -/
namespace FF
open PySem L2 PySem.Spec PyProof.Rows
section
variable {P : Program} {w : World} {A : Around} {E : Value → Shared → Prop} {s : Shared}
abbrev set0 (w : World) : Obj := { cls := .type "set", dict := none, data := .set #[] 0 (.fresh 0 0 (!w.params.followText "set-order")) }
theorem pt0 {h : Heap} {a : Addr} (ho : h.get? a = some (set0 w)) : PT P w h a [] #[] 0 (.fresh 0 0 (!w.params.followText "set-order")) :=
  have R := setTR_fresh (P := P) ho
  ⟨R.ob, R.rows, R.tab, R.nd, R.tup, R.plain, R.led, R.room⟩
theorem call_set_big {l : Addr} {items : Array Value} (ks : List (Addr × List Int)) {Q : Value → Shared → Prop} (hh : A.handled = none) (hl : s.heap.IsList l items) (hit : items.toList = ks.map fun q => Value.ref q.1) (hk : ∀ q ∈ ks, IsT P w s.heap q.2 q.1) (h76 : ks.length ≤ 76) (hu : A.units + 3 < cLine)
    (h : ∀ (h' : Heap) (tk : Nat) L es ep t, PT P w h' s.heap.objs.size L es ep t → Got ks ks.length L → (∀ b o, s.heap.get? b = some o → h'.get? b = some o) → Q (.ref s.heap.objs.size) { s with heap := h', toks := tk }) : wpAny (model P w) A (call (.type "set") [.ref l]) Q E s := by
  have isz : items.size = ks.length := by rw [← Array.length_toList, hit, List.length_map]
  obtain ⟨c, tl, hmro⟩ := F.called_set.mro
  have hmade := F.called_set.made; have hsub := F.called_set.sub
  refine wpAny_call (codeAny_of_tree ?_)
  show wpAny _ _ (callAny (.type "set") _) _ _ _
  refine wpAny_pure ⟨Code.quiet_builtin _ (by decide +kernel), codeAny_builtin F.entry_type_call ?_⟩; rw [Around.under_plain (weight_type_call_type "set" [.ref l] []) rfl]
  have n1 := F.called_set.notType; have n2 := F.called_set.canCreate; have n3 := F.typeCall_set_1 (.ref l)
  repeat (any_goals (first | assumption | wp_step))
  refine codeAny_mono (code_set_led1 (.ref l) (E := E) (Q₁ := fun v s1 => v = .ref s.heap.objs.size ∧ s1 = { s with heap := s.heap.push (set0 w) }) ⟨rfl, rfl⟩) fun r s1 hr => ?_
  cases r with
  | error e => exact hr
  | ok fl =>
    cases fl with
    | ret v =>
      obtain ⟨rfl, rfl⟩ := hr
      have gS : (s.heap.push (set0 w)).get? s.heap.objs.size = some (set0 w) := Heap.get?_push_size _ rfl
      have tS : Shared.TypeIs { s with heap := s.heap.push (set0 w) } (.ref s.heap.objs.size) "set" := ⟨_, gS, rfl⟩
      have hli := F.called_set.init.lookup; have hbi := F.called_set.init.bind (.ref s.heap.objs.size)
      repeat (any_goals (first | assumption | wp_step))
      refine codeAny_mono (codeAny_call_builtin (R := wants (fun r s2 => r = .none ∧ ∃ h' tk L es ep t, s2 = { s with heap := h', toks := tk } ∧ PT P w h' s.heap.objs.size L es ep t ∧ Got ks ks.length L ∧ (∀ b o, s.heap.get? b = some o → h'.get? b = some o)) E) F.called_set.init.plain F.entry_set_init (check_set_init_1 tS ?_)) fun r2 s2 hr2 => ?_
      · obtain ⟨⟨lc, ld, lo, ls⟩, hol, hcl, nl, hdl⟩ := hl
        simp only at hcl hdl
        subst hcl; subst hdl
        have hol' : (s.heap.push (set0 w)).get? l = some { cls := .type "list", dict := ld, data := .seq items nl, slots := ls } := Heap.get?_push_of_some _ hol
        have b1 := F.sub_list_set; have b2 := F.sub_list_frozenset
        have b3 : (Value.type "list" == Value.type "dict") = false := by decide
        have lst : (s.heap.push (set0 w)).IsList l items := ⟨_, hol', rfl, nl, rfl⟩
        unfold Builtin.«set.__init__» noKeywords Builtin.Frozenset.updateFrom
        generalize hPI : pyIter = PI
        wp_walk
        subst hPI
        refine wpAny_pyIter_list lst (wpAny_bind (wpAny_runValue ?_))
        have ll : l < s.heap.objs.size := Heap.lt_size hol
        have psz : (s.heap.push (set0 w)).objs.size = s.heap.objs.size + 1 := Heap.size_push ..
        have nI : l ≠ (s.heap.push (set0 w)).objs.size := by rw [psz]; exact Nat.ne_of_lt (Nat.lt_succ_of_lt ll)
        have nS : s.heap.objs.size ∉ [(s.heap.push (set0 w)).objs.size, l] := by
          rw [psz]; simp only [List.mem_cons, List.not_mem_nil, or_false, not_or]; exact ⟨Nat.ne_of_lt (Nat.lt_succ_self _), Nat.ne_of_gt ll⟩
        have free : ∀ b, s.heap.objs.size ≤ b → s.heap.get? b = none := fun b hb => by
          cases q : s.heap.get? b with
          | none => rfl
          | some o => exact absurd (Nat.lt_of_lt_of_le (Heap.lt_size q) hb) (Nat.lt_irrefl _)
        refine fill_loop ((Walks.list (by simp [hh]) _ l nI items).toS) s.heap.objs.size nS ks isz h76 (fun i v hv => ?_) s.heap hk (free _ (Nat.le_refl _)) (fun b hb => free b (by rw [List.mem_singleton.mp hb, psz]; exact Nat.le_succ _)) hu (items.size - 0) 0 _ (by omega) (Nat.zero_le _)
          ⟨⟨_, Heap.get?_push_size _ rfl, rfl, rfl⟩, lst.push _⟩ (fun b o e => Heap.get?_push_of_some _ (Heap.get?_push_of_some _ e)) ⟨[], #[], 0, _, pt0 (Heap.get?_push_of_some _ gS), Got.zero ks⟩ fun s' L es ep t mv hS g kp => ?_
        · have q : items.toList[i]? = some v := by rw [Array.getElem?_toList]; exact hv
          rw [hit, List.getElem?_map] at q
          obtain ⟨p, e1, e2⟩ := Option.map_eq_some_iff.mp q
          exact ⟨p, e1, e2.symm⟩
        · obtain ⟨h', g2, d', tk', os'⟩ := s'
          obtain rfl : g2 = s.gens := mv.gens
          obtain rfl : d' = s.drawn := mv.drawn
          obtain rfl : os' = s.os := mv.os
          rw [isz] at g
          refine wpAny_pure ?_
          show wpAny _ _ (ret Value.none) _ _ _
          exact wpAny_pure ⟨rfl, h', tk', L, es, ep, t, rfl, hS, g, kp⟩
      · cases r2 with
        | error e => exact hr2
        | ok fl2 =>
          cases fl2 with
          | ret r =>
            obtain ⟨rfl, h', tk, L, es, ep, t, rfl, hS, g, kp⟩ := hr2
            repeat (any_goals (first | assumption | wp_step))
            exact h _ _ _ _ _ _ hS g kp
          | _ => exact hr2.elim
    | _ => exact hr.elim
end
/-! ### len(set(xs)) -/
def tLenP (K : Kf) (ta : TE) : TE := fun σ H Q => ta σ H fun x H1 => ∃ (l : Addr) (xs : List V) (ps : List (Int × Int)), x = .ref l ∧ SqL K H1 l xs ∧ Prd (isP2 K H1) xs ps ∧ ps.length ≤ 76 ∧ Q (.int ((dis ps).length : Nat)) H1
def two (q : Int × Int) : List Int := [q.1, q.2]
theorem two_inj {p q : Int × Int} (h : two p = two q) : p = q := by
  injection h with h1 h2
  injection h2 with h2 _
  exact Prod.ext h1 h2
theorem pairs_keys {K : Kf} {H : Hp} {xs : List V} {ps : List (Int × Int)} (h : Prd (isP2 K H) xs ps) : ∃ ks : List (Addr × List Int), xs = ks.map (fun q => V.ref q.1) ∧ ks.map Prod.snd = ps.map two ∧ ∀ q ∈ ks, SqT K H q.1 (q.2.map V.int) := by
  induction h with
  | nil => exact ⟨[], rfl, rfl, fun q h => (List.not_mem_nil h).elim⟩
  | @cons x p xs ps h t ih =>
    obtain ⟨a, rfl, ha⟩ := h
    obtain ⟨ks, e1, e2, e3⟩ := ih
    refine ⟨(a, two p) :: ks, by rw [e1]; rfl, by rw [List.map_cons, e2]; rfl, fun q hq => ?_⟩
    rcases List.mem_cons.mp hq with rfl | hq
    · exact ha
    · exact e3 q hq
theorem got_len {ks L : List (Addr × List Int)} {ps : List (Int × Int)} (e : ks.map Prod.snd = ps.map two) (g : Got ks ks.length L) (nd : (L.map Prod.snd).Nodup) : L.length = (dis ps).length := by
  have h1 : ((dis ps).map two).Nodup := List.Pairwise.map two (fun a b h z => h (two_inj z)) (dis_nodup ps)
  have z : (L.map Prod.snd).Perm ((dis ps).map two) := (List.perm_ext_iff_of_nodup nd h1).mpr fun k => by
    constructor
    · intro hk
      obtain ⟨q, hq, rfl⟩ := List.mem_map.mp hk
      have m1 : q ∈ ks := List.mem_of_mem_take (g.sub q hq)
      have m2 : q.2 ∈ ps.map two := by rw [← e]; exact List.mem_map.mpr ⟨q, m1, rfl⟩
      obtain ⟨p, hp, e2⟩ := List.mem_map.mp m2
      exact List.mem_map.mpr ⟨p, (mem_dis ps p).mpr hp, e2⟩
    · intro hk
      obtain ⟨p, hp, rfl⟩ := List.mem_map.mp hk
      have m2 : two p ∈ ks.map Prod.snd := by rw [e]; exact List.mem_map.mpr ⟨p, (mem_dis ps p).mp hp, rfl⟩
      obtain ⟨q, hq, e2⟩ := List.mem_map.mp m2
      rw [← e2]
      exact g.all q (by rw [List.take_length]; exact hq)
  have := z.length_eq
  rwa [List.length_map, List.length_map] at this
section
variable {X : Cx} {a : Expr} {ta : TE} {p p2 q pos : Pos}
theorem pe_lenSetP (hg : Gl X "len") (hm : X.mg "len" = none) (hg2 : Gl X "set") (hm2 : X.mg "set" = none) (ha : PE X a ta) (hc : X.calm = true) (hu : X.A.units + 64 < cLine)
    (na : starEach [a] X.env = (false, eval a X.env) :: starEach [] X.env := by rfl) : PE X (.Call (.Name "len" p) [.Call (.Name "set" p2) [a] [] q] [] pos) (tLenP X.K ta) := by
  refine ⟨fun pins s σ H Q I h => Call_ (ld_blt I hg hm PySem.boot_len (callWith_builtin1 (args_cons (Call_ (ld_blt I hg2 hm2 PyProof.Rows.boot_set (callWith_type1 (args_cons (thn (ha.run pins s σ H _ I h) fun v s1 ⟨x, H1, I1, r1, q1⟩ => args_nil ?_) na) na rfl))) rfl) rfl rfl))⟩
  obtain ⟨l, xs, ps, rfl, hq, hp, h76, q1⟩ := q1
  cases r1
  obtain ⟨ks, rfl, e2, e3⟩ := pairs_keys hp
  have hz : ks.length = ps.length := by
    have := congrArg List.length e2
    rwa [List.length_map, List.length_map] at this
  obtain ⟨its, r, pl, _⟩ := I1.list hq
  refine call_set_big (P := X.prog) (w := X.w) ks (I1.ok.hd hc) pl.isList (by simpa using refs_of_vals r) (fun q hq => I1.isT (e3 q hq)) (by rw [hz]; exact h76) (by omega) fun h' tk L es ep t R g k => args_nil ?_
  obtain ⟨o, ho, hex, hd⟩ := R.o
  have I2 : Inv X pins σ H1 { s1 with heap := h', toks := tk } := I1.kept k
  have e4 : es.size = (dis ps).length := (R.sz (s := { s1 with heap := h', toks := tk })).trans (got_len e2 g R.n)
  have hL := g.len
  exact call_len_set ho hex hd (R.fits (s := { s1 with heap := h', toks := tk })) (by rw [R.sz (s := { s1 with heap := h', toks := tk })]; omega) ⟨.int ((dis ps).length : Nat), H1, I2.tok _, ⟨_, by rw [e4]⟩, q1⟩
end
section
variable {K : Kf} {m p : Bool} {ta : TE} {Γ Γ1 : List Sl}
theorem e_lenSetP {x : List (Int × Int)} (h : E K m p ta Γ Γ1 x) (hz : x.length ≤ 76) : E K m true (tLenP K ta) Γ Γ1 (((dis x).length : Nat) : Int) := fun F I H0 H σ r Q q =>
  h.nowP F I H0 H σ r _ fun v H1 H1' r1 a1 b1 c1 => by
    obtain ⟨a, vs, rfl, hs, hp⟩ := rl c1
    refine ⟨a, vs, x, rfl, hs, prd_mono (fun u q z => ?_) hp, hz, q _ H1 H1' r1 a1 b1 rfl⟩
    obtain ⟨t, u1, u2, rfl, ht, e1, e2⟩ := z
    have e1' : u1 = .int _ := e1
    have e2' : u2 = .int _ := e2
    subst e1'; subst e2'
    exact ⟨t, rfl, ht⟩
end
end FF

set_option Elab.async false
set_option linter.all false
set_option maxRecDepth 100000
set_option maxHeartbeats 2000000
namespace FF
open PySem L2 PyProof.Rows He
/-! ### the head's facts: the library's, and one more word of one's own -/
theorem FunD.toFun {K : Kf} {x qual : Str} {st : Stmt} {kws : List (Str × V)} {f : Addr} {fd : FuncData} (F : FunD K x qual (defArgs st) (defBody st) (defScope st) [] kws f fd) : Fun K x qual st f fd := by
  obtain ⟨oc, od, dV, kV, doc, pm, an, cdv, ct, osl, rfl, l, c, hD, _⟩ := F.ex
  rcases hD with ⟨_, rfl⟩ | ⟨e, _⟩
  · exact ⟨⟨oc, od, kV, doc, pm, an, cdv, ct, osl, rfl, l, c⟩, F.kp⟩
  · exact absurd rfl e
/-- a keyword's default, if it is an object -/
def kwAt (f : Str × Option Str) (k : Str) (K : Kf) : Addr := match K.lookup (fAd K f) with
  | some ⟨_, _, .func fd, _⟩ => (match fd.kwdefaults with
    | .ref D => (match PySem.W.nsIn K D k with
      | some (some (.ref a)) => a
      | _ => 0)
    | _ => 0)
  | _ => 0
/-- a tuple of these stands there -/
def tupAt (a : Addr) (vs : List V) (K : Kf) : Bool := match K.lookup a with
  | some ⟨.type c, _, .seq its _, _⟩ => decide (c = "tuple") && (decide (its.size ≤ sizeLine) && relAll vs its.toList)
  | _ => false
theorem tupAt_ok {K : Kf} {a : Addr} {vs : List V} (h : tupAt a vs K = true) (H : Hp) : SqT K H a vs := by
  unfold tupAt at h
  split at h
  · rename_i c d its n sl e
    rw [Bool.and_eq_true, Bool.and_eq_true] at h
    obtain ⟨h1, h2, h3⟩ := h
    exact .inr ⟨_, its, n, e, congrArg Value.type (of_decide_eq_true h1), rfl, of_decide_eq_true h2, relAll_ok h3⟩
  · cases h
/-- .. and it bears no attributes -/
def tupDn (a : Addr) (K : Kf) : Bool := match K.lookup a with
  | some ⟨.type c, none, _, _⟩ => decide (c = "tuple")
  | _ => false
theorem tupDn_ok {K : Kf} {a : Addr} (h : tupDn a K = true) : ∃ o, K.lookup a = some o ∧ o.cls = .type "tuple" ∧ o.dict = none := by
  unfold tupDn at h
  split at h
  · rename_i c d sl e
    exact ⟨_, e, congrArg Value.type (of_decide_eq_true h), rfl⟩
  · cases h
def hookE (n : Nat) (fa : List Fa) (fn : List DefD) (ex : Kf → Bool) : PySem.W.Hook where
  α := AlD × Bool
  obs := fun s => (obsD fa fn (frG s.heap.get? (asD s.heap.get? n)), ex (frG s.heap.get? (asD s.heap.get? n)))
  val := fun _ => (valD fn, true)
  says := fun _ h => ∃ K : Kf, K.In h ∧ SaysD fa fn K ∧ ex K = true
  of := fun _ _ e => ⟨_, frG_in, congrArg (fun z : AlD × Bool => z.1) e, congrArg (fun z : AlD × Bool => z.2) e⟩
  keeps := fun _ _ _ ⟨K, hK, c⟩ k => ⟨K, PySem.W.Frag.In.keeps hK k, c⟩
def obsEG (n : Nat) (fa : List Fa) (fn : List DefD) (ex : Kf → Bool) (g : Addr → Option Obj) : AlD × Bool := (obsD fa fn (frG g (asD g n)), ex (frG g (asD g n)))
theorem obsEG_eq {n : Nat} {fa : List Fa} {fn : List DefD} {ex : Kf → Bool} {g : Addr → Option Obj} {s : Shared} (h : ∀ a, g a = s.heap.get? a) : obsEG n fa fn ex g = (hookE n fa fn ex).obs s := by
  have e : g = s.heap.get? := funext h
  rw [e] <;> rfl
theorem law_start {K : Kf} {l : Sq Int → Bool} {ns : List Int} {a : Addr} {H : Hp} {E : XK} (h : l ⟨ns⟩ = true) (hS : SqL K H a (ns.map V.int)) : spF K (ι := Sq Int) (fun d => [pr (α := Sq Int) d]) (fun _ => True) (fun d => l d) (fun _ => []) [.ref a] H (fun v _ => v = .bl true) E := by
  refine ⟨⟨ns⟩, ⟨H, H, Same.refl _⟩, H, rfl, trivial, ?_, fun v H0' H' σ' _ _ rv => ?_⟩
  · exact sr_of (vs := [.ref a]) (Same.refl _) (Same.refl _) (fun _ _ _ n => n) (Same.refl _) (.cons ⟨_, rfl, a, _, rfl, .inl hS, map_ints ns⟩ .nil) fun n m _ h1 _ => by
      cases n with
      | zero => exact h1
      | succ n => simp [isOwn] at h1
  · have e : v = .bl (l ⟨ns⟩) := rv
    rw [e, h]
end FF

set_option linter.all false
set_option maxRecDepth 100000
/-! what the mirrors' words mean -/
namespace FF
theorem fold_inv {S α : Type} (I : Nat → S → Prop) {f : S → α → S} {xs : List α} {s0 : S} (h0 : I 0 s0) (hs : ∀ n s x, xs[n]? = some x → I n s → I (n + 1) (f s x)) : I xs.length (xs.foldl f s0) := by
  have key : ∀ n, n ≤ xs.length → I n ((xs.take n).foldl f s0) := by
    intro n
    induction n with
    | zero => intro _; exact h0
    | succ n ih =>
      intro hn
      have hx : xs[n]? = some xs[n] := List.getElem?_eq_getElem (by omega)
      rw [take_succ hx, List.foldl_append]
      exact hs n _ _ hx (ih (by omega))
  have := key xs.length (Nat.le_refl _)
  rwa [List.take_length] at this
theorem mem_rng {lo hi x : Int} : x ∈ rng lo hi ↔ lo ≤ x ∧ x < hi := by
  unfold rng
  rw [List.mem_map]
  constructor
  · rintro ⟨k, hk, rfl⟩
    have := List.mem_range.mp hk
    omega
  · intro h
    exact ⟨(x - lo).toNat, List.mem_range.mpr (by omega), by omega⟩
theorem rng_n {lo hi x : Int} {n : Nat} (h : (rng lo hi)[n]? = some x) : x = lo + n ∧ x < hi := by
  have hl := (List.getElem?_eq_some_iff.mp h).1
  rw [rng_len] at hl
  rw [rng_get hl] at h
  cases h
  exact ⟨rfl, by omega⟩
theorem rng_size (n : Int) (h : 0 ≤ n) : ((rng 0 n).length : Int) = n := by rw [rng_len]; omega
theorem loop_all {α ρ : Type} {f : Unit → α → Ctl Unit ρ} : ∀ {xs : List α}, (∀ x ∈ xs, f () x = .nx ()) → loopL f () xs = .inr ()
  | [], _ => rfl
  | x :: xs, h => by
    unfold loopL
    rw [h x List.mem_cons_self]
    exact loop_all fun y hy => h y (List.mem_cons_of_mem _ hy)
theorem gi_nat {α : Type} [Inhabited α] {xs : List α} {k : Int} (h : 0 ≤ k) : gi xs k = xs.getD k.toNat default := by unfold gi; rw [if_pos h]
theorem gi_mem' {α : Type} [Inhabited α] {xs : List α} {k : Int} (h0 : 0 ≤ k) (h1 : k < xs.length) : gi xs k ∈ xs := by
  rw [gi_nat h0, List.getD_eq_getElem?_getD, List.getElem?_eq_getElem (by omega)]
  exact List.getElem_mem _
theorem mn_spec : ∀ {xs : List Int}, xs ≠ [] → mn xs ∈ xs ∧ ∀ y ∈ xs, mn xs ≤ y
  | [], h => absurd rfl h
  | x :: xs, _ => by
    have key : ∀ (ys : List Int) (a : Int), (ys.foldl (fun a y => if decide (y < a) = true then y else a) a = a ∨ ys.foldl (fun a y => if decide (y < a) = true then y else a) a ∈ ys) ∧ ys.foldl (fun a y => if decide (y < a) = true then y else a) a ≤ a ∧ ∀ y ∈ ys, ys.foldl (fun a y => if decide (y < a) = true then y else a) a ≤ y := by
      intro ys
      induction ys with
      | nil => intro a; exact ⟨.inl rfl, Int.le_refl _, fun y h => by cases h⟩
      | cons y ys ih =>
        intro a
        rw [List.foldl_cons]
        by_cases c : y < a
        · rw [if_pos (decide_eq_true c)]
          obtain ⟨h1, h2, h3⟩ := ih y
          refine ⟨.inr ?_, by omega, fun z hz => ?_⟩
          · rcases h1 with h1 | h1
            · rw [h1]; exact List.mem_cons_self
            · exact List.mem_cons_of_mem _ h1
          · rcases List.mem_cons.mp hz with rfl | hz
            · exact h2
            · exact h3 z hz
        · rw [if_neg (by simpa using c)]
          obtain ⟨h1, h2, h3⟩ := ih a
          refine ⟨h1.imp id fun h => List.mem_cons_of_mem _ h, h2, fun z hz => ?_⟩
          rcases List.mem_cons.mp hz with rfl | hz
          · omega
          · exact h3 z hz
    obtain ⟨h1, h2, h3⟩ := key xs x
    refine ⟨?_, fun y hy => ?_⟩
    · show xs.foldl _ x ∈ x :: xs
      rcases h1 with h1 | h1
      · rw [h1]; exact List.mem_cons_self
      · exact List.mem_cons_of_mem _ h1
    · rcases List.mem_cons.mp hy with rfl | hy
      · exact h2
      · exact h3 y hy
end FF

set_option Elab.async false
set_option linter.all false
set_option maxRecDepth 100000
set_option maxHeartbeats 2000000
namespace FF
open PySem L2
/-! ### a list of one's own, lent for a while -/
section
variable {K : Kf} {F : Fm} {I H0 H : Hp} {σ : St} {Γ Γ1 Γ2 : List Sl} {m p : Bool} {te : TE} {tt : TT}
theorem SR.frz {α : Type} {i : Rp α} {xs : List α} {n : Nat} {a : Option Addr} (r : SR K F I H0 H σ Γ) (hn : Γ[n]? = some (.own i a xs)) : ∃ b vs, σ[n]? = some (some (.ref b)) ∧ Same H0 (upd H0 b (.lst vs)) ∧ SR K F I (upd H0 b (.lst vs)) H σ (Γ.set n (.per (inferInstance : Rp (List α)) xs)) := by
  obtain ⟨b, vs, e1, f1, f2, f3, f4⟩ := own_at r hn
  have hl : n < Γ.length := (List.getElem?_eq_some_iff.mp hn).1
  have r1 : SR K F I H0 H σ (Γ.set n .un) := r.weak (by simp) fun k s e => by
    rcases get_set e with ⟨_, z⟩ | ⟨_, z⟩
    · exact .inl z
    · exact .inr z
  have hx : Fre H σ (Γ.set n .un) b := fre_un r (ftp_at hn e1)
  obtain ⟨r2, s0⟩ := r1.keep f1 f2 hx f3
  refine ⟨b, vs, e1, s0, ?_⟩
  have hσ : σ.set n (some (.ref b)) = σ := by
    apply List.ext_getElem?
    intro k
    by_cases z : k = n
    · subst z
      rw [List.getElem?_set_self (List.getElem?_eq_some_iff.mp e1).1, e1]
    · rw [List.getElem?_set_ne (Ne.symm z)]
  have r3 := r2.set (i := n) (v := .ref b) (s := .per (inferInstance : Rp (List α)) xs) ⟨.ref b, rfl, b, vs, rfl, upd_same, prd_mono (fun _ _ z => i.mono s0 z) f4⟩ (fun _ z => z.elim) (by simpa using hl)
  rw [hσ, List.set_set] at r3
  exact r3
/-- what is worth a scalar may be asked while a list of one's own stands still -/
theorem e_frzS {β : Type} {i : Rp β} {xs : List β} {n : Nat} {a : Option Addr} {α : Type} [Rp α] [Sc α] {x : α} (hn : Γ[n]? = some (.own i a xs)) (h : E K false p te (Γ.set n (.per (inferInstance : Rp (List β)) xs)) Γ2 x) : E K false true te Γ Γ x := fun F I H0 H σ r Q q => by
  obtain ⟨b, vs, _, s0, r'⟩ := r.frz hn
  exact h F I _ H σ r' Q fun v H1 H1' r1 a1 b1 c1 => q v H0 H1' (r.ext (b1 rfl)) (Same.refl _) (fun _ => b1 rfl) (Sc.any c1)
theorem t_frzS {β : Type} {i : Rp β} {xs : List β} {n : Nat} {a : Option Addr} {b : Bool} (hn : Γ[n]? = some (.own i a xs)) (h : Tt K false tt (Γ.set n (.per (inferInstance : Rp (List β)) xs)) Γ2 b) : Tt K false tt Γ Γ b := fun F I H0 H σ r Q q => by
  obtain ⟨_, _, _, s0, r'⟩ := r.frz hn
  exact h F I _ H σ r' Q fun H1 H1' r1 a1 b1 => q H0 H1' (r.ext (b1 rfl)) (Same.refl _) (fun _ => b1 rfl)
theorem n_frzS {β : Type} {i : Rp β} {xs : List β} {n : Nat} {a : Option Addr} {α : Type} [j : Rp α] [Sc α] {ys : List α} (hn : Γ[n]? = some (.own i a xs)) (h : EN K false te (Γ.set n (.per (inferInstance : Rp (List β)) xs)) (Γ.set n (.per (inferInstance : Rp (List β)) xs)) ys) : EN K false te Γ Γ ys := fun F I H0 H σ r Q q => by
  obtain ⟨b, vs, e1, s0, r'⟩ := r.frz hn
  have hl : n < Γ.length := (List.getElem?_eq_some_iff.mp hn).1
  refine h F I _ H σ r' Q fun c ws H1 H1' r1 a1 b1 c1 c2 c3 c4 c5 => q c ws H0 H1' (r.ext (b1 rfl)) (Same.refl _) (fun _ => b1 rfl) c1 ?_ (fun k hk => ?_) c4 (prd_mono (fun _ _ z => Sc.any z) c5)
  · exact Same.free (s0.trans a1) c2
  · obtain ⟨s, ov, e4, e5, f⟩ := hk
    by_cases z : k = n
    · subst z
      rw [hn] at e4
      cases e4
      rw [e1] at e5
      cases e5
      have f' : some (V.ref b) = some (V.ref c) := f
      cases f'
      rw [a1 _ _ upd_same] at c2
      cases c2
    · exact c3 k ⟨s, ov, by rw [List.getElem?_set_ne (Ne.symm z)]; exact e4, e5, f⟩
/-- a list of one's own lent: its items stand as long as the expression is asked -/
theorem SR.lend2 {α : Type} {i : Rp α} {xs : List α} {n : Nat} {a : Option Addr} (r : SR K F I H0 H σ Γ) (hn : Γ[n]? = some (.own i a xs)) : ∃ b vs F', σ[n]? = some (some (.ref b)) ∧ (∀ q, a = some q → b = q) ∧ F.k b = none ∧ H0 b = none ∧ H b = some (.lst vs) ∧ Prd (i.rep K H0) vs xs ∧ Same F.k F'.k ∧ F'.k b = some (.lst vs) ∧ (∀ c o, F'.k c = some o → H0 c = none → c = b ∨ F.k c = some o) ∧ SR K F' H0 H0 H σ (Γ.set n (.bor (inferInstance : Rp (List α)) xs)) := by
  obtain ⟨ov, e1, b, vs, e2, e3, e4, e5, e6, e7⟩ := r.ok n _ hn
  subst e2
  have hl : n < Γ.length := (List.getElem?_eq_some_iff.mp hn).1
  let un (X : Hp) : Hp := fun c => match X c with | some o => some o | none => match H0 c with | some o => some o | none => if c = b then some (.lst vs) else none
  have un_l : ∀ X c o, X c = some o → un X c = some o := fun X c o h => by show (match X c with | some o => _ | none => _) = _; rw [h]
  have un_r : ∀ X c, X c = none → un X c = (match H0 c with | some o => some o | none => if c = b then some (.lst vs) else none) := fun X c h => by show (match X c with | some o => _ | none => _) = _; rw [h]
  have un_H : ∀ X, Same X H → Same (un X) H := fun X s c o h => by
    cases z : X c with
    | some o' => rw [un_l X c o' z] at h; cases h; exact s _ _ z
    | none =>
      rw [un_r X c z] at h
      cases z2 : H0 c with
      | some o' => rw [z2] at h; cases h; exact r.h _ _ z2
      | none =>
        rw [z2] at h
        by_cases z3 : c = b
        · subst z3; simp only [if_true] at h; cases h; exact e6
        · simp [z3] at h
  have un_b : ∀ X, X b = none → un X b = some (.lst vs) := fun X h => by rw [un_r X b h, e5]; simp
  have un_0 : ∀ X, Same X H → Same H0 (un X) := fun X s c o h => by
    cases z : X c with
    | some o' => rw [un_l X c o' z]; have := s _ _ z; rw [r.h _ _ h] at this; exact this.symm
    | none => rw [un_r X c z, h]
  have bF : F.b b = none := Same.free F.sub e4
  have sb : Same (un F.b) (un F.k) := fun c o h => by
    cases z : F.k c with
    | some o' =>
      have : un F.k c = some o' := un_l _ _ _ z
      have h2 : H c = some o' := r.f _ _ z
      have h3 := un_H F.b (F.sub.trans r.f) c o h
      rw [h2] at h3; cases h3; exact this
    | none =>
      have : F.b c = none := Same.free F.sub z
      rw [un_r F.k c z]; rw [un_r F.b c this] at h; exact h
  refine ⟨b, vs, ⟨un F.k, un F.b, sb⟩, e1, e3, e4, e5, e6, e7, fun c o h => un_l _ _ _ h, un_b _ e4, fun c o h h0 => ?_, ⟨un_H _ r.f, Same.refl _, fun c o _ h => h, r.h, by simpa using r.len, fun k s e => ?_, fun k l c ne h1 h2 => ?_⟩⟩
  · have h : un F.k c = some o := h
    cases z : F.k c with
    | some o' => rw [show un F.k c = some o' from un_l _ _ _ z] at h; exact .inr h
    | none =>
      rw [un_r F.k c z, h0] at h
      by_cases z3 : c = b
      · exact .inl z3
      · simp [z3] at h
  · rcases get_set e with ⟨rfl, rfl⟩ | ⟨hk, e⟩
    · exact ⟨_, e1, _, rfl, b, vs, rfl, un_b _ bF, prd_mono (fun _ _ z => i.mono (un_0 F.b (F.sub.trans r.f)) z) e7⟩
    · obtain ⟨ov, w1, w2⟩ := r.ok k s e
      refine ⟨ov, w1, ?_⟩
      cases s with
      | un => trivial
      | per j x => exact w2
      | bor j x => obtain ⟨v, w3, w4⟩ := w2; exact ⟨v, w3, j.mono (fun c o h => un_l _ _ _ h) w4⟩
      | bl j x => obtain ⟨c, us, w3, w4, w5⟩ := w2; exact ⟨c, us, w3, un_l _ _ _ w4, w5⟩
      | own j p' xs' =>
        obtain ⟨c, vs', w3, w4, w5, w6, w7, w8⟩ := w2
        have nc : c ≠ b := fun z => by
          subst z
          exact r.dj k n c hk ⟨_, _, e, w1, w3⟩ (ftp_at hn e1)
        exact ⟨c, vs', w3, w4, by show un F.k c = none; rw [un_r _ _ w5, w6]; simp [nc], w6, w7, w8⟩
      | dp j p' xss =>
        refine dpOk.mono (p' := p') w2 (fun d hd z => ?_) (fun _ _ z => z) (fun _ _ _ z => z) fun _ _ z => z
        have nc : d ≠ b := fun z => by
          subst z
          exact r.dj k n d hk ⟨_, _, e, w1, hd⟩ (ftp_at hn e1)
        show un F.k d = none
        rw [un_r _ _ z, (ft_own (s := .dp j p' xss) w2 hd).2.1]
        simp [nc]
      | gn G =>
        refine gnOk.mono w2 (fun d hd z => ?_) (fun _ _ z => z) (fun _ _ _ z => z) fun _ z => z
        have nc : d ≠ b := fun z => by
          subst z
          exact r.dj k n d hk ⟨_, _, e, w1, hd⟩ (ftp_at hn e1)
        show un F.k d = none
        rw [un_r _ _ z, (ft_own (s := .gn G) w2 hd).2.1]
        simp [nc]
      | ob c C dx fs =>
        obtain ⟨w3, w4, w5, w6, w7, w8, vs', w9, w10⟩ := w2
        have n1 : c ≠ b := ne_of w9 e6 (fun z => nomatch z)
        have n2 : dx ≠ b := ne_of w8 e6 (fun z => nomatch z)
        exact ⟨w3, by show un F.k c = none; rw [un_r _ _ w4, w5]; simp [n1], w5, by show un F.k dx = none; rw [un_r _ _ w6, w7]; simp [n2], w7, w8, vs', w9, w10⟩
  · have up : ∀ {j : Nat}, Ftp H σ (Γ.set n (.bor (inferInstance : Rp (List α)) xs)) j c → Ftp H σ Γ j c := fun {j} h => by
      rcases ftp_set h with ⟨_, _, _, f⟩ | ⟨_, h⟩
      · exact f.elim
      · exact h
    exact r.dj k l c ne (up h1) (up h2)
end
/-- what is lent behind was lent ahead -/
def bsub : List Sl → List Sl → Prop
  | [], _ => True
  | .bor i x :: t, s :: u => s = .bor i x ∧ bsub t u
  | .bor _ _ :: _, [] => False
  | .bl i x :: t, s :: u => s = .bl i x ∧ bsub t u
  | .bl _ _ :: _, [] => False
  | _ :: t, _ :: u => bsub t u
  | _ :: t, [] => bsub t []
def lentSl : Sl → Prop
  | .bor _ _ => True
  | .bl _ _ => True
  | _ => False
theorem bsub_getL : ∀ {Γ2 Γ : List Sl} {k : Nat} {s : Sl}, lentSl s → bsub Γ2 Γ → Γ2[k]? = some s → Γ[k]? = some s
  | [], _, _, _, _, _, h => by simp at h
  | c :: t, u, k, s, hl, b, h => by
    cases k with
    | zero =>
      have e : c = s := by simpa using h
      subst e
      cases u with
      | nil => cases c <;> first | exact hl.elim | exact b.elim
      | cons d u => cases c <;> first | exact hl.elim | (rw [List.getElem?_cons_zero]; exact congrArg some b.1)
    | succ k =>
      have h' : t[k]? = some s := by simpa using h
      cases u with
      | nil =>
        have q : bsub t [] := by cases c <;> first | exact b | exact b.elim
        have := bsub_getL hl q h'
        simp at this
      | cons d u =>
        have q : bsub t u := by cases c <;> first | exact b | exact b.2
        rw [List.getElem?_cons_succ]
        exact bsub_getL hl q h'
theorem bsub_get {Γ2 Γ : List Sl} {k : Nat} {α : Type} {i : Rp α} {x : α} (b : bsub Γ2 Γ) (h : Γ2[k]? = some (.bor i x)) : Γ[k]? = some (.bor i x) := bsub_getL trivial b h
section
variable {K : Kf} {F F' : Fm} {I H0 H H1 H1' : Hp} {σ : St} {Γ Γ2 : List Sl} {m p : Bool} {te : TE}
theorem SR.unlend {α : Type} {i : Rp α} {xs : List α} {n : Nat} {a : Option Addr} {b : Addr} {vs : List V} (r : SR K F I H0 H σ Γ) (r1 : SR K F' H0 H1 H1' σ Γ2) (e1 : σ[n]? = some (some (.ref b))) (e3 : ∀ q, a = some q → b = q) (e4 : F.k b = none) (e5 : H0 b = none) (e7 : Prd (i.rep K H0) vs xs)
    (s1 : Same F.k F'.k) (s2 : F'.k b = some (.lst vs)) (a1 : Same H0 H1) (hn : n < Γ2.length) (hb : bsub (Γ2.set n .un) Γ) : SR K F I H1 H1' σ (Γ2.set n (.own i a xs)) := by
  have down : ∀ {c}, F'.k c = none → F.k c = none := fun {c} h => Same.free s1 h
  refine ⟨s1.trans r1.f, r.i.trans a1, fun c o h n => r1.g c o (s1 _ _ h) (r.g c o h n), r1.h, by simpa using r1.len, fun k s e => ?_, fun k l c ne h1 h2 => ?_⟩
  · rcases get_set e with ⟨rfl, rfl⟩ | ⟨hk, e⟩
    · exact ⟨_, e1, b, vs, rfl, e3, e4, r1.g b _ s2 e5, r1.f _ _ s2, prd_mono (fun _ _ z => i.mono a1 z) e7⟩
    · obtain ⟨ov, w1, w2⟩ := r1.ok k s e
      refine ⟨ov, w1, ?_⟩
      cases s with
      | un => trivial
      | per j x => exact w2
      | bor j x =>
        obtain ⟨v, w3, w4⟩ := w2
        have h1 := bsub_get (k := k) (i := j) (x := x) hb (by rw [List.getElem?_set_ne (Ne.symm hk)]; exact e)
        obtain ⟨ov', z1, z2⟩ := r.ok k _ h1
        rw [w1] at z1
        cases z1
        exact z2
      | bl j x =>
        have h1 := bsub_getL (k := k) (s := .bl j x) trivial hb (by rw [List.getElem?_set_ne (Ne.symm hk)]; exact e)
        obtain ⟨ov', z1, z2⟩ := r.ok k _ h1
        rw [w1] at z1
        cases z1
        exact blOk.mono a1 z2
      | own j p' xs' =>
        obtain ⟨c, vs', w3, w4, w5, w6, w7, w8⟩ := w2
        exact ⟨c, vs', w3, w4, down w5, w6, w7, w8⟩
      | dp j p' xss => exact dpOk.mono (p' := p') w2 (fun d _ z => down z) (fun _ _ z => z) (fun _ _ _ z => z) fun _ _ z => z
      | gn G => exact gnOk.mono w2 (fun d _ z => down z) (fun _ _ z => z) (fun _ _ _ z => z) fun _ z => z
      | ob c C dx fs =>
        obtain ⟨w3, w4, w5, w6, w7, w8, vs', w9, w10⟩ := w2
        exact ⟨w3, down w4, w5, down w6, w7, w8, vs', w9, w10⟩
  · have cl : ∀ {k}, Ftp H1' σ (Γ2.set n (.own i a xs)) k c → (k = n ∧ c = b) ∨ (k ≠ n ∧ Ftp H1' σ Γ2 k c) := fun h => by
      rcases ftp_set h with ⟨z, ov, e, f⟩ | z
      · rw [z, e1] at e
        cases e
        have f' : some (V.ref b) = some (V.ref c) := f
        cases f'
        exact .inl ⟨z, rfl⟩
      · exact .inr z
    have nb : ∀ {k}, Ftp H1' σ Γ2 k c → c ≠ b := fun h z => by
      subst z
      have := (ftp_own r1 h).1
      rw [s2] at this
      cases this
    rcases cl h1 with ⟨z1, y1⟩ | ⟨z1, y1⟩ <;> rcases cl h2 with ⟨z2, y2⟩ | ⟨z2, y2⟩
    · exact ne (z1.trans z2.symm)
    · exact nb y2 y1
    · exact nb y1 y2
    · exact r1.dj k l c ne y1 y2
theorem n_lend {β : Type} {i : Rp β} {xs : List β} {n : Nat} {a : Option Addr} {α : Type} [j : Rp α] {ys : List α} (hn : Γ[n]? = some (.own i a xs)) (hn2 : Γ2[n]? = some (.bor (inferInstance : Rp (List β)) xs)) (h : EN K m te (Γ.set n (.bor (inferInstance : Rp (List β)) xs)) Γ2 ys)
    (hb : bsub (Γ2.set n .un) Γ := by repeat' (first | exact True.intro | refine ⟨rfl, ?_⟩)) : EN K m te Γ (Γ2.set n (.own i a xs)) ys := fun F I H0 H σ r Q q => by
  obtain ⟨b, vs, F', e1, e3, e4, e5, e6, e7, s1, s2, s3, r'⟩ := r.lend2 hn
  have hl : n < Γ2.length := (List.getElem?_eq_some_iff.mp hn2).1
  refine h F' H0 H0 H σ r' Q fun c ws H1 H1' r1 a1 b1 c1 c2 c3 c4 c5 => q c ws H1 H1' (r.unlend r1 e1 e3 e4 e5 e7 s1 s2 a1 hl hb) a1 b1 (Same.free s1 c1) c2 (fun k hk => ?_) c4 c5
  rcases ftp_set hk with ⟨z, ov, e, f⟩ | ⟨_, hk⟩
  · rw [z, e1] at e
    cases e
    have f' : some (V.ref b) = some (V.ref c) := f
    cases f'
    rw [s2] at c1
    cases c1
  · exact c3 k hk
theorem e_lend {β : Type} {i : Rp β} {xs : List β} {n : Nat} {a : Option Addr} {α : Type} [j : Rp α] {y : α} (hn : Γ[n]? = some (.own i a xs)) (hn2 : Γ2[n]? = some (.bor (inferInstance : Rp (List β)) xs)) (h : E K m p te (Γ.set n (.bor (inferInstance : Rp (List β)) xs)) Γ2 y)
    (hb : bsub (Γ2.set n .un) Γ := by repeat' (first | exact True.intro | refine ⟨rfl, ?_⟩)) : E K m p te Γ (Γ2.set n (.own i a xs)) y := fun F I H0 H σ r Q q => by
  obtain ⟨b, vs, F', e1, e3, e4, e5, e6, e7, s1, s2, s3, r'⟩ := r.lend2 hn
  have hl : n < Γ2.length := (List.getElem?_eq_some_iff.mp hn2).1
  exact h F' H0 H0 H σ r' Q fun v H1 H1' r1 a1 b1 c1 => q v H1 H1' (r.unlend r1 e1 e3 e4 e5 e7 s1 s2 a1 hl hb) a1 b1 c1
end
/-! ### shifts -/
section
variable {K : Kf} {Γ Γ1 Γ2 : List Sl} {m1 m2 p1 p2 : Bool} {ta tb : TE}
theorem e_shl {x y : Int} (ha : E K m1 p1 ta Γ Γ1 x) (hb : E K m2 p2 tb Γ1 Γ2 y) (hc : 0 ≤ y ∧ y ≤ 1000000 ∧ x.natAbs < 2 ^ 64) : E K (m1 || m2) true (tOp (rI CPow fun i j => .int (i * 2 ^ j.toNat)) ta tb) Γ Γ2 (x * 2 ^ y.toNat) := e_i ha hb hc fun _ => rfl
theorem e_shr {x y : Int} (ha : E K m1 p1 ta Γ Γ1 x) (hb : E K m2 p2 tb Γ1 Γ2 y) (hc : 0 ≤ y) : E K (m1 || m2) true (tOp (rI (fun _ j => 0 ≤ j) fun i j => .int (i / 2 ^ j.toNat)) ta tb) Γ Γ2 (x / 2 ^ y.toNat) := e_i ha hb hc fun _ => rfl
end
/-! ### enumerate of a tuple -/
def IteT (K : Kf) (a : Addr) (c : Int) : It :=
  ⟨fun i H => ∃ (xs : List V) (x : V), SqT K H a xs ∧ xs[i]? = some x, fun i H v H' => ∃ T x, v = .ref T ∧ H T = none ∧ H' = upd H T (.tup [.int (c + (i : Nat)), x]) ∧ ∀ xs, SqT K H a xs → xs[i]? = some x, fun i H => ∃ xs : List V, SqT K H a xs ∧ xs.length = i⟩
theorem turn_enumT {P : Program} {w : World} {K : PySem.W.Frag} {elts : List Expr} {kk : Nat} {tpos : Pos} (a e it : Addr) (c : Int) :
    Turn P w K (.Tuple elts kk tpos) (IteT K a c) [e, it] e (fun i h => (∃ old, IsEnum h e it (c + ((i : Nat) : Int)) old) ∧ h.IsTupleIter it a i ∧ e ≠ it) where
  mem := by simp
  obj := fun i h st b hb => by
    obtain ⟨⟨old, he⟩, ⟨o, ho, hc, hd⟩, _⟩ := st
    have e' : b = e ∨ b = it := by simpa using hb
    rcases e' with z | z
    · rw [z]; exact ⟨_, he, fun v q => nomatch q⟩
    · rw [z]; exact ⟨o, ho, fun v q => by rw [hd] at q; cases q⟩
  keep := fun i h h' st k => let ⟨⟨old, he⟩, hi, hne⟩ := st; ⟨⟨old, k e (by simp) _ he⟩, hi.at fun o q => k it (by simp) o q, hne⟩
  item := by
    intro X hP hw hK hc i pins s σ H E I hf st hg
    subst hP hw hK
    obtain ⟨⟨old, he⟩, hit, hne⟩ := st
    obtain ⟨xs, x, hq, hx⟩ := hg
    obtain ⟨its, rv, p, hz⟩ := I.tuple hq
    obtain ⟨u, hu, ru⟩ := rv.get hx
    have hel : e < s.heap.objs.size := Heap.lt_size he
    have hil : it < s.heap.objs.size := by obtain ⟨_, q, _⟩ := hit; exact Heap.lt_size q
    have hp : s.heap.IsTuple a its.toArray := p
    have hai : a ≠ it := fun z => by
      subst z
      obtain ⟨o1, h1, h2, _⟩ := hit
      obtain ⟨o2, h3, h4, _⟩ := hp
      rw [h1] at h3
      cases h3
      rw [h2] at h4
      exact absurd h4 (by decide)
    have hae : e ≠ a := fun z => by
      subst z
      obtain ⟨o2, h3, h4, _⟩ := hp
      have h3' := he.symm.trans h3
      cases h3'
      have h5 : (Value.type "enumerate") = Value.type "tuple" := h4
      exact absurd h5 (by decide)
    have hh : X.A.in1.handled = none := I.ok.hd hc
    refine wpAny_pyNext_enum_itemC (Draws.tuple hh it a hai its.toArray) he (i := i) ⟨hit, hp⟩ (by simpa using (List.getElem?_eq_some_iff.mp hu).1) hne (by simp [hne, hae]) fun x' h' tk hP ho hst hT hsz hk => ?_
    refine ⟨_, rfl, wpAny_letOwnedTupleGo_enum (s := { s with heap := h', toks := tk + 1 }) ho fun h'' he' sb => ?_⟩
    have ex : x' = u := by
      have hP' : its[i]? = some x' := by simpa using hP
      rw [hu] at hP'; exact (Option.some.inj hP').symm
    subst ex
    have hT2 : h''.get? s.heap.objs.size = some { cls := .type "tuple", data := .seq #[.int (c + (i : Int)) tk, x'] } := (sb.2 _ (Nat.ne_of_gt hel)).trans hT
    have new : ObjOk X.prog X.w (upd H s.heap.objs.size (.tup [.int (c + (i : Nat)), x])) h'' s.heap.objs.size (.tup [.int (c + (i : Nat)), x]) :=
      ⟨by show 2 ≤ sizeLine; decide, [.int (c + (i : Int)) tk, x'], .cons ⟨_, rfl⟩ (.cons ru .nil), ⟨_, hT2, rfl, _, rfl⟩⟩
    have I1 : Inv X pins σ (upd H s.heap.objs.size (.tup [.int (c + (i : Nat)), x])) { s with heap := h'', toks := tk + 1 } :=
      I.turnedNew (ch := [e, it]) (fun b ob hb q => (sb.2 b (fun z => hb (by simp [z]))).trans (hk b ob (fun z => hb (by simp [z])) (fun z => hb (by simp [z])) q)) hf (Nat.le_refl _) new
    refine ⟨.ref s.heap.objs.size, _, I1, rfl, ⟨_, x, rfl, I.hok.fresh (Nat.le_refl _), rfl, fun ys hy => by rw [I.tuple_inj hy hq]; exact hx⟩, ⟨⟨x', ?_⟩, hst.1.at fun o q => (sb.2 it (Ne.symm hne)).trans q, hne⟩, fun b hb => ?_⟩
    · have e1 : c + ((i + 1 : Nat) : Int) = c + (i : Int) + 1 := by omega
      rw [e1]; exact he'
    · have hb' : b < s.heap.objs.size := by
        have e' : b = e ∨ b = it := by simpa using hb
        rcases e' with z | z
        · rw [z]; exact hel
        · rw [z]; exact hil
      rw [upd_ne (Nat.ne_of_lt hb')]
      exact (hf b hb).1
  done := by
    intro X hP hw hK hc i pins s σ H E I hf st hg
    subst hP hw hK
    obtain ⟨⟨old, he⟩, hit, hne⟩ := st
    obtain ⟨xs, hq, hx⟩ := hg
    obtain ⟨its, rv, p, hz⟩ := I.tuple hq
    obtain ⟨f0, f1, f2, f3, f4, f5⟩ := hf it (by simp)
    have hl := rv.length
    have hp : s.heap.IsTuple a its.toArray := p
    have hai : a ≠ it := fun z => by
      subst z
      obtain ⟨o1, h1, h2, _⟩ := hit
      obtain ⟨o2, h3, h4, _⟩ := hp
      rw [h1] at h3
      cases h3
      rw [h2] at h4
      exact absurd h4 (by decide)
    have hsz : its.toArray.size = i := by rw [List.size_toArray]; omega
    exact wpAny_pyNext_enum_endD (Draws.tuple (show X.A.in1.handled = none from I.ok.hd hc) it a hai its.toArray) he ⟨by rw [hsz]; exact hit, hp⟩ fun h' eb => ⟨rfl, I.turned (t' := s.toks) (fun b o hb q => eb b o hb q) f0 f1 f3 f4 f5⟩
  self := fun A i s Q E st h => let ⟨⟨_, he⟩, _⟩ := st; wpAny_pyIter_enum he h


set_option maxHeartbeats 1000000 in
theorem meets_enumerate_new1 {v : Value} {o : Obj} {Hh : Heap → Prop} (B : Begins v o Hh) :
    Meets (Builtin.«enumerate.__new__» ⟨[.type "enumerate", v], []⟩) (fun _ R s => Hh s.heap ∧
      R (.ok (.ret (.ref (s.heap.push o).objs.size))) { s with heap := (s.heap.push o).push { cls := .type "enumerate", data := .fields #[.none, .bool false, .ref s.heap.objs.size, rawInt 0, .none, .none] } }) :=
  .of_wp fun prog w A R s h => by
    obtain ⟨hp, g, d, tk, os⟩ := s; obtain ⟨h1, h⟩ := h
    have hsub := sub_enumerate
    have q1 : ∀ {A' : Around} {E : Value → Shared → Prop} {Q : Value → Shared → Prop}, Q (.ref hp.objs.size) ⟨hp.push o, g, d, tk, os⟩ → wpAny (model prog w) A' (pyIter v) Q E ⟨hp, g, d, tk, os⟩ :=
      fun q => B.iter prog w _ _ ⟨hp, g, d, tk, os⟩ _ h1 q
    wp_walk using q1
    refine wpAny_stack_any fun st => wpAny_pure ?_
    split
    · rename_i c _ _ _ _ _
      cases (c == Value.type "enumerate")
      · wp_walk using q1
        exact ⟨_, rfl, h⟩
      · wp_walk using q1
        exact ⟨_, rfl, h⟩
    · wp_walk using q1
      exact ⟨_, rfl, h⟩
theorem call_enum1 {prog : Program} {w : World} {A : Around} {E : Value → Shared → Prop} {s : Shared} {v : Value} {o : Obj} {Hh : Heap → Prop} {Q : Value → Shared → Prop} (B : Begins v o Hh) (h1 : Hh s.heap)
    (h : ∀ h', IsEnum h' (s.heap.objs.size + 1) s.heap.objs.size 0 .none → h'.get? s.heap.objs.size = some o → h'.objs.size = s.heap.objs.size + 2 →
      (∀ b o, s.heap.get? b = some o → h'.get? b = some o) → Q (.ref (s.heap.objs.size + 1)) { s with heap := h' }) :
    wpAny (model prog w) A (call (.type "enumerate") [v]) Q E s := by
  refine callType_new F.called_enumerate (by decide) (F.typeCall_enumerate_1 _) (F.newCall_enumerate_1 _) (fun obj => F.args_object_init_2 obj _) F.entry_enumerate_new
    (meets_enumerate_new1 B) ⟨h1, ?_⟩
  have hz : (s.heap.push o).objs.size = s.heap.objs.size + 1 := Heap.size_push ..
  show _ ∧ _
  rw [hz]
  have he : IsEnum ((s.heap.push o).push { cls := .type "enumerate", data := .fields #[.none, .bool false, .ref s.heap.objs.size, rawInt 0, .none, .none] }) (s.heap.objs.size + 1) s.heap.objs.size 0 .none := by
    have := Heap.get?_push_size (s.heap.push o) (o := { cls := .type "enumerate", data := .fields #[.none, .bool false, .ref s.heap.objs.size, rawInt 0, .none, .none] }) rfl
    rw [hz] at this; exact this
  refine ⟨⟨_, he, rfl⟩, h _ he (Heap.get?_push_of_some _ (Heap.get?_push_size _ B.free)) (by rw [Heap.size_push, hz]) fun b o x => Heap.get?_push_of_some _ (Heap.get?_push_of_some _ x)⟩
/-- enumerate of a list or a tuple -/
def iEnumS (K : Kf) (ta : TA) : TI := fun σ H R => ta σ H fun vs H1 => ∃ a, vs = [.ref a] ∧ (((∃ xs, SqL K H1 a xs) ∧ R (Ite K a) H1) ∨ ((∃ xs, SqT K H1 a xs) ∧ R (IteT K a 0) H1))
open PyProof.Rows in
theorem pi_enumS {X : Cx} {e : Expr} {ta : TA} {p pos tpos : Pos} {elts : List Expr} {kk : Nat} (hg : Gl X "enumerate") (hm : X.mg "enumerate" = none) (ha : PA X [e] ta) (hs : starEach [e] X.env = [(false, eval e X.env)] := by rfl) :
    PI X (.Tuple elts kk tpos) (.Call (.Name "enumerate" p) [e] [] pos) (iEnumS X.K ta) := by
  refine ⟨fun pins s σ H R I h => ?_⟩
  refine Call_ (ld_blt I hg hm boot_enumerate (PyProof.Rows.callWith_type1 (thn (ha.run pos pins s σ H _ I h) fun us s1 ⟨vs, H1, I1, r1, q1⟩ => ?_) hs rfl))
  obtain ⟨a, ex, q1⟩ := q1
  subst ex
  cases r1 with
  | cons r rr =>
    cases rr
    cases r
    have fresh2 : ∀ b, b ∈ [s1.heap.objs.size + 1, s1.heap.objs.size] → FpOk X pins H1 b := fun b hb => by
      have e' : b = s1.heap.objs.size + 1 ∨ b = s1.heap.objs.size := by simpa using hb
      have hle : s1.heap.objs.size ≤ b := by
        rcases e' with z | z
        · rw [z]; exact Nat.le_add_right _ _
        · rw [z]; exact Nat.le_refl _
      exact I1.fpOk hle (I1.hok.fresh hle)
    rcases q1 with ⟨⟨xs, hq⟩, q⟩ | ⟨⟨xs, hq⟩, q⟩
    · obtain ⟨its, rv, p', hz⟩ := I1.list hq
      refine call_enumerate_list p'.isList fun h' he hit hsz hk => wpAny_pyIter_enum he ?_
      have I2 : Inv X pins σ H1 { s1 with heap := h' } := I1.kept (t' := s1.toks) hk
      exact ⟨s1.heap.objs.size + 1, [s1.heap.objs.size + 1, s1.heap.objs.size], _, _, H1, rfl, I2, turn_enum a (s1.heap.objs.size + 1) s1.heap.objs.size, ⟨⟨.none, he⟩, hit, Nat.succ_ne_self _⟩, fresh2, q⟩
    · obtain ⟨its, rv, p', hz⟩ := I1.tuple hq
      refine call_enum1 (begins_tuple a its.toArray) p' fun h' he hit hsz hk => wpAny_pyIter_enum he ?_
      have I2 : Inv X pins σ H1 { s1 with heap := h' } := I1.kept (t' := s1.toks) hk
      exact ⟨s1.heap.objs.size + 1, [s1.heap.objs.size + 1, s1.heap.objs.size], _, _, H1, rfl, I2, turn_enumT a (s1.heap.objs.size + 1) s1.heap.objs.size 0, ⟨⟨.none, he⟩, ⟨_, hit, rfl, rfl⟩, Nat.succ_ne_self _⟩, fresh2, q⟩
section
variable {K : Kf} {Γ Γ1 Γ2 : List Sl} {m : Bool} {ta : TA} {α : Type} [i : Rp α]
theorem ite_go {a : Addr} {vs : List V} {xs : List α} {H2 H2' : Hp} (hs' : SqL K H2' a vs) (s3 : Same H2 H2') (hp : Prd (i.rep K H2) vs xs) {n : Nat} (hn : n ≤ xs.length) (Fb : Hp) :
    (n = (enum xs).length → (Ite K a).stop n H2') ∧ (∀ z, (enum xs)[n]? = some z → (Ite K a).go n H2' ∧ ∀ v H3, (Ite K a).yld n H2' v H3 → Yl K true Fb H2 H2' (inferInstance : Rp (Int × α)) z v H3) := by
  have el := prd_len hp
  refine ⟨fun e => ⟨vs, hs', by rw [e, enum_len]; omega⟩, fun z hz => ?_⟩
  obtain ⟨e0, hx⟩ := enum_get hz
  obtain ⟨u, e1, e2⟩ := prd_get hp hx
  refine ⟨⟨vs, u, hs', e1⟩, fun v H3 y => ?_⟩
  obtain ⟨T, x, rfl, hT, e3, e4⟩ := y
  have e5 := e4 vs hs'
  rw [e1] at e5
  cases e5
  refine .inr ⟨T, .tup [.int (n : Nat), u], hT, e3, T, .int (n : Nat), u, rfl, .inl (.inl upd_same), congrArg V.int e0.symm, ?_⟩
  have h2 : H2 T = none := Same.free s3 hT
  have s4 : Same H2 (upd H2 T (HO.tup [V.int (n : Nat), u])) := fun b o e => by rw [upd_ne (ne_of_none e h2)]; exact e
  exact i.mono s4 e2
theorem itet_go {a : Addr} {vs : List V} {xs : List α} {H2 H2' : Hp} (hs' : SqT K H2' a vs) (s3 : Same H2 H2') (hp : Prd (i.rep K H2) vs xs) {n : Nat} (hn : n ≤ xs.length) (Fb : Hp) :
    (n = (enum xs).length → (IteT K a 0).stop n H2') ∧ (∀ z, (enum xs)[n]? = some z → (IteT K a 0).go n H2' ∧ ∀ v H3, (IteT K a 0).yld n H2' v H3 → Yl K true Fb H2 H2' (inferInstance : Rp (Int × α)) z v H3) := by
  have el := prd_len hp
  refine ⟨fun e => ⟨vs, hs', by rw [e, enum_len]; omega⟩, fun z hz => ?_⟩
  obtain ⟨e0, hx⟩ := enum_get hz
  obtain ⟨u, e1, e2⟩ := prd_get hp hx
  refine ⟨⟨vs, u, hs', e1⟩, fun v H3 y => ?_⟩
  obtain ⟨T, x, rfl, hT, e3, e4⟩ := y
  have e5 := e4 vs hs'
  rw [e1] at e5
  cases e5
  refine .inr ⟨T, .tup [.int (0 + (n : Nat)), u], hT, e3, T, .int (0 + (n : Nat)), u, rfl, .inl (.inl upd_same), congrArg V.int (by rw [e0]; omega), ?_⟩
  have h2 : H2 T = none := Same.free s3 hT
  have s4 : Same H2 (upd H2 T (HO.tup [V.int (0 + (n : Nat)), u])) := fun b o e => by rw [upd_ne (ne_of_none e h2)]; exact e
  exact i.mono s4 e2
theorem w_enumS {xs : Sq α} (h : A K m ta Γ Γ1 [ap xs]) : Wlk K true m (iEnumS K ta) Γ Γ1 (inferInstance : Rp (Int × α)) (enum xs.l) := fun F I H0 H σ r R q =>
  h F I H0 H σ r _ fun ws H1 H1' r1 a1 b1 c1 => by
    cases c1 with | cons z1 c1 => cases c1 with | nil =>
    obtain ⟨a, vs, rfl, hs, hp⟩ := z1
    refine ⟨a, rfl, ?_⟩
    rcases hs with hs | hs
    · exact .inl ⟨⟨vs, r1.h.seq hs⟩, q (Ite K a) H1 H1' r1 a1 b1 fun n H2 H2' s2 s3 _ hn => ite_go ((s2.trans s3).seq hs) s3 (prd_mono (fun _ _ z => i.mono s2 z) hp) (by rw [enum_len] at hn; exact hn) F.b⟩
    · exact .inr ⟨⟨vs, same_t r1.h hs⟩, q (IteT K a 0) H1 H1' r1 a1 b1 fun n H2 H2' s2 s3 _ hn => itet_go (same_t (s2.trans s3) hs) s3 (prd_mono (fun _ _ z => i.mono s2 z) hp) (by rw [enum_len] at hn; exact hn) F.b⟩
theorem w_enumT {xs : Tu α} (h : A K m ta Γ Γ1 [ap xs]) : Wlk K true m (iEnumS K ta) Γ Γ1 (inferInstance : Rp (Int × α)) (enum xs.l) := fun F I H0 H σ r R q =>
  h F I H0 H σ r _ fun ws H1 H1' r1 a1 b1 c1 => by
    cases c1 with | cons z1 c1 => cases c1 with | nil =>
    obtain ⟨a, vs, rfl, hs, hp⟩ := z1
    exact ⟨a, rfl, .inr ⟨⟨vs, same_t r1.h hs⟩, q (IteT K a 0) H1 H1' r1 a1 b1 fun n H2 H2' s2 s3 _ hn => itet_go (same_t (s2.trans s3) hs) s3 (prd_mono (fun _ _ z => i.mono s2 z) hp) (by rw [enum_len] at hn; exact hn) F.b⟩⟩
end
end FF

set_option Elab.async false
set_option linter.all false
set_option maxRecDepth 100000
set_option maxHeartbeats 2000000
namespace FF
open PySem L2
/-! ### None or a list that is made anew -/
def ENO (K : Kf) (m : Bool) (te : TE) (Γ Γ' : List Sl) {α : Type} [Rp α] : Option (List α) → Prop
  | none => E K m true te Γ Γ' (none : Option (List α))
  | some ys => EN K m te Γ Γ' ys
def NewRO (K : Kf) {ρ γ : Type} [ib : Rp γ] (rv : ρ → Option (List γ)) (rg : ρ → List Sl) : Rs ρ := fun F H0 H σ v r =>
  match rv r with
  | none => v = .non
  | some ys => ∃ a vs, v = .ref a ∧ F.k a = none ∧ H0 a = none ∧ Fre H σ (rg r) a ∧ H a = some (.lst vs) ∧ Prd (ib.rep K H0) vs ys
abbrev spNO (K : Kf) {ι β : Type} [ib : Rp β] (args : ι → List Sl) (pre : ι → Prop) (res : ι → Option (List β)) (out : ι → List Sl) : Sp := spG K args pre out (NewRO K res out)
def optM {α : Type u} {β : Sort v} (o : Option α) (c0 : β) (c1 : α → β) : β := match o with
  | none => c0
  | some y => c1 y
theorem optM_none {α : Type u} {β : Sort v} (c0 : β) (c1 : α → β) : optM none c0 c1 = c0 := rfl
theorem optM_some {α : Type u} {β : Sort v} (y : α) (c0 : β) (c1 : α → β) : optM (some y) c0 c1 = c1 y := rfl
section
variable {K : Kf} {m m1 : Bool} {te : TE} {Γ Γ1 Γ2 : List Sl} {α : Type} [i : Rp α]
theorem ENO.non {o : Option (List α)} (h : ENO K m te Γ Γ1 o) (e : o = none) : E K m true te Γ Γ1 (none : Option (List α)) := by subst e; exact h
theorem ENO.som {o : Option (List α)} {ys : List α} (h : ENO K m te Γ Γ1 o) (e : o = some ys) : EN K m te Γ Γ1 ys := by subst e; exact h
theorem ENO.ofN {ys : List α} (h : EN K m te Γ Γ1 ys) : ENO K m te Γ Γ1 (some ys) := h
theorem ENO.ofE (h : E K m true te Γ Γ1 (none : Option (List α))) : ENO K m te Γ Γ1 (none : Option (List α)) := h
theorem ENO.e {o : Option (List α)} (h : ENO K m te Γ Γ1 o) : E K m true te Γ Γ1 o := by
  cases o with
  | none => exact h
  | some ys => exact e_some (EN.e h) not_non
theorem n_frzSO {β : Type} {j : Rp β} {xs : List β} {n : Nat} {a : Option Addr} [Sc α] {o : Option (List α)} (hn : Γ[n]? = some (.own j a xs)) (h : ENO K false te (Γ.set n (.per (inferInstance : Rp (List β)) xs)) (Γ.set n (.per (inferInstance : Rp (List β)) xs)) o) : ENO K false te Γ Γ o := by
  cases o with
  | none =>
    exact fun F I H0 H σ r Q q => by
      obtain ⟨b, vs, _, s0, r'⟩ := r.frz hn
      exact h F I _ H σ r' Q fun v H1 H1' r1 a1 b1 c1 => q v H0 H1' (r.ext (b1 rfl)) (Same.refl _) (fun _ => b1 rfl) c1
  | some ys => exact n_frzS hn h
end
section
variable {K : Kf} {m m1 p1 : Bool} {ta tk : TA} {te : TE} {Γ Γ1 Γ2 : List Sl} {ι β : Type} [ib : Rp β] {args : ι → List Sl} {pre : ι → Prop} {resO : ι → Option (List β)} {out : ι → List Sl} {as bs cs ds : List Ar} {dvs : List V} {n k : Nat} {gV : List V → List V → List V}
theorem core_none {F : Fm} {I H0 H : Hp} {σ : St} {vs : List V} {Q : VK} {E : XK} (r : SR K F I H0 H σ Γ) (c : Prd (arOk K H0 H σ) vs as) (d : ι) (hp : pre d) (hm : Mt as (args d)) (hr : resO d = none)
    (q : ∀ H0' H', SR K F I H0' H' σ Γ → Same H0 H0' → Same H H' → Q .non H') : spNO K args pre resO out vs H Q E :=
  call_core r c d hp hm fun v H2 H2' σ' r2 s0 s1 _ rv => by
    have e : v = .non := by unfold NewRO at rv; rw [hr] at rv; exact rv
    subst e
    exact q H2 H2' r2 s0 s1
theorem core_some {F : Fm} {I H0 H : Hp} {σ : St} {vs : List V} {Q : VK} {E : XK} {ys : List β} (r : SR K F I H0 H σ Γ) (c : Prd (arOk K H0 H σ) vs as) (d : ι) (hp : pre d) (hm : Mt as (args d)) (hr : resO d = some ys)
    (q : ∀ a us H0' H', SR K F I H0' H' σ Γ → Same H0 H0' → Same H H' → F.k a = none → H0' a = none → Fre H' σ Γ a → H' a = some (.lst us) → Prd (ib.rep K H0') us ys → Q (.ref a) H') : spNO K args pre resO out vs H Q E :=
  call_core r c d hp hm fun v H2 H2' σ' r2 s0 s1 _ rv => by
    unfold NewRO at rv
    rw [hr] at rv
    obtain ⟨a, us, rfl, z1, z2, z3, z4, z5⟩ := rv
    have ha1 : H a = none := z1
    exact q a us H2 H2' r2 s0 s1 (Same.free r.f ha1) z2 (fre_same r s1 (own_free r ha1)) z4 z5
theorem n_callO (d : ι) (ha : A K m ta Γ Γ1 as) (hm : Mt as (args d)) (hp : pre d) : ENO K m (tCall (spNO K args pre resO out) [] E0 ta) Γ Γ1 (resO d) := by
  cases hr : resO d with
  | none =>
    exact fun F I H0 H σ r Q q => ha F I H0 H σ r _ fun vs H1 H1' r1 a1 b1 c1 => by
      show spNO K args pre resO out (vs ++ []) H1' Q E0
      rw [List.append_nil]
      exact core_none r1 c1 d hp hm hr fun H2 H2' r2 s0 s1 => q _ H2 H2' r2 (a1.trans s0) (fun z => (b1 z).trans s1) rfl
  | some ys =>
    exact fun F I H0 H σ r Q q => ha F I H0 H σ r _ fun vs H1 H1' r1 a1 b1 c1 => by
      show spNO K args pre resO out (vs ++ []) H1' Q E0
      rw [List.append_nil]
      exact core_some r1 c1 d hp hm hr fun a us H2 H2' r2 s0 s1 => q a us H2 H2' r2 (a1.trans s0) (fun z => (b1 z).trans s1)
theorem n_callDO (d : ι) (ha : A K m ta Γ Γ1 as) (hd : ∀ H0 H σ, Prd (arOk K H0 H σ) dvs ds) (hm : Mt (as ++ ds) (args d)) (hp : pre d) : ENO K m (tCall (spNO K args pre resO out) dvs E0 ta) Γ Γ1 (resO d) := by
  cases hr : resO d with
  | none =>
    exact fun F I H0 H σ r Q q => ha F I H0 H σ r _ fun vs H1 H1' r1 a1 b1 c1 =>
      core_none r1 (prd_app c1 (hd _ _ _)) d hp hm hr fun H2 H2' r2 s0 s1 => q _ H2 H2' r2 (a1.trans s0) (fun z => (b1 z).trans s1) rfl
  | some ys =>
    exact fun F I H0 H σ r Q q => ha F I H0 H σ r _ fun vs H1 H1' r1 a1 b1 c1 =>
      core_some r1 (prd_app c1 (hd _ _ _)) d hp hm hr fun a us H2 H2' r2 s0 s1 => q a us H2 H2' r2 (a1.trans s0) (fun z => (b1 z).trans s1)
theorem n_callKwO (d : ι) (ha : A K m ta Γ Γ1 as) (hb : A K false tk Γ1 Γ2 bs) (hn : as.length = n) (hk : bs.length = k) (har : ∀ H0 H σ us ws, Prd (arOk K H0 H σ) us as → Prd (arOk K H0 H σ) ws bs → Prd (arOk K H0 H σ) (gV us ws) cs) (hm : Mt cs (args d)) (hp : pre d) : ENO K m (tCallN n k (spNO K args pre resO out) gV E0 ta tk) Γ Γ2 (resO d) := by
  cases hr : resO d with
  | none =>
    exact fun F I H0 H σ r Q q => ha F I H0 H σ r _ fun us H1 H1' r1 a1 b1 c1 => hb F I H1 H1' σ r1 _ fun ws H2 H2' r2 a2 b2 c2 => by
      have c1' : Prd (arOk K H2 H2' σ) us as := prd_mono (fun _ _ z => ar_mono a2 (b2 rfl) z) c1
      refine ⟨(prd_len c1).trans hn, (prd_len c2).trans hk, ?_⟩
      exact core_none r2 (har _ _ _ _ _ c1' c2) d hp hm hr fun H3 H3' r3 s0 s1 => q _ H3 H3' r3 ((a1.trans a2).trans s0) (fun z => ((b1 z).trans (b2 rfl)).trans s1) rfl
  | some ys =>
    exact fun F I H0 H σ r Q q => ha F I H0 H σ r _ fun us H1 H1' r1 a1 b1 c1 => hb F I H1 H1' σ r1 _ fun ws H2 H2' r2 a2 b2 c2 => by
      have c1' : Prd (arOk K H2 H2' σ) us as := prd_mono (fun _ _ z => ar_mono a2 (b2 rfl) z) c1
      refine ⟨(prd_len c1).trans hn, (prd_len c2).trans hk, ?_⟩
      exact core_some r2 (har _ _ _ _ _ c1' c2) d hp hm hr fun a us H3 H3' r3 s0 s1 => q a us H3 H3' r3 ((a1.trans a2).trans s0) (fun z => ((b1 z).trans (b2 rfl)).trans s1)
end
section
variable {K : Kf} {S ρ γ : Type} [ib : Rp γ] {m : Bool} {te : TE} {t u : TS} {Γ Γ1 : List Sl} {Γs : S → List Sl} {rp : Rs ρ} {rg : ρ → List Sl}
theorem r_retO {rv : ρ → Option (List γ)} {o : Option (List γ)} {r : ρ} (h : ENO K m te Γ Γ1 o) (e : o = rv r) (w : Wk Γ1 (rg r)) : R K (tSeq (tRet te) u) Γ (NewRO K rv rg) rg r := by
  subst e
  cases hr : rv r with
  | none => rw [hr] at h; exact fun F I H0 H σ D z q _ => h F I H0 H σ z _ fun v H1 H1' r1 a1 b1 c1 => q v H1 H1' σ a1 (wk_sr r1 w) (by unfold NewRO; rw [hr]; exact c1)
  | some ys => rw [hr] at h; exact fun F I H0 H σ D z q _ => h F I H0 H σ z _ fun a vs H1 H1' r1 a1 b1 z1 z2 z3 z4 z5 => q _ H1 H1' σ a1 (wk_sr r1 w) (by unfold NewRO; rw [hr]; exact ⟨a, vs, rfl, z1, z2, wk_own w z3, z4, z5⟩)
theorem b_retO {rv : ρ → Option (List γ)} {o : Option (List γ)} {r : ρ} (h : ENO K m te Γ Γ1 o) (e : o = rv r) (w : Wk Γ1 (rg r)) : B K (tSeq (tRet te) u) Γ Γs (NewRO K rv rg) rg (.rt r) := by
  subst e
  cases hr : rv r with
  | none => rw [hr] at h; exact fun F I H0 H σ D z q => h F I H0 H σ z _ fun v H1 H1' r1 a1 b1 c1 => q v H1 H1' σ a1 (wk_sr r1 w) (by unfold NewRO; rw [hr]; exact c1)
  | some ys => rw [hr] at h; exact fun F I H0 H σ D z q => h F I H0 H σ z _ fun a vs H1 H1' r1 a1 b1 z1 z2 z3 z4 z5 => q _ H1 H1' σ a1 (wk_sr r1 w) (by unfold NewRO; rw [hr]; exact ⟨a, vs, rfl, z1, z2, wk_own w z3, z4, z5⟩)
theorem r_endO {rv : ρ → Option (List γ)} {r : ρ} (e : rv r = none) (w : Wk Γ (rg r)) : R K tNext Γ (NewRO K rv rg) rg r := fun F I H0 H σ D z _ n => n H0 H σ (Same.refl _) (wk_sr z w) (by unfold NewRO; rw [e])
theorem r_opt {α : Type u} {o : Option α} {c0 : ρ} {c1 : α → ρ} (h0 : o = none → R K t Γ rp rg c0) (h1 : ∀ y, o = some y → R K t Γ rp rg (c1 y)) : R K t Γ rp rg (optM o c0 c1) := by
  cases o with
  | none => exact h0 rfl
  | some y => exact h1 y rfl
theorem b_opt {α : Type u} {o : Option α} {c0 : Ctl S ρ} {c1 : α → Ctl S ρ} (h0 : o = none → B K t Γ Γs rp rg c0) (h1 : ∀ y, o = some y → B K t Γ Γs rp rg (c1 y)) : B K t Γ Γs rp rg (optM o c0 c1) := by
  cases o with
  | none => exact h0 rfl
  | some y => exact h1 y rfl
theorem e_isNn {α : Type} [i : Rp α] {m p : Bool} {ta : TE} (ha : E K m p ta Γ Γ1 (none : Option α)) : E K m true (tIsN ta) Γ Γ1 true := e_isN ha
theorem e_notNn {α : Type} [i : Rp α] {m p : Bool} {ta : TE} (ha : E K m p ta Γ Γ1 (none : Option α)) : E K m true (tNotN ta) Γ Γ1 false := e_notN ha
theorem b_no {c : Ctl S ρ} (h : False) : B K t Γ Γs rp rg c := h.elim
end
end FF

set_option Elab.async false
set_option linter.all false
set_option maxRecDepth 100000
set_option maxHeartbeats 2000000
namespace FF
open PySem L2
/-! ### xs[::-1], xs[::2], xs.extend(ys) -/
def ev2 {α : Type u} : List α → List α
  | [] => []
  | [x] => [x]
  | x :: _ :: t => x :: ev2 t
theorem ev2_len {α : Type u} : ∀ xs : List α, (ev2 xs).length ≤ xs.length
  | [] => Nat.le_refl _
  | [x] => Nat.le_refl _
  | x :: y :: t => by have := ev2_len t; simp only [ev2, List.length_cons]; omega
theorem ev2_sub {α : Type u} : ∀ xs : List α, (ev2 xs).Sublist xs
  | [] => .slnil
  | [x] => List.Sublist.refl _
  | x :: y :: t => ((ev2_sub t).cons y).cons_cons x
theorem prd_ev2 {α : Type u} {β : Type v} {F : α → β → Prop} : ∀ {xs : List α} {ys : List β}, Prd F xs ys → Prd F (ev2 xs) (ev2 ys)
  | _, _, .nil => .nil
  | _, _, .cons r .nil => .cons r .nil
  | _, _, .cons r (.cons _ t) => .cons r (prd_ev2 t)
theorem vals_ev2 : ∀ {xs : List V} {us : List Value}, Vals xs us → Vals (ev2 xs) (ev2 us)
  | _, _, .nil => .nil
  | _, _, .cons r .nil => .cons r .nil
  | _, _, .cons r (.cons _ t) => .cons r (vals_ev2 t)
theorem ev2_pick {α : Type u} : ∀ xs : List α, ev2 xs = (List.range ((xs.length + 1) / 2)).filterMap fun k => xs[2 * k]?
  | [] => by simp [ev2]
  | [x] => by simp [ev2]
  | x :: y :: t => by
    have e : ((x :: y :: t).length + 1) / 2 = (t.length + 1) / 2 + 1 := by simp only [List.length_cons]; omega
    rw [e, List.range_succ_eq_map, List.filterMap_cons]
    show _ = x :: _
    rw [List.filterMap_map]
    show x :: ev2 t = x :: _
    rw [ev2_pick t]
    congr 1
theorem pick2 (items : Array Value) : slicePick items none none (some 2) = (ev2 items.toList).toArray := by
  unfold slicePick
  have hb : sliceBounds none none (some 2) items.size = (0, (items.size : Int), 2) := by first | rfl | simp [sliceBounds]
  rw [hb]
  show ((sliceRange 0 (items.size : Int) 2).filterMap (items[·]?)).toArray = _
  have hr : sliceRange 0 (items.size : Int) 2 = (List.range ((items.size + 1) / 2)).map fun k => 2 * k := by
    unfold sliceRange
    have e : (if (2 : Int) > 0 then (if (0 : Int) < (items.size : Int) then ((items.size : Int) - 0 + 2 - 1) / 2 else 0) else (if (0 : Int) > (items.size : Int) then (0 - (items.size : Int) - 2 - 1) / (-2) else 0)).toNat = (items.size + 1) / 2 := by
      rw [if_pos (by decide)]
      split <;> omega
    dsimp only
    rw [e]
    apply List.map_congr_left
    intro k _
    omega
  rw [hr, List.filterMap_map, ev2_pick, Array.length_toList]
  have ef : ((fun x => items[x]?) ∘ fun k => 2 * k) = fun k => items.toList[2 * k]? := by
    funext k
    simp
  rw [ef]
def tEv2 (K : PySem.W.Frag) (te : TE) : TE := fun σ H Q => te σ H fun x H1 => ∃ a xs, x = .ref a ∧ SqL K H1 a xs ∧ ∀ p, H1 p = none → Q (.ref p) (upd H1 p (.lst (ev2 xs)))
open PyProof.Rows in
theorem pe_ev2 {X : Cx} {e : Expr} {te : TE} {k : Nat} {p1 p3 pos : Pos} (he : PE X e te) : PE X (.Subscript e (.Slice none none (some (.Constant (.int 2) k p1)) p3) pos) (tEv2 X.K te) := by
  refine ⟨fun pins s σ H Q I h => ?_⟩
  refine Subscript_ (thn (he.run pins s σ H _ I h) fun v s1 ⟨x, H1, I1, r1, q1⟩ => ?_)
  obtain ⟨a, xs, ex, hx, q⟩ := q1
  subst ex
  cases r1
  have hst : PO X (some (.Constant (.int 2) k p1)) (tPart (tC (.int 2))) := po_some pe_int
  refine wpAny_Slice (thn (po_none.run pins s1 σ H1 (fun o H2 => o = none ∧ H2 = H1) I1 ⟨rfl, rfl⟩) fun vl s2 ⟨l, H2, I2, pl, el, e2⟩ => ?_)
  subst el e2
  refine thn (po_none.run pins s2 σ H2 (fun o H3 => o = none ∧ H3 = H2) I2 ⟨rfl, rfl⟩) fun vu s3 ⟨u, H3, I3, pu, eu, e3⟩ => ?_
  subst eu e3
  refine thn (hst.run pins s3 σ H3 (fun o H4 => o = some 2 ∧ H4 = H3) I3 ⟨2, rfl, rfl, rfl⟩) fun vs s4 ⟨o, H4, I4, ps, eo, e4⟩ => ?_
  subst eo e4
  have I5 : Inv X pins σ H4 { s4 with heap := s4.heap.push { cls := .type "slice", data := .fields #[vl, vu, vs] } } := I4.kept (t' := s4.toks) fun b ob q => Heap.get?_push_of_some _ q
  obtain ⟨its, r, ht, hz⟩ := I5.list hx
  have hlen := r.length
  show wpAny (model X.prog X.w) X.A (subscriptTail e (.Slice none none (some (.Constant (.int 2) k p1)) p3) (.ref a) (.ref s4.heap.objs.size)) (EP X pins σ Q) X.xe { s4 with heap := s4.heap.push { cls := .type "slice", data := .fields #[vl, vu, vs] } }
  refine tail_any (ops := [.ref a, .ref s4.heap.objs.size]) ht.isList.typeIs (PySem.slot_list_getitem.lookup) ?_ (by with_unfolding_all rfl)
  refine wpAny_getItem_list_slice ht.isList (Heap.IsSliceOf.new _ vl vu vs) pl pu ps (by decide) ?_ (by rw [List.size_toArray]; omega)
  rw [pick2]
  refine ⟨.ref _, _, I5.laid (t' := s4.toks) (o := .lst (ev2 xs)) (fun b ob q => Heap.get?_push_of_some _ q) (Nat.le_refl _) ?_, rfl, q _ (I5.hok.fresh (Nat.le_refl _))⟩
  exact ⟨Nat.le_trans (ev2_len xs) hz, _, 0, vals_ev2 r, Heap.get?_push_size _ rfl⟩
section
variable {K : Kf} {m p : Bool} {te : TE} {Γ Γ1 Γ2 : List Sl} {α : Type} [i : Rp α]
theorem n_revL {xs : List α} (h : E K m true te Γ Γ1 xs) : EN K m (tRevL K te) Γ Γ1 xs.reverse := fun F I H0 H σ r Q q =>
  h F I H0 H σ r _ fun v H1 H1' r1 a1 b1 c1 => by
    obtain ⟨a, vs, rfl, hs, hp⟩ := rl c1
    refine ⟨a, vs, rfl, r1.h.seq hs, fun l hl => ?_⟩
    obtain ⟨r4, s1, z1, z2, z3⟩ := r1.fresh (vs := vs.reverse) hl
    exact q _ _ _ _ r4 a1 (fun z => (b1 z).trans s1) z1 z2 z3 upd_same (prd_rev hp)
theorem n_revLB [Sc α] {xs : List α} (h : E K m p te Γ Γ1 xs) : EN K m (tRevL K te) Γ Γ1 xs.reverse := fun F I H0 H σ r Q q =>
  h.nowP F I H0 H σ r _ fun v H1 H1' r1 a1 b1 c1 => by
    obtain ⟨a, vs, rfl, hs, hp⟩ := rl c1
    refine ⟨a, vs, rfl, hs, fun l hl => ?_⟩
    obtain ⟨r4, s1, z1, z2, z3⟩ := r1.fresh (vs := vs.reverse) hl
    exact q _ _ _ _ r4 a1 (fun z => (b1 z).trans s1) z1 z2 z3 upd_same (prd_mono (fun _ _ z => Sc.any z) (prd_rev hp))
theorem n_ev2 {xs : List α} (h : E K m true te Γ Γ1 xs) : EN K m (tEv2 K te) Γ Γ1 (ev2 xs) := fun F I H0 H σ r Q q =>
  h F I H0 H σ r _ fun v H1 H1' r1 a1 b1 c1 => by
    obtain ⟨a, vs, rfl, hs, hp⟩ := rl c1
    refine ⟨a, vs, rfl, r1.h.seq hs, fun l hl => ?_⟩
    obtain ⟨r4, s1, z1, z2, z3⟩ := r1.fresh (vs := ev2 vs) hl
    exact q _ _ _ _ r4 a1 (fun z => (b1 z).trans s1) z1 z2 z3 upd_same (prd_ev2 hp)
/-- xs.extend(ys) -/
theorem g_ext {ys zs : List α} {xs : List α} {n : Nat} {a a' : Option Addr} (h0 : Γ[n]? = some (.own i a' ys)) (h : E K m true te Γ Γ1 zs) (hn : Γ1[n]? = some (.own i a xs)) (hz : xs.length + zs.length < 100000) :
    Go K (tDrop (tBM K "list" rExtend (tVar n) (tCons te tNil))) Γ (Γ1.set n (.own i a (xs ++ zs))) := fun F I H0 H σ D r q => by
  obtain ⟨b, vs, e1, f1, f2, f3, f4⟩ := own_at r h0
  refine ⟨.ref b, e1, Or.inl ⟨rfl, vs, SqL.of f3⟩, h F I H0 H σ r _ fun v H1 H1' r1 a1 b1 c1 => ?_⟩
  obtain ⟨b', vs', e1', g1, g2, g3, g4⟩ := own_at r1 hn
  rw [e1] at e1'
  cases e1'
  obtain ⟨c, us, rfl, hc, hp⟩ := c1
  refine ⟨b, c, vs', us, rfl, rfl, g3, r1.h _ _ hc, ?_, q _ _ σ a1 (r1.mut hn e1 (prd_app g4 hp))⟩
  rw [prd_len g4, prd_len hp]
  exact Nat.le_of_lt (Nat.lt_of_lt_of_le hz (by decide))
end
end FF

set_option Elab.async false
set_option linter.all false
set_option maxRecDepth 100000
set_option maxHeartbeats 2000000
namespace FF
open PySem L2 TL
/-! ### a list of one's own stands still while another one is changed -/
def ScP {α : Type} (i : Rp α) : Prop := ∀ (K : Kf) (H H' : Hp) (v : V) (x : α), i.rep K H v x → i.rep K H' v x
def fsub : List Sl → List Sl → Prop
  | [], _ => True
  | .un :: t, _ :: u => fsub t u
  | .un :: t, [] => fsub t []
  | .per i x :: t, s :: u => s = .per i x ∧ fsub t u
  | .bor i x :: t, s :: u => s = .bor i x ∧ fsub t u
  | .bl i x :: t, s :: u => s = .bl i x ∧ fsub t u
  | .own i _ _ :: t, _ :: u => ScP i ∧ fsub t u
  | .dp i _ _ :: t, _ :: u => ScP i ∧ fsub t u
  | _ :: _, _ => False
theorem fsub_get : ∀ {Γ2 Γ : List Sl} {k : Nat} {s : Sl}, fsub Γ2 Γ → Γ2[k]? = some s → match s with | .un => True | .per i x => Γ[k]? = some (.per i x) | .bor i x => Γ[k]? = some (.bor i x) | .bl i x => Γ[k]? = some (.bl i x) | .own i _ _ => ScP i | .dp i _ _ => ScP i | .ob _ _ _ _ => False | .gn _ => False
  | [], _, _, _, _, h => by simp at h
  | .un :: t, s :: u, k, z, b, h => by
    cases k with
    | zero => rw [List.getElem?_cons_zero] at h; cases h; trivial
    | succ k => rw [List.getElem?_cons_succ] at h; have := fsub_get (Γ2 := t) (Γ := u) b h; cases z <;> simpa using this
  | .un :: t, [], k, z, b, h => by
    cases k with
    | zero => rw [List.getElem?_cons_zero] at h; cases h; trivial
    | succ k => rw [List.getElem?_cons_succ] at h; have := fsub_get (Γ2 := t) (Γ := []) b h; cases z <;> simpa using this
  | .per i x :: t, s :: u, k, z, b, h => by
    cases k with
    | zero => rw [List.getElem?_cons_zero] at h; cases h; rw [List.getElem?_cons_zero, b.1]
    | succ k => rw [List.getElem?_cons_succ] at h; have := fsub_get (Γ2 := t) (Γ := u) b.2 h; cases z <;> simpa using this
  | .bor i x :: t, s :: u, k, z, b, h => by
    cases k with
    | zero => rw [List.getElem?_cons_zero] at h; cases h; rw [List.getElem?_cons_zero, b.1]
    | succ k => rw [List.getElem?_cons_succ] at h; have := fsub_get (Γ2 := t) (Γ := u) b.2 h; cases z <;> simpa using this
  | .bl i x :: t, s :: u, k, z, b, h => by
    cases k with
    | zero => rw [List.getElem?_cons_zero] at h; cases h; rw [List.getElem?_cons_zero, b.1]
    | succ k => rw [List.getElem?_cons_succ] at h; have := fsub_get (Γ2 := t) (Γ := u) b.2 h; cases z <;> simpa using this
  | .own i p x :: t, s :: u, k, z, b, h => by
    cases k with
    | zero => rw [List.getElem?_cons_zero] at h; cases h; exact b.1
    | succ k => rw [List.getElem?_cons_succ] at h; have := fsub_get (Γ2 := t) (Γ := u) b.2 h; cases z <;> simpa using this
  | .dp i p x :: t, s :: u, k, z, b, h => by
    cases k with
    | zero => rw [List.getElem?_cons_zero] at h; cases h; exact b.1
    | succ k => rw [List.getElem?_cons_succ] at h; have := fsub_get (Γ2 := t) (Γ := u) b.2 h; cases z <;> simpa using this
  | .ob _ _ _ _ :: _, _ :: _, _, _, b, _ => b.elim
  | .ob _ _ _ _ :: _, [], _, _, b, _ => b.elim
  | .gn _ :: _, _ :: _, _, _, b, _ => b.elim
  | .gn _ :: _, [], _, _, b, _ => b.elim
  | .per _ _ :: _, [], _, _, b, _ => b.elim
  | .bor _ _ :: _, [], _, _, b, _ => b.elim
  | .bl _ _ :: _, [], _, _, b, _ => b.elim
  | .own _ _ _ :: _, [], _, _, b, _ => b.elim
  | .dp _ _ _ :: _, [], _, _, b, _ => b.elim
section
variable {K : Kf} {F : Fm} {I H0 H H1 H1' : Hp} {σ : St} {Γ Γ2 : List Sl} {m p : Bool} {te : TE} {b : Addr} {vs : List V}
theorem SR.thaw {α : Type} {i : Rp α} {xs : List α} {n : Nat} {a : Option Addr} (r : SR K F I H0 H σ Γ) (hn : Γ[n]? = some (.own i a xs)) (e1 : σ[n]? = some (some (.ref b))) (a1 : Same (upd H0 b (.lst vs)) H1) (r1 : SR K F I H1 H1' σ Γ2) (hl : n < Γ2.length) (hb : fsub (Γ2.set n .un) Γ) (hv : Prd (i.rep K H0) vs xs) :
    Same H0 (but b H1) ∧ SR K F I (but b H1) H1' σ (Γ2.set n (.own i a xs)) := by
  obtain ⟨ov, q1, c, vs', q2, q3, q4, q5, q6, q7⟩ := r.ok n _ hn
  have ec : b = c := by rw [q1, q2] at e1; cases e1; rfl
  subst ec
  have s0 : Same H0 (but b H1) := fun c o h => by
    have hc : c ≠ b := ne_of_none h q5
    rw [but_ne hc]
    exact a1 _ _ (by rw [upd_ne hc]; exact h)
  have sub : Same (but b H1) H1 := fun c o h => (of_but h).2
  have hself : H1 b = some (.lst vs) := a1 _ _ upd_same
  have none_of : ∀ {c}, H1 c = none → but b H1 c = none := fun {c} h => by
    by_cases hc : c = b
    · subst hc; exact but_self
    · rw [but_ne hc]; exact h
  refine ⟨s0, ⟨r1.f, r.i.trans s0, fun c o h n => none_of (r1.g c o h n), sub.trans r1.h, by simpa using r1.len, fun k s e => ?_, fun k l c ne h1 h2 => ?_⟩⟩
  · rcases get_set e with ⟨rfl, rfl⟩ | ⟨hk, e⟩
    · exact ⟨_, e1, b, vs, rfl, q3, q4, but_self, r1.h _ _ hself, prd_mono (fun _ _ z => i.mono s0 z) hv⟩
    · obtain ⟨ov', w1, w2⟩ := r1.ok k s e
      have hf := fsub_get (k := k) (s := s) hb (by rw [List.getElem?_set_ne (Ne.symm hk)]; exact e)
      refine ⟨ov', w1, ?_⟩
      cases s with
      | un => trivial
      | per j x =>
        obtain ⟨ov2, z1, v, z2, z3⟩ := r.ok k _ hf
        rw [w1] at z1
        cases z1
        exact ⟨v, z2, j.mono s0 z3⟩
      | bor j x =>
        obtain ⟨ov2, z1, z2⟩ := r.ok k _ hf
        rw [w1] at z1
        cases z1
        exact z2
      | bl j x =>
        obtain ⟨ov2, z1, z2⟩ := r.ok k _ hf
        rw [w1] at z1
        cases z1
        exact blOk.mono s0 z2
      | own j p' xs' =>
        obtain ⟨c, vs', w3, w4, w5, w6, w7, w8⟩ := w2
        exact ⟨c, vs', w3, w4, w5, none_of w6, w7, prd_mono (fun _ _ z => hf _ _ _ _ _ z) w8⟩
      | dp j p' xss => exact dpOk.mono (p' := p') w2 (fun _ _ z => z) (fun d _ z => none_of z) (fun _ _ _ z => z) fun _ _ z => hf _ _ _ _ _ z
      | gn G => exact hf.elim
      | ob c C dx fs => exact hf.elim
  · have cl : ∀ {k}, Ftp H1' σ (Γ2.set n (.own i a xs)) k c → (k = n ∧ c = b) ∨ (k ≠ n ∧ Ftp H1' σ Γ2 k c) := fun h => by
      rcases ftp_set h with ⟨z, ov, e, f⟩ | z
      · rw [z, e1] at e
        cases e
        have f' : some (V.ref b) = some (V.ref c) := f
        cases f'
        exact .inl ⟨z, rfl⟩
      · exact .inr z
    have nb : ∀ {k}, Ftp H1' σ Γ2 k c → c ≠ b := fun h z => by
      subst z
      have := (ftp_own r1 h).2.1
      rw [hself] at this
      cases this
    rcases cl h1 with ⟨z1, y1⟩ | ⟨z1, y1⟩ <;> rcases cl h2 with ⟨z2, y2⟩ | ⟨z2, y2⟩
    · exact ne (z1.trans z2.symm)
    · exact nb y2 y1
    · exact nb y1 y2
    · exact r1.dj k l c ne y1 y2
theorem frz_vs {α : Type} {i : Rp α} {xs : List α} {n : Nat} {a : Option Addr} (r : SR K F I H0 H σ Γ) (hn : Γ[n]? = some (.own i a xs)) : ∃ b vs, σ[n]? = some (some (.ref b)) ∧ Prd (i.rep K H0) vs xs ∧ SR K F I (upd H0 b (.lst vs)) H σ (Γ.set n (.per (inferInstance : Rp (List α)) xs)) := by
  obtain ⟨b, vs, e1, f1, f2, f3, f4⟩ := own_at r hn
  obtain ⟨b', vs', e1', s0, r'⟩ := r.frz hn
  rw [e1] at e1'
  cases e1'
  have e : vs' = vs := by
    have h1 := r'.h b _ upd_same
    rw [f3] at h1
    cases h1
    rfl
  subst e
  exact ⟨b, vs', e1, f4, r'⟩
theorem e_frzM {β : Type} {i : Rp β} {xs : List β} {n : Nat} {a : Option Addr} {α : Type} [Rp α] [Sc α] {x : α} (hn : Γ[n]? = some (.own i a xs)) (hn2 : Γ2[n]? = some (.per (inferInstance : Rp (List β)) xs)) (h : E K m p te (Γ.set n (.per (inferInstance : Rp (List β)) xs)) Γ2 x)
    (hb : fsub (Γ2.set n .un) Γ := by repeat' (first | exact True.intro | refine ⟨rfl, ?_⟩ | refine ⟨fun _ _ _ _ _ h => h, ?_⟩)) : E K m true te Γ (Γ2.set n (.own i a xs)) x := fun F I H0 H σ r Q q => by
  obtain ⟨b, vs, e1, hv, r'⟩ := frz_vs r hn
  have hl : n < Γ2.length := (List.getElem?_eq_some_iff.mp hn2).1
  refine h F I _ H σ r' Q fun v H1 H1' r1 a1 b1 c1 => ?_
  obtain ⟨s0, r2⟩ := r.thaw hn e1 a1 r1 hl hb hv
  exact q v _ H1' r2 s0 b1 (Sc.any c1)
theorem n_frzM {β : Type} {i : Rp β} {xs : List β} {n : Nat} {a : Option Addr} {α : Type} [j : Rp α] [Sc α] {ys : List α} (hn : Γ[n]? = some (.own i a xs)) (hn2 : Γ2[n]? = some (.per (inferInstance : Rp (List β)) xs)) (h : EN K m te (Γ.set n (.per (inferInstance : Rp (List β)) xs)) Γ2 ys)
    (hb : fsub (Γ2.set n .un) Γ := by repeat' (first | exact True.intro | refine ⟨rfl, ?_⟩ | refine ⟨fun _ _ _ _ _ h => h, ?_⟩)) : EN K m te Γ (Γ2.set n (.own i a xs)) ys := fun F I H0 H σ r Q q => by
  obtain ⟨b, vs, e1, hv, r'⟩ := frz_vs r hn
  have hl : n < Γ2.length := (List.getElem?_eq_some_iff.mp hn2).1
  refine h F I _ H σ r' Q fun c us H1 H1' r1 a1 b1 c1 c2 c3 c4 c5 => ?_
  obtain ⟨s0, r2⟩ := r.thaw hn e1 a1 r1 hl hb hv
  have hself : H1 b = some (.lst vs) := a1 _ _ upd_same
  refine q c us _ H1' r2 s0 b1 c1 ?_ (fun k hk => ?_) c4 (prd_mono (fun _ _ z => Sc.any z) c5)
  · by_cases hc : c = b
    · subst hc; exact but_self
    · rw [but_ne hc]; exact c2
  · rcases ftp_set hk with ⟨z, ov, e, f⟩ | ⟨_, hk⟩
    · rw [z, e1] at e
      cases e
      have f' : some (V.ref b) = some (V.ref c) := f
      cases f'
      rw [hself] at c2
      cases c2
    · exact c3 k hk
end
/-! ### texts: an item, a cut, sums, joins -/
/-- the codes of a text -/
abbrev cds (x : PySem.Str) : List Nat := x.cps.toList
def mkS (l : List Nat) : PySem.Str := ⟨l.toArray⟩
theorem cds_mk (l : List Nat) : cds (mkS l) = l := rfl
theorem mk_cds (x : PySem.Str) : mkS (cds x) = x := by cases x; rfl
theorem cds_len (x : PySem.Str) : (cds x).length = x.length := Array.length_toList
def sI (x : PySem.Str) (k : Int) : PySem.Str := mkS [gi (cds x) k]
def sG (x : PySem.Str) (lo hi : Option Int) : PySem.Str := mkS (gs (cds x) lo hi)
def sA (x y : PySem.Str) : PySem.Str := mkS (cds x ++ cds y)
def sJ (ys : List PySem.Str) : PySem.Str := mkS (ys.flatMap cds)
theorem sA_eq (x y : PySem.Str) : x ++ y = sA x y := by
  show (⟨x.cps ++ y.cps⟩ : PySem.Str) = ⟨(x.cps.toList ++ y.cps.toList).toArray⟩
  congr 1
  apply Array.ext'
  simp
theorem joinL_nil : ∀ ls : List (List Nat), joinL [] ls = ls.flatMap id
  | [] => rfl
  | [p] => by simp [joinL]
  | p :: q :: r => by
    show p ++ ([] ++ joinL [] (q :: r)) = _
    rw [joinL_nil (q :: r)]
    simp
theorem sJ_eq (ys : List PySem.Str) : Txt.join (PySem.Str.ofString "") ys = sJ ys := by
  rw [join_eq, ← mk_cds (PySem.Str.join _ _)]
  show mkS (tl _) = _
  rw [tl_join]
  have e : tl (PySem.Str.ofString "") = [] := by decide
  rw [e, joinL_nil, List.flatMap_map]
  rfl
theorem gi_atI {α : Type} [Inhabited α] {xs : List α} {k : Int} (h : -(xs.length : Int) ≤ k ∧ k < xs.length) : atI xs k = some (gi xs k) := by
  unfold atI ixN gi
  by_cases hk : 0 ≤ k
  · rw [if_pos hk, if_pos (by omega), if_pos hk]
    show xs[k.toNat]? = _
    rw [List.getD_eq_getElem?_getD, List.getElem?_eq_getElem (show k.toNat < xs.length by omega)]
    rfl
  · rw [if_neg hk, if_pos (by omega), if_neg hk]
    show xs[(k + xs.length).toNat]? = _
    rw [List.getD_eq_getElem?_getD, List.getElem?_eq_getElem (show (k + (xs.length : Int)).toNat < xs.length by omega)]
    rfl
section
variable {K : Kf} {m m1 m2 p p1 p2 : Bool} {te ta tb : TE} {Γ Γ1 Γ2 : List Sl}
theorem e_ixStr {x : PySem.Str} {k : Int} (ha : E K m1 p1 ta Γ Γ1 x) (hb : E K m2 p2 tb Γ1 Γ2 k) (h : x.length ≤ 100000 ∧ -(x.length : Int) ≤ k ∧ k < x.length) : E K (m1 || m2) true (tOp rIxS ta tb) Γ Γ2 (sI x k) := fun F I H0 H σ r Q q =>
  ha.sc F I H0 H σ r _ fun v H1 H1' r1 a1 b1 c1 => hb.sc F I H1 H1' σ r1 _ fun w H2 H2' r2 a2 b2 c2 => by
    cases (show v = V.str x from c1)
    cases (show w = V.int k from c2)
    exact ⟨x, k, gi (cds x) k, rfl, rfl, Nat.le_trans h.1 (by decide), gi_atI (by rw [cds_len]; exact h.2), q _ H2 H2' r2 (a1.trans a2) (same_mm b1 b2) rfl⟩
theorem cut_eq (x : PySem.Str) (lo hi : Option Int) : cutS x lo hi = sG x lo hi := by
  unfold cutS sG mkS
  have e : gs (cds x) lo hi = ((cds x).drop (HT.sIx (cds x).length 0 lo)).take (HT.sIx (cds x).length (cds x).length hi - HT.sIx (cds x).length 0 lo) := rfl
  rw [e, cds_len]
theorem e_slStr {x : PySem.Str} {tl th : TO} {lo hi : Option Int} (h : E K m p te Γ Γ1 x) (hl : O K tl Γ1 lo) (hh : O K th Γ1 hi) (hz : x.length ≤ 100000) : E K m true (tSl rSlS te tl th) Γ Γ1 (sG x lo hi) := fun F I H0 H σ r Q q =>
  h.sc F I H0 H σ r _ fun v H1 H1' r1 a1 b1 c1 => hl F I H1 H1' σ r1 _ fun H2 H2' r2 a2 b2 => hh F I H2 H2' σ r2 _ fun H3 H3' r3 a3 b3 => by
    cases (show v = V.str x from c1)
    refine ⟨x, rfl, Nat.le_trans hz (by decide), ?_⟩
    rw [cut_eq]
    exact q _ H3 H3' r3 ((a1.trans a2).trans a3) (fun z => ((b1 z).trans b2).trans b3) rfl
theorem e_addStr {x y : PySem.Str} (ha : E K m1 p1 ta Γ Γ1 x) (hb : E K m2 p2 tb Γ1 Γ2 y) (h : x.length + y.length ≤ 100000) : E K (m1 || m2) true (tOp (fun x y H Q => ∃ i j, x = .str i ∧ y = .str j ∧ i.length + j.length ≤ sizeLine ∧ Q (.str (i ++ j)) H) ta tb) Γ Γ2 (sA x y) := fun F I H0 H σ r Q q =>
  ha.sc F I H0 H σ r _ fun v H1 H1' r1 a1 b1 c1 => hb.sc F I H1 H1' σ r1 _ fun w H2 H2' r2 a2 b2 c2 => by
    cases (show v = V.str x from c1)
    cases (show w = V.str y from c2)
    refine ⟨x, y, rfl, rfl, Nat.le_trans h (by decide), ?_⟩
    rw [sA_eq]
    exact q _ H2 H2' r2 (a1.trans a2) (same_mm b1 b2) rfl
theorem strs_map {K : Kf} {H : Hp} : ∀ {vs : List V} {ys : List PySem.Str}, Prd (rep (α := PySem.Str) K H) vs ys → vs = ys.map V.str
  | _, _, .nil => rfl
  | _, _, .cons e t => by rw [show _ = V.str _ from e, strs_map t]; rfl
theorem e_join0 {ys : List PySem.Str} (ha : E K m1 p1 ta Γ Γ1 (PySem.Str.ofString "")) (hb : E K m2 p2 tb Γ1 Γ2 ys) (h : (ys.map (·.length)).sum ≤ 100000) : E K (m1 || m2) true (tM1 (fun x xs H Q => ∃ a p, ∃ ys : List PySem.Str, x = .str a ∧ xs = [.ref p] ∧ (SqL K H p (ys.map V.str) ∨ SqT K H p (ys.map V.str)) ∧
      (ys.map (·.length)).sum + ys.length * a.length ≤ 16777216 ∧ Q (.str (Txt.join a ys)) H) ta tb) Γ Γ2 (sJ ys) := fun F I H0 H σ r Q q =>
  ha.sc F I H0 H σ r _ fun v H1 H1' r1 a1 b1 c1 => by
    cases (show v = V.str _ from c1)
    refine ⟨⟨_, rfl⟩, hb.nowP F I H1 H1' σ r1 _ fun w H2 H2' r2 a2 b2 c2 => ?_⟩
    obtain ⟨a, vs, rfl, hs, hp⟩ := rl c2
    rw [strs_map hp] at hs
    refine ⟨_, a, ys, rfl, rfl, .inl hs, ?_, ?_⟩
    · rw [show (PySem.Str.ofString "").length = 0 by decide, Nat.mul_zero]
      exact Nat.le_trans h (by decide)
    · rw [sJ_eq]
      exact q _ H2 H2' r2 (a1.trans a2) (same_mm b1 b2) rfl
theorem e_bToInt {b : Bool} (h : E K m p ta Γ Γ1 b) : E K m true (tCB rInt1 (tCons ta tNil)) Γ Γ1 (if b = true then (1 : Int) else 0) := fun F I H0 H σ r Q q =>
  h.sc F I H0 H σ r _ fun v H1 H1' r1 a1 b1 c1 => by
    cases (show v = V.bl b from c1)
    exact .inr ⟨b, rfl, q _ H1 H1' r1 a1 b1 rfl⟩
theorem sI_len (x : PySem.Str) (k : Int) : (sI x k).length = 1 := rfl
theorem sA_len (x y : PySem.Str) : (sA x y).length = x.length + y.length := by
  rw [← cds_len, ← cds_len x, ← cds_len y]
  show (cds x ++ cds y).length = _
  rw [List.length_append]
theorem sG_le (x : PySem.Str) (lo hi : Option Int) : (sG x lo hi).length ≤ x.length := by
  rw [← cds_len, ← cds_len x]
  exact gs_len _ _ _
theorem sJ_len (ys : List PySem.Str) : (sJ ys).length = (ys.map (·.length)).sum := by
  rw [← cds_len]
  show (ys.flatMap cds).length = _
  rw [List.length_flatMap]
  congr 1
theorem sumSI {α : Type} (f : α → PySem.Str) (k : α → Int) (xs : List α) : (((xs.map fun x => sI (f x) (k x))).map (·.length)).sum = xs.length := by
  rw [List.map_map]
  induction xs with
  | nil => rfl
  | cons a t ih => rw [List.map_cons, List.sum_cons, ih, List.length_cons]; show 1 + t.length = t.length + 1; omega
end
/-! ### a class called by keywords whose values change a list of one's own -/
inductive AllPer : List Ar → Prop
  | nil : AllPer []
  | cons {α : Type} {i : Rp α} {x : α} {as : List Ar} : AllPer as → AllPer (.per i x :: as)
theorem ar_monoP {K : Kf} {H0 H H0' H' : Hp} {σ : St} (e0 : Same H0 H0') : ∀ {us : List V} {as : List Ar}, AllPer as → Prd (arOk K H0 H σ) us as → Prd (arOk K H0' H' σ) us as
  | _, _, .nil, .nil => .nil
  | _, _, .cons (i := i) t, .cons r s => .cons (i.mono e0 r) (ar_monoP e0 t s)
section
variable {K : Kf} {m m2 : Bool} {ta tk : TA} {Γ Γ1 Γ2 : List Sl} {ι : Type} {args : ι → List Sl} {pre : ι → Prop} {fields : ι → List (Str × Pv)} {as bs : List Ar}
theorem e_makeKM {α : Type} {C : Addr} {fs : α → List (Str × Pv)} {n k : Nat} {dvs : List V} {ds : List Ar} (d : ι) (x : α) (ha : A K m ta Γ Γ1 as) (hb : A K m2 tk Γ1 Γ2 bs) (hd : ∀ H0 H σ, Prd (arOk K H0 H σ) dvs ds) (hn : as.length = n) (hk : bs.length = k)
    (hm : Mt (as ++ (bs ++ ds)) (args d)) (hp : pre d) (hx : fs x = fields d) (hap : AllPer as) : @E K (m || m2) true (tMakeK C n k (spI K C args pre fields) (fun vs zs => vs ++ (zs ++ dvs)) E0 ta tk) Γ Γ2 α (repOb C fs) x := fun F I H0 H σ r Q q =>
  ha F I H0 H σ r _ fun us H1 H1' r1 a1 b1 c1 => hb F I H1 H1' σ r1 _ fun ws H2 H2' r2 a2 b2 c2 => by
    have c1' : Prd (arOk K H2 H2' σ) us as := ar_monoP a2 hap c1
    refine ⟨(prd_len c1).trans hn, (prd_len c2).trans hk, fun y dy hy hdy hne => ?_⟩
    refine make_core (vs := us ++ (ws ++ dvs)) r2 (prd_app c1' (prd_app c2 (hd _ _ _))) d hp hm hy hdy hne fun v H0' H' vs r3 s0 s1 h1 h2 h3 hv => ⟨hv, ?_⟩
    exact q _ H0' H' r3 ((a1.trans a2).trans s0) (fun z => (same_mm b1 b2 z).trans s1) ⟨y, dy, vs, rfl, h1, h2, by rw [hx]; exact h3⟩
end
end FF

set_option Elab.async false
set_option linter.all false
set_option maxRecDepth 100000
set_option maxHeartbeats 2000000
namespace FF
open PySem L2
/-! ### enumerate of a list, the start by its name -/
def IteL (K : Kf) (a : Addr) (c : Int) : It :=
  ⟨fun i H => ∃ (xs : List V) (x : V), SqL K H a xs ∧ xs[i]? = some x, fun i H v H' => ∃ T x, v = .ref T ∧ H T = none ∧ H' = upd H T (.tup [.int (c + (i : Nat)), x]) ∧ ∀ xs, SqL K H a xs → xs[i]? = some x, fun i H => ∃ xs : List V, SqL K H a xs ∧ xs.length = i⟩
theorem turn_enumL {P : Program} {w : World} {K : PySem.W.Frag} {elts : List Expr} {kk : Nat} {tpos : Pos} (a e it : Addr) (c : Int) :
    Turn P w K (.Tuple elts kk tpos) (IteL K a c) [e, it] e (fun i h => (∃ old, IsEnum h e it (c + ((i : Nat) : Int)) old) ∧ h.IsListIter it a i ∧ e ≠ it) where
  mem := by simp
  obj := fun i h st b hb => by
    obtain ⟨⟨old, he⟩, ⟨o, ho, hc, hd⟩, _⟩ := st
    have e' : b = e ∨ b = it := by simpa using hb
    rcases e' with z | z
    · rw [z]; exact ⟨_, he, fun v q => nomatch q⟩
    · rw [z]; exact ⟨o, ho, fun v q => by rw [hd] at q; cases q⟩
  keep := fun i h h' st k => let ⟨⟨old, he⟩, hi, hne⟩ := st; ⟨⟨old, k e (by simp) _ he⟩, hi.at fun o q => k it (by simp) o q, hne⟩
  item := by
    intro X hP hw hK hc i pins s σ H E I hf st hg
    subst hP hw hK
    obtain ⟨⟨old, he⟩, hit, hne⟩ := st
    obtain ⟨xs, x, hq, hx⟩ := hg
    obtain ⟨its, rv, p, hz⟩ := I.list hq
    obtain ⟨u, hu, ru⟩ := rv.get hx
    have hel : e < s.heap.objs.size := Heap.lt_size he
    have hil : it < s.heap.objs.size := by obtain ⟨_, q, _⟩ := hit; exact Heap.lt_size q
    have hp : s.heap.IsList a its.toArray := p.isList
    have hai : a ≠ it := fun z => by
      subst z
      obtain ⟨o1, h1, h2, _⟩ := hit
      obtain ⟨o2, h3, h4, _⟩ := hp
      rw [h1] at h3
      cases h3
      rw [h2] at h4
      exact absurd h4 (by decide)
    have hae : e ≠ a := fun z => by
      subst z
      obtain ⟨o2, h3, h4, _⟩ := hp
      have h3' := he.symm.trans h3
      cases h3'
      have h5 : (Value.type "enumerate") = Value.type "list" := h4
      exact absurd h5 (by decide)
    have hh : X.A.in1.handled = none := I.ok.hd hc
    refine wpAny_pyNext_enum_itemC (Draws.list hh it a hai its.toArray) he (i := i) ⟨hit, hp⟩ (by simpa using (List.getElem?_eq_some_iff.mp hu).1) hne (by simp [hne, hae]) fun x' h' tk hP ho hst hT hsz hk => ?_
    refine ⟨_, rfl, wpAny_letOwnedTupleGo_enum (s := { s with heap := h', toks := tk + 1 }) ho fun h'' he' sb => ?_⟩
    have ex : x' = u := by
      have hP' : its[i]? = some x' := by simpa using hP
      rw [hu] at hP'; exact (Option.some.inj hP').symm
    subst ex
    have hT2 : h''.get? s.heap.objs.size = some { cls := .type "tuple", data := .seq #[.int (c + (i : Int)) tk, x'] } := (sb.2 _ (Nat.ne_of_gt hel)).trans hT
    have new : ObjOk X.prog X.w (upd H s.heap.objs.size (.tup [.int (c + (i : Nat)), x])) h'' s.heap.objs.size (.tup [.int (c + (i : Nat)), x]) :=
      ⟨by show 2 ≤ sizeLine; decide, [.int (c + (i : Int)) tk, x'], .cons ⟨_, rfl⟩ (.cons ru .nil), ⟨_, hT2, rfl, _, rfl⟩⟩
    have I1 : Inv X pins σ (upd H s.heap.objs.size (.tup [.int (c + (i : Nat)), x])) { s with heap := h'', toks := tk + 1 } :=
      I.turnedNew (ch := [e, it]) (fun b ob hb q => (sb.2 b (fun z => hb (by simp [z]))).trans (hk b ob (fun z => hb (by simp [z])) (fun z => hb (by simp [z])) q)) hf (Nat.le_refl _) new
    refine ⟨.ref s.heap.objs.size, _, I1, rfl, ⟨_, x, rfl, I.hok.fresh (Nat.le_refl _), rfl, fun ys hy => by rw [I.list_inj hy hq]; exact hx⟩, ⟨⟨x', ?_⟩, hst.1.at fun o q => (sb.2 it (Ne.symm hne)).trans q, hne⟩, fun b hb => ?_⟩
    · have e1 : c + ((i + 1 : Nat) : Int) = c + (i : Int) + 1 := by omega
      rw [e1]; exact he'
    · have hb' : b < s.heap.objs.size := by
        have e' : b = e ∨ b = it := by simpa using hb
        rcases e' with z | z
        · rw [z]; exact hel
        · rw [z]; exact hil
      rw [upd_ne (Nat.ne_of_lt hb')]
      exact (hf b hb).1
  done := by
    intro X hP hw hK hc i pins s σ H E I hf st hg
    subst hP hw hK
    obtain ⟨⟨old, he⟩, hit, hne⟩ := st
    obtain ⟨xs, hq, hx⟩ := hg
    obtain ⟨its, rv, p, hz⟩ := I.list hq
    obtain ⟨f0, f1, f2, f3, f4, f5⟩ := hf it (by simp)
    have hl := rv.length
    have hp : s.heap.IsList a its.toArray := p.isList
    have hai : a ≠ it := fun z => by
      subst z
      obtain ⟨o1, h1, h2, _⟩ := hit
      obtain ⟨o2, h3, h4, _⟩ := hp
      rw [h1] at h3
      cases h3
      rw [h2] at h4
      exact absurd h4 (by decide)
    have hsz : its.toArray.size = i := by rw [List.size_toArray]; omega
    exact wpAny_pyNext_enum_endD (Draws.list (show X.A.in1.handled = none from I.ok.hd hc) it a hai its.toArray) he ⟨by rw [hsz]; exact hit, hp⟩ fun h' eb => ⟨rfl, I.turned (t' := s.toks) (fun b o hb q => eb b o hb q) f0 f1 f3 f4 f5⟩
  self := fun A i s Q E st h => let ⟨⟨_, he⟩, _⟩ := st; wpAny_pyIter_enum he h



section
variable {M : Model} {A : Around} {E : Value → Shared → Prop} {s : Shared} {env : Env}
open PyProof.Rows in
theorem callWith_typeKw {pos : Pos} {T : String} {e : Expr} {rest : List Expr} {kws : List Keyword} {Q : Value → Shared → Prop}
    (h : wpAny M A (spliced (backTo pos (starEach (e :: rest) env))) (fun vs s₁ => wpAny M A (evalAll ((backToKw pos (keywordEach kws env)).map (·.2)))
      (fun kvs s₂ => wpAny M A (call (.type T) vs (((backToKw pos (keywordEach kws env)).filterMap (·.1)).zip kvs)) Q E s₂) E s₁) E s)
    (he : backTo pos (starEach (e :: rest) env) = (false, eval e env) :: backTo pos (starEach rest env) := by rfl)
    (hplain : (backTo pos (starEach (e :: rest) env)).any (·.1) = false := by rfl)
    (hall : (backToKw pos (keywordEach kws env)).all (·.1.isSome) = true := by rfl)
    (hkw : (backToKw pos (keywordEach kws env)).any (·.1.isNone) = false := by rfl) :
    wpAny M A (callWith pos (.type T) [] (backTo pos (starEach (e :: rest) env)) (backToKw pos (keywordEach kws env))) Q E s := by
  have h2 : wpAny M A (evalArgs (.type T) true (backTo pos (starEach (e :: rest) env)) (backToKw pos (keywordEach kws env))) (fun a s₁ => wpAny M A (call (.type T) ([] ++ a.pos) a.kw) Q E s₁) E s := by
    rw [he] at h ⊢
    exact evalArgs_kwB hall h
  unfold callWith
  refine wpAny_bind (wpAny_holding (wpAny_mono h2 (fun a s₁ h₁ => wpAny_bind (wpAny_standAt ?_)) fun _ _ x => x))
  simp only [hplain, hkw, Bool.or_false]
  refine wpAny_bind (wpAny_pure ?_)
  exact wpAny_bind (wpAny_mono h₁ (fun r s₂ hr => wpAny_bind (wpAny_holding (wpAny_point (wpAny_pure hr)))) fun _ _ x => x)
end
/-- enumerate(xs, start=k) -/
def iEnumK (K : Kf) (k : Int) (ta : TA) : TI := fun σ H R => ta σ H fun vs H1 => ∃ a, vs = [.ref a] ∧ (∃ xs, SqL K H1 a xs) ∧ R (IteL K a k) H1
open PyProof.Rows in
theorem pi_enumK {X : Cx} {e : Expr} {ta : TA} {p pos tpos cpos kpos : Pos} {elts : List Expr} {kk : Nat} {k : Int} {j : Nat} (hk : -(2 ^ 63) ≤ k ∧ k < 2 ^ 63) (hg : Gl X "enumerate") (hm : X.mg "enumerate" = none) (ha : PA X [e] ta) (hs : starEach [e] X.env = [(false, eval e X.env)] := by rfl) :
    PI X (.Tuple elts kk tpos) (.Call (.Name "enumerate" p) [e] [⟨some "start", .Constant (.int k) j cpos, kpos⟩] pos) (iEnumK X.K k ta) := by
  refine ⟨fun pins s σ H R I h => ?_⟩
  have hkw : PK X [⟨some "start", .Constant (.int k) j cpos, kpos⟩] (tCons (tC (.int k)) tNil) := pk_cons pe_int pk_nil
  refine wpAny_Call_Name_kw (ld_blt I hg hm boot_enumerate ?_)
  refine callWith_typeKw (thn (ha.run pos pins s σ H _ I h) fun us s1 ⟨vs, H1, I1, r1, q1⟩ => thn (hkw.run pos pins s1 σ H1 (fun zs H2 => zs = [.int k] ∧ H2 = H1) I1 ⟨rfl, rfl⟩) fun ws s2 ⟨zs, H2, I2, r2, q2⟩ => ?_) (by rw [hs]; rfl) (by rw [hs]; rfl)
  obtain ⟨rfl, rfl⟩ := q2
  obtain ⟨a, ex, ⟨xs, hq⟩, q⟩ := q1
  subst ex
  cases r1 with
  | cons r rr =>
    cases rr
    cases r
    cases r2 with
    | cons r' rr' =>
      cases rr'
      obtain ⟨t, rfl⟩ := r'
      obtain ⟨its, rv, p', hz⟩ := I2.list hq
      refine enum_begins_start (begins_list a its.toArray) p'.isList hk.1 hk.2 fun h' he hit hsz hk' => wpAny_pyIter_enum he ?_
      have I3 : Inv X pins σ H2 { s2 with heap := h' } := I2.kept (t' := s2.toks) hk'
      refine ⟨s2.heap.objs.size + 1, [s2.heap.objs.size + 1, s2.heap.objs.size], _, _, H2, rfl, I3, turn_enumL a (s2.heap.objs.size + 1) s2.heap.objs.size k, ⟨⟨.none, by have e0 : k + ((0 : Nat) : Int) = k := Int.add_zero k; rw [e0]; exact he⟩, ⟨_, hit, rfl, rfl⟩, Nat.succ_ne_self _⟩, fun b hb => ?_, q⟩
      have e' : b = s2.heap.objs.size + 1 ∨ b = s2.heap.objs.size := by simpa using hb
      have hle : s2.heap.objs.size ≤ b := by
        rcases e' with z | z
        · rw [z]; exact Nat.le_add_right _ _
        · rw [z]; exact Nat.le_refl _
      exact I2.fpOk hle (I2.hok.fresh hle)

section
variable {K : Kf} {m m1 m2 p p1 p2 : Bool} {Γ Γ1 Γ2 : List Sl} {ta tb te : TE} {tA : TA} {as : List Ar} {α : Type} [i : Rp α]
/-! ### a lent list whose items stand for good -/
theorem bl_at {F : Fm} {I H0 H : Hp} {σ : St} (r : SR K F I H0 H σ Γ) {xs : List α} {n : Nat} (hn : Γ[n]? = some (.bl i xs)) : ∃ a vs, σ[n]? = some (some (.ref a)) ∧ F.b a = some (.lst vs) ∧ Prd (i.rep K H0) vs xs := by
  obtain ⟨ov, e1, a, vs, e2, e3, e4⟩ := r.ok n _ hn
  exact ⟨a, vs, by rw [e1, e2], e3, e4⟩
theorem e_varL {xs : List α} {n : Nat} (hn : Γ[n]? = some (.bl i xs)) : E K false false (tVar n) Γ Γ xs := fun F I H0 H σ r Q q => by
  obtain ⟨a, vs, e1, e2, e3⟩ := bl_at r hn
  exact ⟨.ref a, e1, q _ H0 H r (Same.refl _) (fun _ => Same.refl _) ⟨a, vs, rfl, r.f _ _ (F.sub _ _ e2), prd_mono (fun _ _ z => i.mono r.h z) e3⟩⟩
theorem e_ixL [Inhabited α] {xs : List α} {k : Int} {n : Nat} (hb : E K false p tb Γ Γ k) (hn : Γ[n]? = some (.bl i xs)) (h : -(xs.length : Int) ≤ k ∧ k < xs.length) : E K false true (tOp (rIxL K) (tVar n) tb) Γ Γ (gi xs k) := fun F I H0 H σ r Q q => by
  obtain ⟨a, vs, e1, e2, e3⟩ := bl_at r hn
  refine ⟨.ref a, e1, hb.sc F I H0 H σ r _ fun w H2 H2' r2 a2 b2 c2 => ?_⟩
  subst c2
  obtain ⟨u, z1, z2⟩ := gi_at e3 h
  exact ⟨a, vs, k, u, rfl, rfl, SqL.of (r2.f _ _ (F.sub _ _ e2)), z1, q _ H2 H2' r2 a2 b2 (i.mono a2 z2)⟩
theorem w_bl {xs : List α} {n : Nat} (hn : Γ[n]? = some (.bl i xs)) : Wlk K true false (iList K (tVar n)) Γ Γ i xs := fun F I H0 H σ r R q => by
  obtain ⟨a, vs, e1, e2, e3⟩ := bl_at r hn
  have el := prd_len e3
  have at_ : ∀ {X : Hp}, Same F.k X → SqL K X a vs := fun s => SqL.of (s _ _ (F.sub _ _ e2))
  refine ⟨.ref a, e1, a, rfl, ⟨vs, at_ r.f⟩, q (Itl K a) H0 H r (Same.refl _) (fun _ => Same.refl _) fun n H2 H2' s2 s3 s4 hn => ⟨fun e => ⟨vs, at_ s4, by omega⟩, fun x hx => ?_⟩⟩
  obtain ⟨u, z1, z2⟩ := prd_get e3 hx
  have hs' := at_ s4
  refine ⟨⟨vs, u, hs', z1⟩, fun v H3 y => ?_⟩
  obtain ⟨y1, y2⟩ := y
  have e5 := y2 vs hs'
  rw [z1] at e5
  cases e5
  exact yl_in ⟨y1, i.mono s2 z2⟩
/-- xs with its places from k on -/
def enumK (k : Int) {α : Type} (xs : List α) : List (Int × α) := (enum xs).map fun z => (k + z.1, z.2)
theorem enumK_len (k : Int) {α : Type} (xs : List α) : (enumK k xs).length = xs.length := by unfold enumK; rw [List.length_map, enum_len]
theorem enumK_get {k : Int} {α : Type} {xs : List α} {n : Nat} {z : Int × α} (h : (enumK k xs)[n]? = some z) : z.1 = k + n ∧ xs[n]? = some z.2 := by
  unfold enumK at h
  rw [List.getElem?_map] at h
  cases e : (enum xs)[n]? with
  | none => rw [e] at h; cases h
  | some y =>
    rw [e] at h
    cases h
    obtain ⟨h1, h2⟩ := enum_get e
    exact ⟨by show k + y.1 = k + n; rw [h1], h2⟩
theorem enumK_mem {k : Int} {α : Type} {xs : List α} {z : Int × α} (h : z ∈ enumK k xs) : z.2 ∈ xs ∧ k ≤ z.1 ∧ z.1 < k + xs.length := by
  obtain ⟨n, hn⟩ := List.getElem?_of_mem h
  obtain ⟨h1, h2⟩ := enumK_get hn
  have := (List.getElem?_eq_some_iff.mp h2).1
  exact ⟨List.mem_of_getElem? h2, by omega, by omega⟩
theorem itel_go {a : Addr} {k : Int} {vs : List V} {xs : List α} {H2 H2' : Hp} (hs' : SqL K H2' a vs) (s3 : Same H2 H2') (hp : Prd (i.rep K H2) vs xs) {n : Nat} (hn : n ≤ xs.length) (Fb : Hp) :
    (n = (enumK k xs).length → (IteL K a k).stop n H2') ∧ (∀ z, (enumK k xs)[n]? = some z → (IteL K a k).go n H2' ∧ ∀ v H3, (IteL K a k).yld n H2' v H3 → Yl K true Fb H2 H2' (inferInstance : Rp (Int × α)) z v H3) := by
  have el := prd_len hp
  refine ⟨fun e => ⟨vs, hs', by rw [e, enumK_len]; omega⟩, fun z hz => ?_⟩
  obtain ⟨e0, hx⟩ := enumK_get hz
  obtain ⟨u, e1, e2⟩ := prd_get hp hx
  refine ⟨⟨vs, u, hs', e1⟩, fun v H3 y => ?_⟩
  obtain ⟨T, x, rfl, hT, e3, e4⟩ := y
  have e5 := e4 vs hs'
  rw [e1] at e5
  cases e5
  refine .inr ⟨T, .tup [.int (k + (n : Nat)), u], hT, e3, T, .int (k + (n : Nat)), u, rfl, .inl (.inl upd_same), congrArg V.int (by rw [e0]), ?_⟩
  have h2 : H2 T = none := Same.free s3 hT
  have s4 : Same H2 (upd H2 T (HO.tup [V.int (k + (n : Nat)), u])) := fun b o e => by rw [upd_ne (ne_of_none e h2)]; exact e
  exact i.mono s4 e2
theorem w_enumK {xs : List α} {k : Int} (h : A K m tA Γ Γ1 [ap xs]) : Wlk K true m (iEnumK K k tA) Γ Γ1 (inferInstance : Rp (Int × α)) (enumK k xs) := fun F I H0 H σ r R q =>
  h F I H0 H σ r _ fun ws H1 H1' r1 a1 b1 c1 => by
    cases c1 with | cons z1 c1 => cases c1 with | nil =>
    obtain ⟨a, vs, rfl, hs, hp⟩ := z1
    exact ⟨a, rfl, ⟨vs, SqL.of (r1.h _ _ hs)⟩, q (IteL K a k) H1 H1' r1 a1 b1 fun n H2 H2' s2 s3 _ hn => itel_go (SqL.of ((s2.trans s3) _ _ hs)) s3 (prd_mono (fun _ _ z => i.mono s2 z) hp) (by rw [enumK_len] at hn; exact hn) F.b⟩
theorem w_enumKL {xs : List α} {k : Int} {n : Nat} (hn : Γ[n]? = some (.bl i xs)) : Wlk K true false (iEnumK K k (tCons (tVar n) tNil)) Γ Γ (inferInstance : Rp (Int × α)) (enumK k xs) := fun F I H0 H σ r R q => by
  obtain ⟨a, vs, e1, e2, e3⟩ := bl_at r hn
  refine ⟨.ref a, e1, a, rfl, ⟨vs, SqL.of (r.f _ _ (F.sub _ _ e2))⟩, q (IteL K a k) H0 H r (Same.refl _) (fun _ => Same.refl _) fun n H2 H2' s2 s3 s4 hn => itel_go (SqL.of (s4 _ _ (F.sub _ _ e2))) s3 (prd_mono (fun _ _ z => i.mono s2 z) e3) (by rw [enumK_len] at hn; exact hn) F.b⟩
/-- a list of one's own, lent; a lent one, lent on -/
theorem a_own {xs : List α} {n : Nat} {a : Option Addr} (hn : Γ[n]? = some (.own i a xs)) (hr : A K false tA Γ Γ2 as) : A K false (tCons (tVar n) tA) Γ Γ2 (.bl i xs :: as) := fun F I H0 H σ r Q q => by
  obtain ⟨b, vs, e1, f1, f2, f3, f4⟩ := own_at r hn
  exact ⟨.ref b, e1, hr F I H0 H σ r _ fun ws H2 H2' r2 a2 b2 c2 => q _ H2 H2' r2 a2 b2 (.cons ⟨b, vs, rfl, b2 rfl _ _ f3, prd_mono (fun _ _ z => i.mono a2 z) f4⟩ c2)⟩
theorem a_bl {xs : List α} {n : Nat} (hn : Γ[n]? = some (.bl i xs)) (hr : A K false tA Γ Γ2 as) : A K false (tCons (tVar n) tA) Γ Γ2 (.bl i xs :: as) := fun F I H0 H σ r Q q => by
  obtain ⟨b, vs, e1, e2, e3⟩ := bl_at r hn
  exact ⟨.ref b, e1, hr F I H0 H σ r _ fun ws H2 H2' r2 a2 b2 c2 => q _ H2 H2' r2 a2 b2 (.cons ⟨b, vs, rfl, r2.f _ _ (F.sub _ _ e2), prd_mono (fun _ _ z => i.mono a2 z) e3⟩ c2)⟩
/-! ### tuples of four -/
theorem g_tup4 {β γ δ : Type} [j : Rp β] [k : Rp γ] [l : Rp δ] {x : T4 α β γ δ} {n1 n2 n3 n4 : Nat} (h : E K m true te Γ Γ1 x) (h1 : n1 < Γ1.length := by exact Nat.le_of_ble_eq_true rfl) (h2 : n2 < Γ1.length := by exact Nat.le_of_ble_eq_true rfl) (h3 : n3 < Γ1.length := by exact Nat.le_of_ble_eq_true rfl) (h4 : n4 < Γ1.length := by exact Nat.le_of_ble_eq_true rfl) :
    Go K (tAsg te (gTup K 4 (gCons (gName n1) (gCons (gName n2) (gCons (gName n3) (gCons (gName n4) gNil)))))) Γ ((((Γ1.set n1 (pr x.a)).set n2 (pr x.b)).set n3 (pr x.c)).set n4 (pr x.d)) := fun F I H0 H σ D r q =>
  h F I H0 H σ r _ fun v H1 H1' r1 a1 b1 c1 => by
    obtain ⟨a, u1, u2, u3, u4, rfl, hs, e1, e2, e3, e4⟩ := c1
    refine ⟨a, _, rfl, same_t r1.h hs, rfl, u1, _, rfl, u2, _, rfl, u3, _, rfl, u4, _, rfl, rfl, ?_⟩
    exact q H1 H1' _ a1 (pr_set (pr_set (pr_set (pr_set r1 e1 h1) e2 (by simpa using h2)) e3 (by simpa using h3)) e4 (by simpa using h4))
theorem e_tup4 {β γ δ : Type} [j : Rp β] [k : Rp γ] [l : Rp δ] {x : T4 α β γ δ} (h : E K m true ta Γ Γ1 x) : E K m true (tCB (rTuple1 K) (tCons ta tNil)) Γ Γ1 x := fun F I H0 H σ r Q q =>
  h F I H0 H σ r _ fun v H1 H1' r1 a1 b1 c1 => by
    obtain ⟨a, u1, u2, u3, u4, rfl, hs, e1, e2, e3, e4⟩ := c1
    exact ⟨a, _, rfl, .inr ⟨same_t r1.h hs, q _ _ _ r1 a1 b1 ⟨a, u1, u2, u3, u4, rfl, hs, e1, e2, e3, e4⟩⟩⟩
end
section
variable {K : Kf} {m m1 m2 p p1 p2 : Bool} {Γ Γ1 Γ2 : List Sl} {ta tb te : TE}
/-! ### texts in a tuple, the text of a number -/
theorem inV_strs {x : PySem.Str} : ∀ ys : List PySem.Str, inV (.str x) (ys.map V.str) = decide (x ∈ ys)
  | [] => by simp [inV]
  | y :: ys => by
    have h := inV_strs (x := x) ys
    show (eqV (.str y) (.str x) || inV (.str x) (ys.map V.str)) = _
    rw [h, str_eqV]
    simp [List.mem_cons]
theorem prd_strs {K : Kf} {H : Hp} : ∀ {vs : List V} {xs : List PySem.Str}, Prd ((inferInstance : Rp PySem.Str).rep K H) vs xs → vs = xs.map V.str
  | _, _, .nil => rfl
  | _, _, .cons r t => by rw [show _ = V.str _ from r, prd_strs t]; rfl
theorem strs_prd {K : Kf} {H : Hp} : ∀ xs : List PySem.Str, Prd ((inferInstance : Rp PySem.Str).rep K H) (xs.map V.str) xs
  | [] => .nil
  | _ :: xs => .cons rfl (strs_prd xs)
theorem e_inTS {x : PySem.Str} {y : Tu PySem.Str} (ha : E K m1 p1 ta Γ Γ1 x) (hb : E K m2 true tb Γ1 Γ2 y) : E K (m1 || m2) true (tOp (rIn K false) ta tb) Γ Γ2 (decide (x ∈ y.l)) := fun F I H0 H σ r Q q =>
  ha.sc F I H0 H σ r _ fun v H1 H1' r1 a1 b1 c1 => hb F I H1 H1' σ r1 _ fun w H2 H2' r2 a2 b2 c2 => by
    cases (show v = V.str x from c1)
    obtain ⟨a, vs, rfl, hs, hp⟩ := c2
    have e := prd_strs hp
    subst e
    refine ⟨a, _, rfl, .inr (same_t r2.h hs), rfl, by rw [List.all_map]; exact List.all_eq_true.mpr fun _ _ => rfl, q _ H2 H2' r2 (a1.trans a2) (same_mm b1 b2) (congrArg V.bl ?_)⟩
    show (if false = true then _ else inV (.str x) (y.l.map V.str)) = _
    rw [if_neg (by decide), inV_strs]
/-- str(n) -/
def sN (n : Int) : PySem.Str := PySem.Str.ofString (toString n)
theorem e_sN {n : Int} (h : E K m p ta Γ Γ1 n) (hn : -(2 ^ 60) ≤ n ∧ n < 2 ^ 60) : E K m true (tCB (fun xs H Q => ∃ i, xs = [.int i] ∧ i.natAbs.log2 < 1920 ∧ Q (.str (toString i)) H) (tCons ta tNil)) Γ Γ1 (sN n) := fun F I H0 H σ r Q q =>
  h.sc F I H0 H σ r _ fun v H1 H1' r1 a1 b1 c1 => by
    cases (show v = V.int n from c1)
    refine ⟨n, rfl, ?_, q _ H1 H1' r1 a1 b1 rfl⟩
    have h2 : n.natAbs < 2 ^ 61 := by omega
    have h3 : n.natAbs.log2 ≤ 61 := by
      by_cases z : n.natAbs = 0
      · rw [z]; decide
      · exact Nat.le_of_lt ((Nat.log2_lt z).mpr h2)
    omega
/-! ### a tuple of texts at the module's top -/
def GtAt (K : Kf) (mg : Str → Option Value) (x : Str) (ys : List PySem.Str) : Prop := ∃ a, mg x = some (.ref a) ∧ ∀ H, SqT K H a (ys.map V.str)
theorem pe_gt {X : Cx} {x : Str} {ys : List PySem.Str} {pos : Pos} (hg : Gl X x) (h : GtAt X.K X.mg x ys) (hd : (x == ("__debug__" : Str)) = false := by decide) : PE X (.Name x pos) (tC (.ref (Classical.choose h))) := pe_glob hg (Classical.choose_spec h).1 rfl hd
theorem e_gtT {mg : Str → Option Value} {x : Str} {ys : List PySem.Str} (h : GtAt K mg x ys) : E K false true (tC (.ref (Classical.choose h))) Γ Γ (Tu.mk ys) := fun F I H0 H σ r Q q => q _ H0 H r (Same.refl _) (fun _ => Same.refl _) ⟨_, _, rfl, (Classical.choose_spec h).2 H0, strs_prd ys⟩
/-! ### xs.index(x), data of any depth -/
/-- the first place of x -/
def ixD {α : Type} [DecidableEq α] (x : α) : List α → Int
  | [] => 0
  | y :: ys => if y = x then 0 else ixD x ys + 1
theorem ixD_nat {α : Type} [DecidableEq α] {x : α} : ∀ {ys : List α}, x ∈ ys → ∃ j : Nat, ixD x ys = j ∧ ys[j]? = some x ∧ ∀ (k : Nat) (z : α), k < j → ys[k]? = some z → z ≠ x
  | [], h => by simp at h
  | y :: ys, h => by
    by_cases e : y = x
    · subst e
      exact ⟨0, by simp [ixD], rfl, fun k z hk => absurd hk (Nat.not_lt_zero _)⟩
    · have h2 : x ∈ ys := by
        rcases List.mem_cons.mp h with q | q
        · exact absurd q.symm e
        · exact q
      obtain ⟨j, h3, h4, h5⟩ := ixD_nat h2
      refine ⟨j + 1, by simp [ixD, e, h3], h4, fun k z hk hz => ?_⟩
      cases k with
      | zero => exact fun q => e ((Option.some.inj hz).trans q)
      | succ k => exact h5 k z (Nat.lt_of_succ_lt_succ hk) hz
theorem e_ixD {α : Type} [i : Rp α] [d : Dt α] [DecidableEq α] {x : α} {ys : List α} (ha : E K m1 true ta Γ Γ1 ys) (hb : E K m2 true tb Γ1 Γ2 x) (hm : x ∈ ys) (hy : ∀ y ∈ ys, d.ok y) (hn : d.n + 1 ≤ 60 := by exact Nat.le_of_ble_eq_true rfl) : E K (m1 || m2) true (tBM K "list" (rIndexD K) ta (tCons tb tNil)) Γ Γ2 (ixD x ys) := fun F I H0 H σ r Q q =>
  ha F I H0 H σ r _ fun v H1 H1' r1 a1 b1 c1 => by
    obtain ⟨a, vs, rfl, hs, hp⟩ := id c1
    refine ⟨Or.inl ⟨rfl, vs, SqL.of (r1.h _ _ hs)⟩, hb F I H1 H1' σ r1 _ fun w H2 H2' r2 a2 b2 c2 => ?_⟩
    obtain ⟨j, e1, e2, e3⟩ := ixD_nat hm
    have e4 : (ys.map d.d)[j]? = some (d.d x) := by rw [List.getElem?_map, e2]; rfl
    refine ⟨a, w, d.d x, ys.map d.d, j, d.d x, rfl, rfl, (inferInstance : Dt (List α)).dp ((inferInstance : Rp (List α)).mono (a2.trans r2.h) (show rep K H1 (.ref a) ys from c1)), d.dp (i.mono r2.h (show i.rep K H2 w x from c2)), dt_shaped (α := List α) hy hn, dt_shaped (hy x hm) (Nat.le_of_succ_le hn), e4, d.eq.mpr rfl, fun k z' hk hz => ?_, q _ H2 H2' r2 (a1.trans a2) (same_mm b1 b2) (congrArg V.int e1.symm)⟩
    rw [List.getElem?_map] at hz
    cases h6 : ys[k]? with
    | none => rw [h6] at hz; cases hz
    | some z =>
      rw [h6] at hz
      cases hz
      have := e3 k z hk h6
      cases h7 : PyData.eqv (d.d z) (d.d x) with
      | false => rfl
      | true => exact absurd (d.eq.mp h7) this
end
end FF

set_option Elab.async false
set_option linter.all false
set_option maxRecDepth 100000
set_option maxHeartbeats 2000000
namespace FF
open PySem L2
/-! ### lists of lists of one's own -/
section
variable {K : Kf} {F : Fm} {I H0 H : Hp} {σ : St} {Γ : List Sl} {α : Type} {i : Rp α}
/-- H0, and of H what stands at these places -/
def mor (H0 H : Hp) (A : List Addr) : Hp := fun c => match H0 c with | some o => some o | none => if c ∈ A then H c else none
theorem mor_l {H0 H : Hp} {A : List Addr} {c : Addr} {o : HO} (h : H0 c = some o) : mor H0 H A c = some o := by unfold mor; rw [h]
theorem mor_r {H0 H : Hp} {A : List Addr} {c : Addr} (h : H0 c = none) : mor H0 H A c = if c ∈ A then H c else none := by unfold mor; rw [h]
theorem mor_in {H0 H : Hp} {A : List Addr} {c : Addr} (h : H0 c = none) (hc : c ∈ A) : mor H0 H A c = H c := by rw [mor_r h, if_pos hc]
theorem mor_out {H0 H : Hp} {A : List Addr} {c : Addr} (h : H0 c = none) (hc : c ∉ A) : mor H0 H A c = none := by rw [mor_r h, if_neg hc]
theorem mor_same {H0 H : Hp} {A : List Addr} : Same H0 (mor H0 H A) := fun _ _ h => mor_l h
theorem mor_cases {H0 H : Hp} {A : List Addr} {c : Addr} {o : HO} (h : mor H0 H A c = some o) : H0 c = some o ∨ (H0 c = none ∧ c ∈ A ∧ H c = some o) := by
  cases z : H0 c with
  | some o' => rw [mor_l z] at h; exact .inl h
  | none =>
    rw [mor_r z] at h
    by_cases hc : c ∈ A
    · rw [if_pos hc] at h; exact .inr ⟨rfl, hc, h⟩
    · rw [if_neg hc] at h; cases h
def Fm.more (F : Fm) (H : Hp) (A : List Addr) : Fm := ⟨mor F.k H A, F.b, fun _ _ e => mor_l (F.sub _ _ e)⟩
/-- lists that nobody owns are kept for a while -/
theorem SR.guardL (r : SR K F I H0 H σ Γ) {A : List Addr} (h0 : ∀ a ∈ A, H0 a = none) (hn : ∀ a ∈ A, Fre H σ Γ a) (hl : ∀ a ∈ A, ∃ vl, H a = some (.lst vl)) : SR K (F.more H A) I H0 H σ Γ := by
  have off : ∀ {n c}, Ftp H σ Γ n c → c ∉ A := fun h z => hn _ z _ h
  have nl : ∀ {c : Addr} {o : HO}, H c = some o → (∀ vl, o ≠ .lst vl) → c ∉ A := fun h q z => by
    obtain ⟨vl, e⟩ := hl _ z
    rw [h] at e
    cases e
    exact q _ rfl
  refine ⟨fun b u e => ?_, r.i, fun b u e n => ?_, r.h, r.len, fun n s e => ?_, r.dj⟩
  · rcases mor_cases e with e | ⟨_, _, e⟩
    · exact r.f b u e
    · exact e
  · rcases mor_cases e with e | ⟨_, e, _⟩
    · exact r.g b u e n
    · exact h0 b e
  · obtain ⟨ov, q1, q2⟩ := r.ok n s e
    refine ⟨ov, q1, ?_⟩
    cases s with
    | un => trivial
    | per _ _ => exact q2
    | bor _ _ => exact q2
    | bl _ _ => exact q2
    | own i p xs =>
      obtain ⟨b, vs, e2, e3, e4, e5, e6, e7⟩ := q2
      exact ⟨b, vs, e2, e3, mor_out e4 (off ⟨_, _, e, q1, e2⟩), e5, e6, e7⟩
    | dp i p xss => exact dpOk.mono (p' := p) q2 (fun b hb z => mor_out z (off ⟨_, _, e, q1, hb⟩)) (fun _ _ z => z) (fun _ _ _ z => z) fun _ _ z => z
    | gn G => exact gnOk.mono q2 (fun b hb z => mor_out z (off ⟨_, _, e, q1, hb⟩)) (fun _ _ z => z) (fun _ _ _ z => z) fun _ z => z
    | ob b C dx fs =>
      obtain ⟨e2, e3, e4, e5, e6, e7, vs, e8, e9⟩ := q2
      exact ⟨e2, mor_out e3 (nl e8 fun _ z => nomatch z), e4, mor_out e5 (nl e7 fun _ z => nomatch z), e6, e7, vs, e8, e9⟩
/-- less is kept -/
theorem SR.less {G : Fm} (r : SR K G I H0 H σ Γ) (hk : Same F.k G.k) (hb : G.b = F.b) : SR K F I H0 H σ Γ := by
  have dn : ∀ {c}, G.k c = none → F.k c = none := fun h => Same.free hk h
  refine ⟨hk.trans r.f, r.i, fun b u e n => r.g b u (hk _ _ e) n, r.h, r.len, fun n s e => ?_, r.dj⟩
  obtain ⟨ov, q1, q2⟩ := r.ok n s e
  refine ⟨ov, q1, ?_⟩
  cases s with
  | un => trivial
  | per _ _ => exact q2
  | bor j x => obtain ⟨v, w1, w2⟩ := q2; exact ⟨v, w1, hb ▸ w2⟩
  | bl j x => obtain ⟨a, vs, w1, w2, w3⟩ := q2; exact ⟨a, vs, w1, hb ▸ w2, w3⟩
  | own i p xs =>
    obtain ⟨b, vs, e2, e3, e4, e5, e6, e7⟩ := q2
    exact ⟨b, vs, e2, e3, dn e4, e5, e6, e7⟩
  | dp i p xss => exact dpOk.mono (p' := p) q2 (fun b _ z => dn z) (fun _ _ z => z) (fun _ _ _ z => z) fun _ _ z => z
  | gn G => exact gnOk.mono q2 (fun b _ z => dn z) (fun _ _ z => z) (fun _ _ _ z => z) fun _ z => z
  | ob b C dx fs =>
    obtain ⟨e2, e3, e4, e5, e6, e7, vs, e8, e9⟩ := q2
    exact ⟨e2, dn e3, e4, dn e5, e6, e7, vs, e8, e9⟩
/-- lists that nobody owns, put among what stands for good -/
theorem SR.keepL (r : SR K F I H0 H σ Γ) {A : List Addr} (hF : ∀ a ∈ A, F.k a = none) (hn : ∀ a ∈ A, Fre H σ Γ a) (hl : ∀ a ∈ A, ∃ vl, H a = some (.lst vl)) : SR K F I (mor H0 H A) H σ Γ := by
  have off : ∀ {n c}, Ftp H σ Γ n c → c ∉ A := fun h z => hn _ z _ h
  have nl : ∀ {c : Addr} {o : HO}, H c = some o → (∀ vl, o ≠ .lst vl) → c ∉ A := fun h q z => by
    obtain ⟨vl, e⟩ := hl _ z
    rw [h] at e
    cases e
    exact q _ rfl
  refine ⟨r.f, r.i.trans mor_same, fun b u e n => mor_out (r.g b u e n) (fun z => by rw [hF b z] at e; cases e), fun b u e => ?_, r.len, fun n s e => ?_, r.dj⟩
  · rcases mor_cases e with e | ⟨_, _, e⟩
    · exact r.h b u e
    · exact e
  · obtain ⟨ov, q1, q2⟩ := r.ok n s e
    refine ⟨ov, q1, ?_⟩
    cases s with
    | un => trivial
    | per j x => obtain ⟨v, e2, p⟩ := q2; exact ⟨v, e2, j.mono mor_same p⟩
    | bor _ _ => exact q2
    | bl _ _ => exact blOk.mono mor_same q2
    | own j p xs =>
      obtain ⟨b, vs, e2, e3, e4, e5, e6, e7⟩ := q2
      exact ⟨b, vs, e2, e3, e4, mor_out e5 (off ⟨_, _, e, q1, e2⟩), e6, prd_mono (fun _ _ z => j.mono mor_same z) e7⟩
    | dp j p xss => exact dpOk.mono (p' := p) q2 (fun _ _ z => z) (fun b hb z => mor_out z (off ⟨_, _, e, q1, hb⟩)) (fun _ _ _ z => z) fun _ _ z => j.mono mor_same z
    | gn G => exact gnOk.mono q2 (fun _ _ z => z) (fun b hb z => mor_out z (off ⟨_, _, e, q1, hb⟩)) (fun _ _ _ z => z) fun _ z => G.mono0 mor_same z
    | ob b C dx fs =>
      obtain ⟨e2, e3, e4, e5, e6, e7, vs, e8, e9⟩ := q2
      exact ⟨e2, e3, mor_out e4 (nl e8 fun _ z => nomatch z), e5, mor_out e6 (nl e7 fun _ z => nomatch z), e7, vs, e8, e9.mono mor_same⟩
/-- a new list of new lists -/
structure NewD (K : Kf) (F : Fm) (H0 H : Hp) (σ : St) (Γ : List Sl) {α : Type} (i : Rp α) (a : Addr) (bs : List Addr) (xss : List (List α)) : Prop where
  k : F.k a = none
  z : H0 a = none
  fr : Fre H σ Γ a
  h : H a = some (.lst (bs.map V.ref))
  nd : bs.Nodup
  na : a ∉ bs
  all : Prd (inOk K F H0 H i) bs xss
  frs : ∀ b ∈ bs, Fre H σ Γ b
theorem NewD.ok {a : Addr} {bs : List Addr} {xss : List (List α)} {p : Option Addr} (N : NewD K F H0 H σ Γ i a bs xss) (hp : ∀ q, p = some q → a = q) : dpOk K F H0 H (some (.ref a)) i p xss := ⟨a, bs, rfl, hp, N.k, N.z, N.h, N.nd, N.na, N.all⟩
theorem NewD.ft {a : Addr} {bs : List Addr} {xss : List (List α)} {p : Option Addr} (N : NewD K F H0 H σ Γ i a bs xss) {b : Addr} (f : ft H (some (.ref a)) (.dp i p xss) b) : Fre H σ Γ b := by
  rcases f with f | ⟨c, ds, f1, f2, f3⟩
  · cases f; exact N.fr
  · cases f1
    have e : bs = ds := refs_inj (by
      have := N.h.symm.trans f2
      injection this with this
      injection this)
    subst e
    exact N.frs b f3
def END (K : Kf) (m : Bool) (te : TE) (Γ Γ' : List Sl) {α : Type} [i : Rp α] (xss : List (List α)) : Prop :=
  ∀ (F : Fm) (I H0 H : Hp) (σ : St), SR K F I H0 H σ Γ → ∀ Q : VK, (∀ a bs H0' H', SR K F I H0' H' σ Γ' → Same H0 H0' → (m = false → Same H H') → NewD K F H0' H' σ Γ' i a bs xss → Q (.ref a) H') → te σ H Q
theorem dp_at {n : Nat} {p : Option Addr} {xss : List (List α)} (r : SR K F I H0 H σ Γ) (hn : Γ[n]? = some (.dp i p xss)) : ∃ (a : Addr) (bs : List Addr), σ[n]? = some (some (.ref a)) ∧ (∀ q, p = some q → a = q) ∧ F.k a = none ∧ H0 a = none ∧ H a = some (.lst (bs.map V.ref)) ∧ bs.Nodup ∧ a ∉ bs ∧ Prd (inOk K F H0 H i) bs xss := by
  obtain ⟨ov, q, a, bs, e, z⟩ := r.ok n _ hn
  subst e
  exact ⟨a, bs, q, z⟩
theorem in_refs {bs : List Addr} {xss : List (List α)} (s : Same H0 H) (h : Prd (inOk K F H0 H i) bs xss) : Prd ((@instRpList α i).rep K H) (bs.map V.ref) xss := by
  induction h with
  | nil => exact .nil
  | cons r t ih =>
    obtain ⟨_, _, vs, q3, q4⟩ := r
    exact .cons ⟨_, vs, rfl, q3, prd_mono (fun _ _ z => i.mono s z) q4⟩ ih
theorem prd_monoI {α : Type u} {β : Type v} {F G : α → β → Prop} : ∀ {l₁ : List α} {l₂ : List β}, Prd F l₁ l₂ → (∀ (k : Nat) a x, l₁[k]? = some a → F a x → G a x) → Prd G l₁ l₂
  | _, _, .nil, _ => .nil
  | _, _, .cons r t, q => .cons (q 0 _ _ rfl r) (prd_monoI t fun k a x e => q (k + 1) a x e)
theorem prd_upd {α : Type u} {β : Type v} {F G : α → β → Prop} {y : β} : ∀ {l₁ : List α} {l₂ : List β} {j : Nat}, Prd F l₁ l₂ → (∀ (k : Nat) a x, k ≠ j → l₁[k]? = some a → F a x → G a x) → (∀ a, l₁[j]? = some a → G a y) → Prd G l₁ (l₂.set j y)
  | _, _, _, .nil, _, _ => .nil
  | _, _, 0, .cons r t, k, h => .cons (h _ rfl) (prd_monoI t fun n b x e => k (n + 1) b x (Nat.succ_ne_zero n) e)
  | _, _, j + 1, .cons r t, k, h => .cons (k 0 _ _ (Nat.succ_ne_zero j).symm rfl r) (prd_upd t (fun n b x ne e => k (n + 1) b x (fun z => ne (Nat.succ.inj z)) e) (fun b e => h b e))
/-- one of the inner lists is changed -/
theorem SR.mutD (r : SR K F I H0 H σ Γ) {n j : Nat} {p : Option Addr} {xss : List (List α)} {ys : List α} {a b : Addr} {bs : List Addr} {ws : List V} (hn : Γ[n]? = some (.dp i p xss)) (ha : σ[n]? = some (some (.ref a))) (hH : H a = some (.lst (bs.map V.ref))) (hj : bs[j]? = some b) (hy : Prd (i.rep K H0) ws ys) :
    SR K F I H0 (upd H b (.lst ws)) σ (Γ.set n (.dp i p (xss.set j ys))) := by
  obtain ⟨a', bs', e1, e2, e3, e4, e5, e6, e7, e8⟩ := dp_at r hn
  rw [ha] at e1
  cases e1
  have eb : bs' = bs := refs_inj (by
    have := e5.symm.trans hH
    injection this with this
    injection this)
  subst eb
  have hb : b ∈ bs' := List.mem_of_getElem? hj
  have hl : n < Γ.length := (List.getElem?_eq_some_iff.mp hn).1
  have fb : Ftp H σ Γ n b := ⟨_, _, hn, ha, .inr ⟨a, bs', rfl, e5, hb⟩⟩
  obtain ⟨kb, zb, ob, hob⟩ := ftp_own r fb
  have nab : a ≠ b := fun z => e7 (z ▸ hb)
  have off : ∀ {m c}, m ≠ n → Ftp H σ Γ m c → c ≠ b := fun {m c} hm hc z => by
    subst z
    exact r.dj m n c hm hc fb
  have up : ∀ {k c}, Ftp (upd H b (.lst ws)) σ (Γ.set n (.dp i p (xss.set j ys))) k c → Ftp H σ Γ k c := fun {k c} h => by
    rcases ftp_set h with ⟨rfl, ov', e, f⟩ | ⟨hk, t, ov', e1, e2, f⟩
    · rw [ha] at e
      cases e
      rcases f with f | ⟨d, ds, f1, f2, f3⟩
      · exact ⟨_, _, hn, ha, .inl f⟩
      · cases f1
        rw [upd_ne nab] at f2
        exact ⟨_, _, hn, ha, .inr ⟨a, ds, rfl, f2, f3⟩⟩
    · obtain ⟨ov2, w1, w2⟩ := r.ok k t e1
      rw [w1] at e2
      cases e2
      exact ⟨t, ov', e1, w1, ft_back w2 (fun d o z1 z2 => by rw [upd_ne (off hk ⟨t, ov', e1, w1, z1⟩)]; exact z2) f⟩
  refine ⟨fun c o e => by rw [upd_ne (ne_of_none e kb)]; exact r.f _ _ e, r.i, r.g, fun c o e => by rw [upd_ne (ne_of_none e zb)]; exact r.h _ _ e, by simpa using r.len, fun m t e => ?_, fun k m c ne h1 h2 => r.dj k m c ne (up h1) (up h2)⟩
  rcases get_set e with ⟨rfl, rfl⟩ | ⟨hm, e⟩
  · refine ⟨_, ha, a, bs', rfl, e2, e3, e4, by rw [upd_ne nab]; exact e5, e6, e7, prd_upd e8 (fun k c x hk hc q => ?_) (fun c hc => ?_)⟩
    · obtain ⟨q1, q2, vs, q3, q4⟩ := q
      have ncb : c ≠ b := fun z => by
        subst z
        have l1 := (List.getElem?_eq_some_iff.mp hc).1
        exact hk ((List.getElem?_inj l1 e6).mp (hc.trans hj.symm))
      exact ⟨q1, q2, vs, by rw [upd_ne ncb]; exact q3, q4⟩
    · rw [hj] at hc
      cases hc
      exact ⟨kb, zb, ws, upd_same, hy⟩
  · obtain ⟨ov', w1, w2⟩ := r.ok m t e
    refine ⟨ov', w1, ?_⟩
    cases t with
    | un => trivial
    | per _ _ => exact w2
    | bor _ _ => exact w2
    | bl _ _ => exact w2
    | own j' p' xs' =>
      obtain ⟨c, vs', w3, w4, w5, w6, w7, w8⟩ := w2
      exact ⟨c, vs', w3, w4, w5, w6, by rw [upd_ne (off hm ⟨_, _, e, w1, w3⟩)]; exact w7, w8⟩
    | dp j' p' yss => exact dpOk.mono (p' := p') w2 (fun _ _ z => z) (fun _ _ z => z) (fun d o hd z => by rw [upd_ne (off hm ⟨_, _, e, w1, hd⟩)]; exact z) fun _ _ z => z
    | gn G => exact gnOk.mono w2 (fun _ _ z => z) (fun _ _ z => z) (fun d o hd z => by rw [upd_ne (off hm ⟨_, _, e, w1, hd⟩)]; exact z) fun _ z => z
    | ob c C dx fs =>
      obtain ⟨w3, w4, w5, w6, w7, w8, vs', w9, w10⟩ := w2
      exact ⟨w3, w4, w5, w6, w7, by rw [upd_ne (ne_of w8 hob (fun z => nomatch z))]; exact w8, vs', by rw [upd_ne (ne_of w9 hob (fun z => nomatch z))]; exact w9, w10⟩
end
end FF

set_option Elab.async false
set_option linter.all false
set_option maxRecDepth 100000
set_option maxHeartbeats 2000000
namespace FF
open PySem L2
/-! ### lists of lists of one's own: made, read, changed, given up -/
section
variable {K : Kf} {m m1 m2 p p1 p2 : Bool} {te ta tb tj : TE} {Γ Γ1 Γ2 : List Sl} {α : Type} [i : Rp α]
theorem d_nil : END K false (tLst tNil) Γ Γ ([] : List (List α)) := fun F I H0 H σ r Q q => by
  refine ⟨Nat.zero_le _, fun a ha => ?_⟩
  obtain ⟨r2, s1, z1, z2, z3⟩ := r.fresh (vs := []) ha
  exact q a [] H0 _ r2 (Same.refl _) (fun _ => s1) ⟨z1, z2, z3, upd_same, List.nodup_nil, List.not_mem_nil, .nil, fun _ h => (List.not_mem_nil h).elim⟩
theorem g_setD {xss : List (List α)} {n : Nat} (h : END K m te Γ Γ1 xss) (hn : n < Γ1.length := by exact Nat.le_of_ble_eq_true rfl) : Go K (tAsg te (gName n)) Γ (Γ1.set n (dw xss)) := fun F I H0 H σ D r q =>
  h F I H0 H σ r _ fun a bs H1 H1' r1 a1 b1 N => q H1 H1' _ a1 (r1.set (s := dw xss) (N.ok fun _ z => nomatch z) (fun b hb k _ ho => N.ft hb k ho) hn)
/-- what a turn of a walk over SR's own place gives back -/
theorem d_lc {o : Bool} {wi : TI} {g : TG} {vs : List Nat} {α β : Type} {i : Rp α} [j : Rp β] {xs : List α} {f : α → List β} (Γt : α → List Sl) (hw : Wlk K o m wi Γ Γ1 i xs) (hf : Free vs Γ1) (hz : xs.length ≤ 100000)
    (hg : ∀ x, TgC K o g i x Γ1 (Γt x) vs) (he : ∀ x, x ∈ xs → EN K false te (Γt x) (Γt x) (f x)) (hk : ∀ x, Wk (Γt x) Γ1) : END K m (tLc wi g tYes te vs) Γ Γ1 (xs.map f) := fun F I H0 H σ r Q q => by
  refine hw F I H0 H σ r _ fun J H1 H1' r1 a1 b1 turn => fun D hD => ?_
  have hFD : F.k D = none := Same.free r1.f hD
  have h0D : H1 D = none := Same.free r1.h hD
  refine ⟨fun n k H' => k = xs.length - n ∧ n ≤ xs.length ∧ ∃ H0' bs, Same H1 H0' ∧ SR K F I H0' H' σ Γ1 ∧ (m = false → Same H H') ∧ NewD K F H0' H' σ Γ1 j D bs ((xs.take n).map f), ⟨xs.length, by simp, Nat.zero_le _, H1, [], Same.refl _, ?_⟩, ?_⟩
  · obtain ⟨r2, s1, z1, z2, z3⟩ := r1.fresh (vs := []) hD
    exact ⟨r2, fun z => (b1 z).trans s1, z1, z2, z3, upd_same, List.nodup_nil, List.not_mem_nil, .nil, fun _ h => (List.not_mem_nil h).elim⟩
  rintro n k H' ⟨rfl, hn, H0', bs, s0', r', hm, N⟩
  obtain ⟨t1, t2⟩ := turn n H0' H' s0' r'.h r'.f hn
  by_cases hl : n < xs.length
  · have hx : xs[n]? = some xs[n] := List.getElem?_eq_getElem hl
    obtain ⟨t3, t4⟩ := t2 _ hx
    refine .inr ⟨t3, fun H2 => ∃ H0'' cs, Same H1 H0'' ∧ SR K F I H0'' H2 σ Γ1 ∧ (m = false → Same H H2) ∧ NewD K F H0'' H2 σ Γ1 j D cs ((xs.take (n + 1)).map f),
      fun H2 ⟨H0'', cs, z⟩ => ⟨xs.length - (n + 1), by omega, rfl, by omega, H0'', cs, z⟩, fun v H2 y => ?_⟩
    have hA0 : ∀ a ∈ D :: bs, H0' a = none := fun a ha => by
      rcases List.mem_cons.mp ha with rfl | ha
      · exact N.z
      · obtain ⟨l, hl⟩ := List.getElem?_of_mem ha
        obtain ⟨_, _, q1, q2, _⟩ := prd_getL N.all hl
        exact q2
    have hAf : ∀ a ∈ D :: bs, Fre H' σ Γ1 a := fun a ha => by
      rcases List.mem_cons.mp ha with rfl | ha
      · exact N.fr
      · exact N.frs a ha
    have hAl : ∀ a ∈ D :: bs, ∃ vl, H' a = some (.lst vl) := fun a ha => by
      rcases List.mem_cons.mp ha with rfl | ha
      · exact ⟨_, N.h⟩
      · obtain ⟨l, hl⟩ := List.getElem?_of_mem ha
        obtain ⟨_, _, _, _, us, q3, _⟩ := prd_getL N.all hl
        exact ⟨us, q3⟩
    have hAk : ∀ a ∈ D :: bs, F.k a = none := fun a ha => by
      rcases List.mem_cons.mp ha with rfl | ha
      · exact N.k
      · obtain ⟨l, hl⟩ := List.getElem?_of_mem ha
        obtain ⟨_, _, q1, _⟩ := prd_getL N.all hl
        exact q1
    have rG := r'.guardL hA0 hAf hAl
    have sG : Same F.k (F.more H' (D :: bs)).k := mor_same
    obtain ⟨H0n, sn, rg, y2, sh⟩ := (t4 v H2 y).step (rG.wiped hf)
    refine hg _ (F.more H' (D :: bs)) I H0n H2 (wipe σ vs) v rg y2 _ fun σ2 r2 hw2 => ⟨?_, ?_⟩
    · rw [hw2]
      exact wipe_ext (wipe_length _ _) fun l hl => wipe_get hl
    have back : ∀ {l : Nat}, l ∉ vs → σ2[l]? = σ[l]? := fun {l} hl => by
      have := wipe_back hw2 hl
      rw [this, wipe_get hl]
    refine tyes (F.more H' (D :: bs)) I H0n H2 σ2 r2 _ fun H3 H3' r3 a3 b3 => ?_
    rw [if_pos rfl]
    refine he _ (List.mem_of_getElem? hx) (F.more H' (D :: bs)) I H3 H3' σ2 r3 _ fun c us H4 H4' r4 a4 b4 c1 c2 c3 c4 c5 => ?_
    have S : Same H' H4' := (sh.trans (b3 rfl)).trans (b4 rfl)
    have hle : Γ1.length ≤ σ.length := r'.len
    have rH : SR K (F.more H' (D :: bs)) I H4 H4' σ Γ1 := (wk_sr r4 (hk _)).sets hle fun l t' el => by
      by_cases hv : l ∈ vs
      · exact .inl (hf l hv t' el)
      · exact .inr ⟨el, (back hv).symm⟩
    have fr4 : Fre H4' σ Γ1 c := fun l z => by
      obtain ⟨t', ov, e1, e2, f'⟩ := z
      by_cases hv : l ∈ vs
      · rw [hf l hv t' e1] at f'
        exact f'
      · rcases (hk xs[n]).2 l t' e1 with rfl | e3
        · exact f'
        · exact c3 l ⟨t', ov, e3, by rw [back hv]; exact e2, f'⟩
    have inG : ∀ a ∈ D :: bs, (F.more H' (D :: bs)).k a = H' a := fun a ha => mor_in (hAk a ha) ha
    have cA : c ∉ D :: bs := fun z => by
      obtain ⟨vl, e⟩ := hAl c z
      have := (inG c z).symm.trans c1
      rw [e] at this
      cases this
    have z4 : ∀ a ∈ D :: bs, H4 a = none := fun a ha => by
      obtain ⟨vl, e⟩ := hAl a ha
      exact rH.g a _ ((inG a ha).trans e) (Same.free r'.i (hA0 a ha))
    have f4 : ∀ a ∈ D :: bs, Fre H4' σ Γ1 a := fun a ha => fre_same r' S (hAf a ha)
    have rF : SR K F I H4 H4' σ Γ1 := rH.less sG rfl
    have hDm : D ∈ D :: bs := List.mem_cons_self
    have hcD : c ≠ D := fun z => cA (z ▸ hDm)
    have cF : F.k c = none := Same.free sG c1
    have el := prd_len N.all
    obtain ⟨rA, fA⟩ := rF.aside (D := D) (us := (bs ++ [c]).map V.ref) N.k (z4 D hDm) (f4 D hDm) (S _ _ N.h)
    have keepF : ∀ {a : Addr}, a ≠ D → Fre H4' σ Γ1 a → Fre (upd H4' D (.lst ((bs ++ [c]).map V.ref))) σ Γ1 a := fun {a} ha h l z => h l (ftp_back rF (fun d l o z1 z2 => by rw [upd_ne (fun w => by subst w; exact f4 d hDm l z1)]; exact z2) z)
    have hbD : ∀ b ∈ bs, b ≠ D := fun b hb z => N.na (z ▸ hb)
    refine ⟨bs.map V.ref, S _ _ N.h, ?_, H4, bs ++ [c], ((s0'.trans sn).trans a3).trans a4, ?_, fun z => ?_, ?_⟩
    · rw [List.length_map, el, List.length_map, List.length_take]
      exact Nat.lt_of_lt_of_le (show _ < 100000 by omega) (by decide)
    · have e : (bs.map V.ref) ++ [V.ref c] = (bs ++ [c]).map V.ref := by simp
      rw [e]
      exact rA
    · have hHD : H D = none := by
        cases z3 : H D with
        | none => rfl
        | some o => rw [b1 z D o z3] at hD; cases hD
      exact fun b o e' => by rw [upd_ne (ne_of_none e' hHD)]; exact ((hm z).trans S) b o e'
    · have e : (bs.map V.ref) ++ [V.ref c] = (bs ++ [c]).map V.ref := by simp
      have em : (xs.take n ++ [xs[n]]).map f = (xs.take n).map f ++ [f xs[n]] := by rw [List.map_append]; rfl
      rw [e, take_succ hx, em]
      refine ⟨N.k, z4 D hDm, fA, upd_same, List.nodup_append.mpr ⟨N.nd, by simp, fun a ha b hb e => ?_⟩, fun z => ?_, prd_app (prd_monoM (fun b hb xs' q => ?_) N.all) (.cons ⟨cF, c2, us, by rw [upd_ne hcD]; exact c4, c5⟩ .nil), fun b hb => ?_⟩
      · rw [List.mem_singleton.mp hb] at e
        exact cA (List.mem_cons_of_mem _ (e ▸ ha))
      · rcases List.mem_append.mp z with z | z
        · exact N.na z
        · exact hcD (List.mem_singleton.mp z).symm
      · obtain ⟨q1, q2, ws, q3, q4⟩ := q
        exact ⟨q1, z4 b (List.mem_cons_of_mem _ hb), ws, by rw [upd_ne (hbD b hb)]; exact S _ _ q3, prd_mono (fun _ _ z => j.mono ((sn.trans a3).trans a4) z) q4⟩
      · rcases List.mem_append.mp hb with hb | hb
        · exact keepF (hbD b hb) (f4 b (List.mem_cons_of_mem _ hb))
        · rw [List.mem_singleton.mp hb]
          exact keepF hcD fr4
  · have e' : n = xs.length := by omega
    subst e'
    rw [List.take_length] at N
    exact .inl ⟨t1 rfl, q D bs H0' H' r' (a1.trans s0') hm N⟩
/-! ### read -/
theorem e_dvar {xss : List (List α)} {n : Nat} {a : Option Addr} (hn : Γ[n]? = some (.dp i a xss)) : E K false false (tVar n) Γ Γ xss := fun F I H0 H σ r Q q => by
  obtain ⟨b, bs, e1, e2, e3, e4, e5, e6, e7, e8⟩ := dp_at r hn
  exact ⟨.ref b, e1, q _ H0 H r (Same.refl _) (fun _ => Same.refl _) ⟨b, _, rfl, e5, in_refs r.h e8⟩⟩
/-- which of the inner lists stands at k -/
theorem dp_ix {F : Fm} {I H0 H : Hp} {σ : St} {xss : List (List α)} {n : Nat} {a : Option Addr} {k : Int} (r : SR K F I H0 H σ Γ) (hn : Γ[n]? = some (.dp i a xss)) (hk : 0 ≤ k ∧ k < xss.length) : ∃ (c : Addr) (bs : List Addr) (b : Addr) (vs : List V), σ[n]? = some (some (.ref c)) ∧ H c = some (.lst (bs.map V.ref)) ∧ bs[k.toNat]? = some b ∧ atI (bs.map V.ref) k = some (.ref b) ∧ H b = some (.lst vs) ∧ Prd (i.rep K H0) vs (gi xss k) := by
  obtain ⟨c, bs, e1, e2, e3, e4, e5, e6, e7, e8⟩ := dp_at r hn
  have el := prd_len e8
  have hx : xss[k.toNat]? = some (gi xss k) := by
    unfold gi
    rw [if_pos hk.1, List.getD_eq_getElem?_getD, List.getElem?_eq_getElem (by omega)]; rfl
  obtain ⟨b, hb, q1, q2, vs, q3, q4⟩ := prd_get e8 hx
  refine ⟨c, bs, b, vs, e1, e5, hb, ?_, q3, q4⟩
  unfold atI ixN
  rw [if_pos hk.1, if_pos (by rw [List.length_map]; omega)]
  show (bs.map V.ref)[k.toNat]? = _
  rw [List.getElem?_map, hb]
  rfl
theorem e_dix {xss : List (List α)} {k : Int} {n : Nat} {a : Option Addr} (hb : E K false p tb Γ Γ k) (hn : Γ[n]? = some (.dp i a xss)) (h : 0 ≤ k ∧ k < xss.length) : E K false false (tOp (rIxL K) (tVar n) tb) Γ Γ (gi xss k) := fun F I H0 H σ r Q q => by
  obtain ⟨c0, bs0, b0, vs0, e1, _⟩ := dp_ix r hn h
  refine ⟨.ref c0, e1, hb.sc F I H0 H σ r _ fun w H2 H2' r2 a2 b2 c2 => ?_⟩
  obtain ⟨c, bs, b, vs, e1', e2, e3, e4, e5, e6⟩ := dp_ix r2 hn h
  rw [e1] at e1'
  cases e1'
  subst c2
  exact ⟨c0, _, k, .ref b, rfl, rfl, SqL.of e2, e4, q _ H2 H2' r2 a2 b2 ⟨b, vs, rfl, e5, prd_mono (fun _ _ z => i.mono r2.h z) e6⟩⟩
/-! ### changed -/
theorem ls_set {α : Type} {xs : List α} {k : Int} {x : α} (h : 0 ≤ k) : ls xs k x = xs.set k.toNat x := by unfold ls; rw [if_pos h]
/-- rows[k][e] = v -/
theorem g_dset {xss : List (List α)} {x : α} {k e : Int} {n : Nat} {a : Option Addr} {tk : TE} (h : E K m1 true te Γ Γ1 x) (h1 : Γ1[n]? = some (.dp i a xss)) (hj : E K false p1 tj Γ1 Γ1 k) (hk : E K false p2 tk Γ1 Γ1 e) (b1 : 0 ≤ k ∧ k < xss.length) (b2 : 0 ≤ e ∧ e < (gi xss k).length) :
    Go K (tAsg te (gSub (tOp (rIxL K) (tVar n) tj) tk rSetL)) Γ (Γ1.set n (.dp i a (ls xss k (ls (gi xss k) e x)))) := fun F I H0 H σ D r q =>
  h F I H0 H σ r _ fun v H1 H1' r1 a1 _ c1 => by
    obtain ⟨c0, bs0, b0, vs0, e1, _⟩ := dp_ix r1 h1 b1
    refine ⟨.ref c0, e1, hj.sc F I H1 H1' σ r1 _ fun w H2 H2' r2 a2 _ c2 => ?_⟩
    obtain ⟨c, bs, b, vs, e1', e2, e3, e4, e5, e6⟩ := dp_ix r2 h1 b1
    rw [e1] at e1'
    cases e1'
    subst c2
    refine ⟨c0, _, k, .ref b, rfl, rfl, SqL.of e2, e4, hk.sc F I H2 H2' σ r2 _ fun w H3 H3' r3 a3 b3 c3 => ?_⟩
    subst c3
    obtain ⟨c', bs', b', vs', f1, f2, f3, f4, f5, f6⟩ := dp_ix r3 h1 b1
    rw [e1] at f1
    cases f1
    have eb : b = b' := by
      have s1 := (b3 rfl) _ _ e2
      rw [f2] at s1
      have : bs' = bs := refs_inj (by injection s1 with s1; injection s1)
      subst this
      rw [e3] at f3
      cases f3
      rfl
    subst eb
    obtain ⟨j, j1, j2⟩ := ls_at f6 b2 (i.mono (a2.trans a3) (show i.rep K H1 v x by simpa using c1))
    refine ⟨b, vs', e, j, rfl, rfl, f5, j1, ?_⟩
    rw [ls_set b1.1] at q
    exact q _ _ σ ((a1.trans a2).trans a3) (r3.mutD h1 e1 f2 f3 j2)
/-- rows[k].append(x) -/
theorem g_dapp {xss : List (List α)} {x : α} {k : Int} {n : Nat} {a : Option Addr} (hj : E K false p1 tj Γ Γ k) (h : E K false true te Γ Γ x) (h1 : Γ[n]? = some (.dp i a xss)) (b1 : 0 ≤ k ∧ k < xss.length) (hz : (gi xss k).length < 100000) :
    Go K (tDrop (tBM K "list" rAppend (tOp (rIxL K) (tVar n) tj) (tCons te tNil))) Γ (Γ.set n (.dp i a (ls xss k (gi xss k ++ [x])))) := fun F I H0 H σ D r q => by
  obtain ⟨c0, bs0, b0, vs0, e1, _⟩ := dp_ix r h1 b1
  refine ⟨.ref c0, e1, hj.sc F I H0 H σ r _ fun w H2 H2' r2 a2 _ c2 => ?_⟩
  obtain ⟨c, bs, b, vs, e1', e2, e3, e4, e5, e6⟩ := dp_ix r2 h1 b1
  rw [e1] at e1'
  cases e1'
  subst c2
  refine ⟨c0, _, k, .ref b, rfl, rfl, SqL.of e2, e4, Or.inl ⟨rfl, vs, SqL.of e5⟩, h F I H2 H2' σ r2 _ fun v H3 H3' r3 a3 b3 c3 => ?_⟩
  obtain ⟨c', bs', b', vs', f1, f2, f3, f4, f5, f6⟩ := dp_ix r3 h1 b1
  rw [e1] at f1
  cases f1
  have eb : b = b' := by
    have s1 := (b3 rfl) _ _ e2
    rw [f2] at s1
    have : bs' = bs := refs_inj (by injection s1 with s1; injection s1)
    subst this
    rw [e3] at f3
    cases f3
    rfl
  subst eb
  refine ⟨b, vs', v, rfl, rfl, f5, ?_, ?_⟩
  · rw [prd_len f6]
    exact Nat.lt_of_lt_of_le hz (by decide)
  · rw [ls_set b1.1] at q
    exact q _ _ σ (a2.trans a3) (r3.mutD h1 e1 f2 f3 (prd_app f6 (.cons (show i.rep K H3 v x by simpa using c3) .nil)))
/-- rows[k].pop() -/
theorem e_dpop [Inhabited α] {xss : List (List α)} {k : Int} {n : Nat} {a : Option Addr} (hj : E K false p1 tj Γ Γ k) (h1 : Γ[n]? = some (.dp i a xss)) (b1 : 0 ≤ k ∧ k < xss.length) (hz : 0 < (gi xss k).length) :
    E K true true (tBM0 K "list" rPop (tOp (rIxL K) (tVar n) tj)) Γ (Γ.set n (.dp i a (ls xss k (gi xss k).dropLast))) (gi (gi xss k) (-1)) := fun F I H0 H σ r Q q => by
  obtain ⟨c0, bs0, b0, vs0, e1, _⟩ := dp_ix r h1 b1
  refine ⟨.ref c0, e1, hj.sc F I H0 H σ r _ fun w H2 H2' r2 a2 _ c2 => ?_⟩
  obtain ⟨c, bs, b, vs, e1', e2, e3, e4, e5, e6⟩ := dp_ix r2 h1 b1
  rw [e1] at e1'
  cases e1'
  subst c2
  have el := prd_len e6
  obtain ⟨u, u1, u2⟩ := gi_at e6 (k := -1) (by omega)
  have u3 : vs[vs.length - 1]? = some u := by
    unfold atI ixN at u1
    rw [if_neg (by omega), if_pos (by omega)] at u1
    have e : (-1 + (vs.length : Int)).toNat = vs.length - 1 := by omega
    rw [e] at u1
    exact u1
  refine ⟨c0, _, k, .ref b, rfl, rfl, SqL.of e2, e4, Or.inl ⟨rfl, vs, SqL.of e5⟩, b, vs, u, rfl, rfl, e5, u3, q _ H2 _ ?_ a2 (fun z => nomatch z) (show i.rep K H2 u _ from u2)⟩
  rw [ls_set b1.1]
  exact r2.mutD h1 e1 e2 e3 (prd_dropLast e6)
/-! ### given up -/
theorem SR.dfrz {F : Fm} {I H0 H : Hp} {σ : St} {xss : List (List α)} {n : Nat} {a : Option Addr} (r : SR K F I H0 H σ Γ) (hn : Γ[n]? = some (.dp i a xss)) : ∃ (c : Addr) (bs : List Addr), σ[n]? = some (some (.ref c)) ∧ (∀ q, a = some q → c = q) ∧ F.k c = none ∧ mor H0 H bs c = none ∧ H c = some (.lst (bs.map V.ref)) ∧ Prd ((@instRpList α i).rep K (mor H0 H bs)) (bs.map V.ref) xss ∧ SR K F I (mor H0 H bs) H σ (Γ.set n .un) ∧ Fre H σ (Γ.set n .un) c := by
  obtain ⟨c, bs, e1, e2, e3, e4, e5, e6, e7, e8⟩ := dp_at r hn
  have r1 : SR K F I H0 H σ (Γ.set n .un) := r.weak (by simp) fun k s e => by
    rcases get_set e with ⟨_, z⟩ | ⟨_, z⟩
    · exact .inl z
    · exact .inr z
  have fc : Ftp H σ Γ n c := ⟨_, _, hn, e1, .inl rfl⟩
  have inn : ∀ b ∈ bs, ∃ xs, inOk K F H0 H i b xs := fun b hb => by
    obtain ⟨l, hl⟩ := List.getElem?_of_mem hb
    obtain ⟨y, _, q⟩ := prd_getL e8 hl
    exact ⟨y, q⟩
  have r2 := r1.keepL (A := bs) (fun b hb => by obtain ⟨_, q, _⟩ := inn b hb; exact q) (fun b hb => fre_un r ⟨_, _, hn, e1, .inr ⟨c, bs, rfl, e5, hb⟩⟩) (fun b hb => by obtain ⟨xs, _, _, vs, q, _⟩ := inn b hb; exact ⟨vs, q⟩)
  refine ⟨c, bs, e1, e2, e3, mor_out e4 e7, e5, ?_, r2, fre_un r fc⟩
  have : ∀ {l : List Addr} {ys : List (List α)}, (∀ b ∈ l, b ∈ bs) → Prd (inOk K F H0 H i) l ys → Prd ((@instRpList α i).rep K (mor H0 H bs)) (l.map V.ref) ys := by
    intro l ys hl h
    induction h with
    | nil => exact .nil
    | cons q t ih =>
      obtain ⟨_, q2, vs, q3, q4⟩ := q
      exact .cons ⟨_, vs, rfl, by rw [mor_in q2 (hl _ List.mem_cons_self)]; exact q3, prd_mono (fun _ _ z => i.mono mor_same z) q4⟩ (ih fun b hb => hl b (List.mem_cons_of_mem _ hb))
  exact this (fun _ h => h) e8
theorem slot_same {σ : St} {n : Nat} {c : Addr} (e1 : σ[n]? = some (some (V.ref c))) : σ.set n (some (.ref c)) = σ := by
  apply List.ext_getElem?
  intro k
  by_cases z : k = n
  · subst z
    rw [List.getElem?_set_self (List.getElem?_eq_some_iff.mp e1).1, e1]
  · rw [List.getElem?_set_ne (Ne.symm z)]
/-- the inner lists stand for good; the outer one stays one's own -/
theorem g_half {xss : List (List α)} {n : Nat} {a : Option Addr} (hn : Γ[n]? = some (.dp i a xss)) : Go K tNext Γ (Γ.set n (.own (@instRpList α i) a xss)) := fun F I H0 H σ D r q => by
  obtain ⟨c, bs, e1, e2, e3, e4, e5, e6, r2, fr⟩ := r.dfrz hn
  have hl : n < Γ.length := (List.getElem?_eq_some_iff.mp hn).1
  have r3 := r2.set (i := n) (v := .ref c) (s := .own (@instRpList α i) a xss) ⟨c, _, rfl, e2, e3, e4, e5, e6⟩ (fun b hb k _ ho => by
    have e : some (V.ref c) = some (V.ref b) := hb
    cases e
    exact fr k ho) (by simpa using hl)
  rw [slot_same e1, List.set_set] at r3
  exact q _ H σ mor_same r3
/-- all of it stands for good -/
theorem e_dfrz {xss : List (List α)} {n : Nat} (hn : Γ[n]? = some (.dp i none xss)) : E K false true (tVar n) Γ (Γ.set n (.per (inferInstance : Rp (List (List α))) xss)) xss := fun F I H0 H σ r Q q => by
  obtain ⟨c, bs, e1, e2, e3, e4, e5, e6, r2, fr⟩ := r.dfrz hn
  have hl : n < Γ.length := (List.getElem?_eq_some_iff.mp hn).1
  obtain ⟨r3, s0⟩ := r2.keep e3 e4 fr e5
  have rp : (inferInstance : Rp (List (List α))).rep K (upd (mor H0 H bs) c (.lst (bs.map V.ref))) (.ref c) xss := ⟨c, _, rfl, upd_same, prd_mono (fun _ _ z => (@instRpList α i).mono s0 z) e6⟩
  have r4 := pr_set (n := n) r3 rp (by simpa using hl)
  rw [slot_same e1, List.set_set] at r4
  exact ⟨.ref c, e1, q _ _ _ r4 (mor_same.trans s0) (fun _ => Same.refl _) rp⟩
/-- .. of a new list of new lists -/
theorem END.n {xss : List (List α)} (h : END K m te Γ Γ1 xss) : EN K m te Γ Γ1 xss := fun F I H0 H σ r Q q =>
  h F I H0 H σ r Q fun a bs H1 H1' r1 a1 b1 N => by
    have inn : ∀ b ∈ bs, ∃ xs, inOk K F H1 H1' i b xs := fun b hb => by
      obtain ⟨l, hl⟩ := List.getElem?_of_mem hb
      obtain ⟨y, _, q⟩ := prd_getL N.all hl
      exact ⟨y, q⟩
    have r2 := r1.keepL (A := bs) (fun b hb => by obtain ⟨_, q, _⟩ := inn b hb; exact q) N.frs (fun b hb => by obtain ⟨xs, _, _, vs, q, _⟩ := inn b hb; exact ⟨vs, q⟩)
    have : ∀ {l : List Addr} {ys : List (List α)}, (∀ b ∈ l, b ∈ bs) → Prd (inOk K F H1 H1' i) l ys → Prd ((@instRpList α i).rep K (mor H1 H1' bs)) (l.map V.ref) ys := by
      intro l ys hl h
      induction h with
      | nil => exact .nil
      | cons q t ih =>
        obtain ⟨_, q2, vs, q3, q4⟩ := q
        exact .cons ⟨_, vs, rfl, by rw [mor_in q2 (hl _ List.mem_cons_self)]; exact q3, prd_mono (fun _ _ z => i.mono mor_same z) q4⟩ (ih fun b hb => hl b (List.mem_cons_of_mem _ hb))
    exact q a _ _ H1' r2 (a1.trans mor_same) b1 N.k (mor_out N.z N.na) N.fr N.h (this (fun _ h => h) N.all)
end
end FF

set_option Elab.async false
set_option linter.all false
set_option maxRecDepth 100000
set_option maxHeartbeats 2000000
namespace FF
open PySem L2
/-! ### one of the inner lists under a name of its own; lists of lists handed in, handed back -/
/-- a name that points there -/
@[reducible] def atR : Rp Addr := ⟨fun _ _ v x => v = .ref x, fun _ h => h⟩
theorem prd_set2 {α : Type u} {β : Type v} {F G : α → β → Prop} {d : α} {y : β} : ∀ {l₁ : List α} {l₂ : List β} {j : Nat}, Prd F l₁ l₂ → (∀ (k : Nat) a x, k ≠ j → l₁[k]? = some a → F a x → G a x) → G d y → Prd G (l₁.set j d) (l₂.set j y)
  | _, _, _, .nil, _, _ => .nil
  | _, _, 0, .cons r t, k, h => .cons h (prd_monoI t fun n b x e => k (n + 1) b x (Nat.succ_ne_zero n) e)
  | _, _, j + 1, .cons r t, k, h => .cons (k 0 _ _ (Nat.succ_ne_zero j).symm rfl r) (prd_set2 t (fun n b x ne e => k (n + 1) b x (fun z => ne (Nat.succ.inj z)) e) h)
theorem nodup_set {d : Addr} : ∀ {l : List Addr} {k : Nat}, l.Nodup → d ∉ l → (l.set k d).Nodup
  | [], _, _, _ => List.nodup_nil
  | a :: l, 0, h, hd => List.nodup_cons.mpr ⟨fun z => hd (List.mem_cons_of_mem _ z), (List.nodup_cons.mp h).2⟩
  | a :: l, k + 1, h, hd => List.nodup_cons.mpr ⟨fun z => by
      rcases List.mem_or_eq_of_mem_set z with z | z
      · exact (List.nodup_cons.mp h).1 z
      · exact hd (z ▸ List.mem_cons_self), nodup_set (List.nodup_cons.mp h).2 fun z => hd (List.mem_cons_of_mem _ z)⟩
section
variable {K : Kf} {F : Fm} {I H0 H H0' H' : Hp} {σ σ' : St} {Γ : List Sl} {α : Type} {i : Rp α}
def othersOf (a b : Addr) (bs : List Addr) : List Addr := a :: bs.filter fun c => decide (c ≠ b)
theorem others_in {a b c : Addr} {bs : List Addr} (h : c ∈ othersOf a b bs) : c = a ∨ (c ∈ bs ∧ c ≠ b) := by
  rcases List.mem_cons.mp h with h | h
  · exact .inl h
  · have := List.mem_filter.mp h
    exact .inr ⟨this.1, by simpa using this.2⟩
theorem others_a {a b : Addr} {bs : List Addr} : a ∈ othersOf a b bs := List.mem_cons_self
theorem others_b {a b c : Addr} {bs : List Addr} (h : c ∈ bs) (ne : c ≠ b) : c ∈ othersOf a b bs := List.mem_cons_of_mem _ (List.mem_filter.mpr ⟨h, by simpa using ne⟩)
@[reducible] def fcs (Γ : List Sl) (n m : Nat) (i : Rp α) (a b : Addr) (xs : List α) : List Sl := (Γ.set n (.per atR a)).set m (.own i (some b) xs)
/-- all that is known while one of them is looked at -/
structure Fcs (K : Kf) (F : Fm) (I H0 H : Hp) (σ : St) (Γ : List Sl) (n : Nat) {α : Type} (i : Rp α) (p : Option Addr) (xss : List (List α)) (a b : Addr) (bs : List Addr) (j : Nat) : Prop where
  pa : ∀ q, p = some q → a = q
  ka : F.k a = none
  za : H0 a = none
  ha : H a = some (.lst (bs.map V.ref))
  nd : bs.Nodup
  na : a ∉ bs
  all : Prd (inOk K F H0 H i) bs xss
  hj : bs[j]? = some b
  hn : Γ[n]? = some (.dp i p xss)
  fre : ∀ c ∈ a :: bs, Fre H σ (Γ.set n .un) c
  ii : Same I H0
theorem Fcs.lst {n j : Nat} {p : Option Addr} {xss : List (List α)} {a b : Addr} {bs : List Addr} (f : Fcs K F I H0 H σ Γ n i p xss a b bs j) {c : Addr} (hc : c ∈ a :: bs) : F.k c = none ∧ H0 c = none ∧ ∃ vl, H c = some (.lst vl) := by
  rcases List.mem_cons.mp hc with rfl | hc
  · exact ⟨f.ka, f.za, _, f.ha⟩
  · obtain ⟨l, hl⟩ := List.getElem?_of_mem hc
    obtain ⟨_, _, q1, q2, us, q3, _⟩ := prd_getL f.all hl
    exact ⟨q1, q2, us, q3⟩
theorem Fcs.bm {n j : Nat} {p : Option Addr} {xss : List (List α)} {a b : Addr} {bs : List Addr} (f : Fcs K F I H0 H σ Γ n i p xss a b bs j) : b ∈ bs := List.mem_of_getElem? f.hj
theorem Fcs.bo {n j : Nat} {p : Option Addr} {xss : List (List α)} {a b : Addr} {bs : List Addr} (f : Fcs K F I H0 H σ Γ n i p xss a b bs j) : b ∉ othersOf a b bs := fun z => by
  rcases others_in z with z | z
  · exact f.na (z ▸ f.bm)
  · exact z.2 rfl
theorem Fcs.om {n j : Nat} {p : Option Addr} {xss : List (List α)} {a b c : Addr} {bs : List Addr} (f : Fcs K F I H0 H σ Γ n i p xss a b bs j) (h : c ∈ othersOf a b bs) : c ∈ a :: bs := by
  rcases others_in h with rfl | h
  · exact List.mem_cons_self
  · exact List.mem_cons_of_mem _ h.1
theorem fcs_of {n j : Nat} {p : Option Addr} {xss : List (List α)} {a b : Addr} {bs : List Addr} (r : SR K F I H0 H σ Γ) (hn : Γ[n]? = some (.dp i p xss)) (ha : σ[n]? = some (some (.ref a))) (hH : H a = some (.lst (bs.map V.ref))) (hj : bs[j]? = some b) : Fcs K F I H0 H σ Γ n i p xss a b bs j := by
  obtain ⟨a', bs', e1, e2, e3, e4, e5, e6, e7, e8⟩ := dp_at r hn
  rw [ha] at e1
  cases e1
  have eb : bs' = bs := refs_inj (by
    have := e5.symm.trans hH
    injection this with this
    injection this)
  subst eb
  refine ⟨e2, e3, e4, e5, e6, e7, e8, hj, hn, fun c hc => ?_, r.i⟩
  rcases List.mem_cons.mp hc with rfl | hc
  · exact fre_un r ⟨_, _, hn, ha, .inl rfl⟩
  · exact fre_un r ⟨_, _, hn, ha, .inr ⟨a, bs', rfl, e5, hc⟩⟩
/-- the others are put aside -/
theorem SR.focus {n m j : Nat} {p : Option Addr} {xss : List (List α)} {xs : List α} {a b : Addr} {bs : List Addr} (r : SR K F I H0 H σ Γ) (f : Fcs K F I H0 H σ Γ n i p xss a b bs j) (ha : σ[n]? = some (some (.ref a))) (hx : xss[j]? = some xs) (nm : n ≠ m) (hm : m < Γ.length) :
    SR K (F.more H (othersOf a b bs)) I H0 H (σ.set m (some (.ref b))) (fcs Γ n m i a b xs) := by
  have hl : n < Γ.length := (List.getElem?_eq_some_iff.mp f.hn).1
  have r0 : SR K F I H0 H σ (Γ.set n .un) := r.weak (by simp) fun k s e => by
    rcases get_set e with ⟨_, z⟩ | ⟨_, z⟩
    · exact .inl z
    · exact .inr z
  have r1 := r0.set (i := n) (v := .ref a) (s := .per atR a) ⟨_, rfl, rfl⟩ (fun _ z => z.elim) (by simpa using hl)
  rw [slot_same ha, List.set_set] at r1
  have fre1 : ∀ c ∈ a :: bs, Fre H σ (Γ.set n (.per atR a)) c := fun c hc k z => by
    rcases ftp_set z with ⟨_, _, _, w⟩ | ⟨hk, w⟩
    · exact w
    · obtain ⟨t, ov, e1, e2, e3⟩ := w
      exact f.fre c hc k ⟨t, ov, by rw [List.getElem?_set_ne (Ne.symm hk)]; exact e1, e2, e3⟩
  have r2 := r1.guardL (A := othersOf a b bs) (fun c hc => (f.lst (f.om hc)).2.1) (fun c hc => fre1 c (f.om hc)) (fun c hc => (f.lst (f.om hc)).2.2)
  obtain ⟨c, q0, q1, q2, vs, q3, q4⟩ := prd_get f.all hx
  have ec : c = b := by rw [f.hj] at q0; cases q0; rfl
  subst ec
  have hbm : c ∈ a :: bs := List.mem_cons_of_mem _ f.bm
  exact r2.set (i := m) (v := .ref c) (s := .own i (some c) xs) ⟨c, vs, rfl, fun q z => Option.some.inj z, mor_out q1 f.bo, q2, q3, q4⟩ (fun d hd k _ ho => by
    have e : some (V.ref c) = some (V.ref d) := hd
    cases e
    exact fre1 c hbm k ho) (by simpa using hm)
/-- what stands behind -/
theorem fcs_back {n m j : Nat} {p : Option Addr} {xss : List (List α)} {ys : List α} {a b : Addr} {bs : List Addr} (f : Fcs K F I H0 H σ Γ n i p xss a b bs j) (r : SR K (F.more H (othersOf a b bs)) I H0' H' σ' (fcs Γ n m i a b ys)) (nm : n ≠ m) (hm : m < Γ.length) :
    (∀ c ∈ othersOf a b bs, H0' c = none ∧ H' c = H c ∧ Fre H' σ' (fcs Γ n m i a b ys) c) ∧ σ'[n]? = some (some (.ref a)) ∧ σ'[m]? = some (some (.ref b)) ∧ F.k b = none ∧ H0' b = none ∧ ∃ ws, H' b = some (.lst ws) ∧ Prd (i.rep K H0') ws ys := by
  have hl : n < Γ.length := (List.getElem?_eq_some_iff.mp f.hn).1
  have g1 : (fcs Γ n m i a b ys)[n]? = some (.per atR a) := by
    unfold fcs
    rw [List.getElem?_set_ne (Ne.symm nm), List.getElem?_set_self hl]
  have g2 : (fcs Γ n m i a b ys)[m]? = some (.own i (some b) ys) := by
    unfold fcs
    rw [List.getElem?_set_self (by simpa using hm)]
  have inG : ∀ c ∈ othersOf a b bs, ∃ o, H c = some o ∧ (F.more H (othersOf a b bs)).k c = some o := fun c hc => by
    obtain ⟨q1, _, vl, q3⟩ := f.lst (f.om hc)
    exact ⟨_, q3, (mor_in q1 hc).trans q3⟩
  refine ⟨fun c hc => ?_, ?_, ?_⟩
  · obtain ⟨o, o1, o2⟩ := inG c hc
    refine ⟨r.g c o o2 (Same.free f.ii (f.lst (f.om hc)).2.1), by rw [o1]; exact r.f c o o2, fun k z => ?_⟩
    obtain ⟨z1, _⟩ := ftp_own r z
    rw [o2] at z1
    cases z1
  · obtain ⟨ov, q1, v, q2, q3⟩ := r.ok n _ g1
    have q3' : v = .ref a := q3
    rw [q1, q2, q3']
  · obtain ⟨ov, q1, c, ws, q2, q3, q4, q5, q6, q7⟩ := r.ok m _ g2
    have ec : c = b := q3 b rfl
    subst ec
    exact ⟨by rw [q1, q2], (f.lst (List.mem_cons_of_mem _ f.bm)).1, q5, ws, q6, q7⟩
/-- all of them again -/
theorem SR.unfocus {n m j : Nat} {p : Option Addr} {xss : List (List α)} {ys : List α} {a b : Addr} {bs : List Addr} (f : Fcs K F I H0 H σ Γ n i p xss a b bs j) (r : SR K (F.more H (othersOf a b bs)) I H0' H' σ' (fcs Γ n m i a b ys)) (s : Same H0 H0') (nm : n ≠ m) (hm : m < Γ.length) :
    SR K F I H0' H' σ' ((Γ.set n (.dp i p (xss.set j ys))).set m .un) := by
  have hl : n < Γ.length := (List.getElem?_eq_some_iff.mp f.hn).1
  obtain ⟨b1, b2, b3, b4, b5, ws, b6, b7⟩ := fcs_back f r nm hm
  have r1 : SR K F I H0' H' σ' (fcs Γ n m i a b ys) := r.less mor_same rfl
  have g2 : (fcs Γ n m i a b ys)[m]? = some (.own i (some b) ys) := by
    unfold fcs
    rw [List.getElem?_set_self (by simpa using hm)]
  have fb : Fre H' σ' ((fcs Γ n m i a b ys).set m .un) b := fre_un r1 (ftp_at g2 b3)
  have r2 : SR K F I H0' H' σ' ((fcs Γ n m i a b ys).set m .un) := r1.weak (by simp) fun k t e => by
    rcases get_set e with ⟨_, z⟩ | ⟨_, z⟩
    · exact .inl z
    · exact .inr z
  have fo : ∀ c ∈ othersOf a b bs, Fre H' σ' ((fcs Γ n m i a b ys).set m .un) c := fun c hc k z => by
    rcases ftp_set z with ⟨_, _, _, w⟩ | ⟨_, w⟩
    · exact w
    · exact (b1 c hc).2.2 k w
  have fall : ∀ c ∈ a :: bs, Fre H' σ' ((fcs Γ n m i a b ys).set m .un) c := fun c hc => by
    by_cases z : c = b
    · exact z ▸ fb
    · rcases List.mem_cons.mp hc with rfl | hc
      · exact fo c others_a
      · exact fo c (others_b hc z)
  have hA : H' a = some (.lst (bs.map V.ref)) := (b1 a others_a).2.1.trans f.ha
  have dk : dpOk K F H0' H' (some (.ref a)) i p (xss.set j ys) := ⟨a, bs, rfl, f.pa, f.ka, (b1 a others_a).1, hA, f.nd, f.na, prd_upd f.all (fun k c x hk hc q => by
      have hcm : c ∈ bs := List.mem_of_getElem? hc
      have ncb : c ≠ b := fun z => by
        subst z
        exact hk ((List.getElem?_inj (List.getElem?_eq_some_iff.mp hc).1 f.nd).mp (hc.trans f.hj.symm))
      obtain ⟨q1, q2, us, q3, q4⟩ := q
      obtain ⟨w1, w2, _⟩ := b1 c (others_b hcm ncb)
      exact ⟨q1, w1, us, w2.trans q3, prd_mono (fun _ _ z => i.mono s z) q4⟩) (fun c hc => by
      rw [f.hj] at hc
      cases hc
      exact ⟨b4, b5, ws, b6, b7⟩)⟩
  have r3 := r2.set (i := n) (v := .ref a) (s := .dp i p (xss.set j ys)) dk (fun c hc k _ ho => by
    rcases hc with hc | ⟨d, ds, h1, h2, h3⟩
    · cases hc
      exact fall a List.mem_cons_self k ho
    · cases h1
      have eb : bs = ds := refs_inj (by
        have := hA.symm.trans h2
        injection this with this
        injection this)
      subst eb
      exact fall c (List.mem_cons_of_mem _ h3) k ho) (by unfold fcs; simpa using hl)
  rw [slot_same b2] at r3
  have e : ((fcs Γ n m i a b ys).set m .un).set n (.dp i p (xss.set j ys)) = (Γ.set n (.dp i p (xss.set j ys))).set m .un := by
    unfold fcs
    rw [List.set_set, List.set_comm _ _ (Ne.symm nm), List.set_set]
  rw [e] at r3
  exact r3
end
section
variable {K : Kf} {m m1 m2 p p1 p2 : Bool} {te ta tb tj : TE} {t : TS} {Γ Γ1 Γ2 : List Sl} {α : Type} [i : Rp α]
/-- row = rows[k]; .. -/
theorem g_focus {xss : List (List α)} {ys : List α} {k : Int} {n l : Nat} {a : Option Addr} (hj : E K false p1 tj Γ Γ k) (hn : Γ[n]? = some (.dp i a xss)) (b1 : 0 ≤ k ∧ k < xss.length) (hu : ∀ c b, Go K t (fcs Γ n l i c b (gi xss k)) (fcs Γ n l i c b ys)) (nm : n ≠ l := by exact Nat.ne_of_beq_eq_false rfl) (hm : l < Γ.length := by exact Nat.le_of_ble_eq_true rfl) :
    Go K (tSeq (tAsg (tOp (rIxL K) (tVar n) tj) (gName l)) t) Γ ((Γ.set n (.dp i a (ls xss k ys))).set l .un) := fun F I H0 H σ D r q => by
  obtain ⟨c0, bs0, b0, vs0, e1, _⟩ := dp_ix r hn b1
  refine ⟨.ref c0, e1, hj.sc F I H0 H σ r _ fun w H2 H2' r2 a2 _ c2 => ?_⟩
  obtain ⟨c, bs, b, vs, e1', e2, e3, e4, e5, e6⟩ := dp_ix r2 hn b1
  rw [e1] at e1'
  cases e1'
  subst c2
  have hx : xss[k.toNat]? = some (gi xss k) := by
    unfold gi
    rw [if_pos b1.1, List.getD_eq_getElem?_getD, List.getElem?_eq_getElem (by omega)]; rfl
  have f := fcs_of r2 hn e1 e2 e3
  refine ⟨c0, _, k, .ref b, rfl, rfl, SqL.of e2, e4, hu c0 b _ I H2 H2' _ D (r2.focus f e1 hx nm hm) fun H3 H3' σ3 a3 r3 => ?_⟩
  have r4 := SR.unfocus f r3 a3 nm hm
  rw [← ls_set b1.1] at r4
  exact q H3 H3' σ3 (a2.trans a3) r4
/-- row = rows[k]; rows[k] = a new list -/
theorem g_dnew {xss : List (List α)} {ys : List α} {k : Int} {n l : Nat} {a : Option Addr} (hj : E K false p1 tj Γ Γ k) (hn : Γ[n]? = some (.dp i a xss)) (b1 : 0 ≤ k ∧ k < xss.length) (he : ∀ c b, EN K m1 te (fcs Γ n l i c b (gi xss k)) (fcs Γ n l i c b (gi xss k)) ys) (hk : ∀ c b, E K false p2 tb (fcs Γ n l i c b (gi xss k)) (fcs Γ n l i c b (gi xss k)) k) (nm : n ≠ l := by exact Nat.ne_of_beq_eq_false rfl) (hm : l < Γ.length := by exact Nat.le_of_ble_eq_true rfl) :
    Go K (tSeq (tAsg (tOp (rIxL K) (tVar n) tj) (gName l)) (tAsg te (gSub (tVar n) tb rSetL))) Γ ((Γ.set n (.dp i a (ls xss k ys))).set l .un) := fun F I H0 H σ D r q => by
  obtain ⟨c0, bs0, b0, vs0, e1, _⟩ := dp_ix r hn b1
  refine ⟨.ref c0, e1, hj.sc F I H0 H σ r _ fun w H2 H2' r2 a2 _ c2 => ?_⟩
  obtain ⟨c, bs, b, vs, e1', e2, e3, e4, e5, e6⟩ := dp_ix r2 hn b1
  rw [e1] at e1'
  cases e1'
  subst c2
  have hx : xss[k.toNat]? = some (gi xss k) := by
    unfold gi
    rw [if_pos b1.1, List.getD_eq_getElem?_getD, List.getElem?_eq_getElem (by omega)]; rfl
  have hl : n < Γ.length := (List.getElem?_eq_some_iff.mp hn).1
  have f := fcs_of r2 hn e1 e2 e3
  have r3 := r2.focus f e1 hx nm hm
  have g2 : (fcs Γ n l i c0 b (gi xss k))[l]? = some (.own i (some b) (gi xss k)) := by
    unfold fcs
    rw [List.getElem?_set_self (by simpa using hm)]
  refine ⟨c0, _, k, .ref b, rfl, rfl, SqL.of e2, e4, he c0 b _ I H2 H2' _ r3 _ fun d us H3 H3' r4 a3 _ z1 z2 z3 z4 z5 => ?_⟩
  have σn : (σ.set l (some (V.ref b)))[n]? = some (some (.ref c0)) := by rw [List.getElem?_set_ne (Ne.symm nm)]; exact e1
  refine ⟨.ref c0, σn, (hk c0 b).sc ((F.more H2' (othersOf c0 b bs)).plus d (.lst us) z1) I H3 H3' _ (r4.guard z1 z2 z3 z4) _ fun w H4 H4' r5 a4 _ c4 => ?_⟩
  subst c4
  obtain ⟨r6, d1, d2, d3⟩ := r5.unguard (Same.free r4.i z2)
  obtain ⟨f1, f2, f3, f4, f5, ws, f6, f7⟩ := fcs_back f r6 nm hm
  have hA : H4' c0 = some (.lst (bs.map V.ref)) := (f1 c0 others_a).2.1.trans e2
  have lt : k.toNat < (bs.map V.ref).length := by rw [List.length_map]; exact (List.getElem?_eq_some_iff.mp e3).1
  refine ⟨c0, bs.map V.ref, k, k.toNat, rfl, rfl, hA, by unfold ixN; rw [if_pos b1.1, if_pos (by omega)], ?_⟩
  have em : (bs.map V.ref).set k.toNat (V.ref d) = (bs.set k.toNat d).map V.ref := by rw [List.map_set]
  rw [em]
  -- the new list is none of the old ones
  have dG : (F.more H2' (othersOf c0 b bs)).k d = none := z1
  have dO : d ∉ othersOf c0 b bs := fun z => by
    obtain ⟨q1, _, vl, q3⟩ := f.lst (f.om z)
    rw [show (F.more H2' (othersOf c0 b bs)).k d = H2' d from mor_in q1 z, q3] at dG
    cases dG
  have dF : F.k d = none := Same.free (mor_same (H := H2') (A := othersOf c0 b bs)) dG
  have σl : (σ.set l (some (V.ref b)))[l]? = some (some (.ref b)) := f3
  have db : d ≠ b := fun z => by
    subst z
    exact d3 l (ftp_at g2 σl)
  have dbs : d ∉ bs := fun z => dO (others_b z db)
  have dc : c0 ≠ d := fun z => dO (z ▸ others_a)
  have r7 : SR K F I H4 H4' (σ.set l (some (V.ref b))) (fcs Γ n l i c0 b (gi xss k)) := r6.less mor_same rfl
  have r8 : SR K F I H4 H4' (σ.set l (some (V.ref b))) ((fcs Γ n l i c0 b (gi xss k)).set l .un) := r7.weak (by simp) fun k t e => by
    rcases get_set e with ⟨_, z⟩ | ⟨_, z⟩
    · exact .inl z
    · exact .inr z
  have fo : ∀ c, Fre H4' (σ.set l (some (V.ref b))) (fcs Γ n l i c0 b (gi xss k)) c → Fre H4' (σ.set l (some (V.ref b))) ((fcs Γ n l i c0 b (gi xss k)).set l .un) c := fun c hc k z => by
    rcases ftp_set z with ⟨_, _, _, w⟩ | ⟨_, w⟩
    · exact w
    · exact hc k w
  obtain ⟨r9, fA⟩ := r8.aside (D := c0) (us := (bs.set k.toNat d).map V.ref) f.ka (f1 c0 others_a).1 (fo c0 (f1 c0 others_a).2.2) hA
  have keepF : ∀ {c : Addr}, c ≠ c0 → Fre H4' (σ.set l (some (V.ref b))) ((fcs Γ n l i c0 b (gi xss k)).set l .un) c → Fre (upd H4' c0 (.lst ((bs.set k.toNat d).map V.ref))) (σ.set l (some (V.ref b))) ((fcs Γ n l i c0 b (gi xss k)).set l .un) c := fun {c} hc h m z => h m (ftp_back r8 (fun e m o w1 w2 => by rw [upd_ne (fun w => by subst w; exact fo e (f1 e others_a).2.2 m w1)]; exact w2) z)
  have dk : dpOk K F H4 (upd H4' c0 (.lst ((bs.set k.toNat d).map V.ref))) (some (.ref c0)) i a (xss.set k.toNat ys) := by
    refine ⟨c0, bs.set k.toNat d, rfl, f.pa, f.ka, (f1 c0 others_a).1, upd_same, ?_, fun z => ?_, ?_⟩
    · exact nodup_set f.nd dbs
    · rcases List.mem_or_eq_of_mem_set z with z | z
      · exact f.na z
      · exact dc z
    · exact prd_set2 f.all (fun x c y ne hc q => by
        have hcm : c ∈ bs := List.mem_of_getElem? hc
        have ncb : c ≠ b := fun z => by
          subst z
          exact ne ((List.getElem?_inj (List.getElem?_eq_some_iff.mp hc).1 f.nd).mp (hc.trans e3.symm))
        obtain ⟨q1, q2, vl, q3, q4⟩ := q
        obtain ⟨w1, w2, _⟩ := f1 c (others_b hcm ncb)
        exact ⟨q1, w1, vl, by rw [upd_ne (show c ≠ c0 from fun z => f.na (z ▸ hcm))]; exact w2.trans q3, prd_mono (fun _ _ z => i.mono (a3.trans a4) z) q4⟩) ⟨dF, d1, us, by rw [upd_ne (Ne.symm dc)]; exact d2, prd_mono (fun _ _ z => i.mono a4 z) z5⟩
  have r10 := r9.set (i := n) (v := .ref c0) (s := .dp i a (xss.set k.toNat ys)) dk (fun c hc x _ ho => by
    rcases hc with hc | ⟨e, ds, h1, h2, h3⟩
    · cases hc
      exact fA x ho
    · cases h1
      rw [upd_same] at h2
      have eb : bs.set k.toNat d = ds := refs_inj (by injection h2 with h2; injection h2)
      subst eb
      rcases List.mem_or_eq_of_mem_set h3 with z | z
      · by_cases cb : c = b
        · subst cb
          -- the old one is nobody's any more
          exact keepF (fun z => f.na (z ▸ f.bm)) (fre_un r7 (ftp_at g2 σl)) x ho
        · exact keepF (fun w => f.na (w ▸ z)) (fo c (f1 c (others_b z cb)).2.2) x ho
      · subst z
        exact keepF (Ne.symm dc) (fo c d3) x ho) (by unfold fcs; simpa using hl)
  rw [slot_same f2] at r10
  have e : ((fcs Γ n l i c0 b (gi xss k)).set l .un).set n (.dp i a (xss.set k.toNat ys)) = (Γ.set n (.dp i a (ls xss k ys))).set l .un := by
    unfold fcs
    rw [List.set_set, List.set_comm _ _ (Ne.symm nm), List.set_set, ls_set b1.1]
  rw [e] at r10
  exact q _ _ _ ((a2.trans a3).trans a4) r10
end
end FF

set_option Elab.async false
set_option linter.all false
set_option maxRecDepth 100000
set_option maxHeartbeats 2000000
namespace FF
open PySem L2
/-! ### lists of lists of one's own handed in and handed back -/
section
variable {K : Kf} {F : Fm} {I H0 H H0' H' : Hp} {σ : St} {Γ Γ' : List Sl} {α : Type} {i : Rp α}
def NewDR (K : Kf) {ρ γ : Type} [ib : Rp γ] (rv : ρ → List (List γ)) (rg : ρ → List Sl) : Rs ρ := fun F H0 H σ v r => ∃ a bs, v = .ref a ∧ NewD K F H0 H σ (rg r) ib a bs (rv r)
abbrev spD (K : Kf) {ι β : Type} [ib : Rp β] (args : ι → List Sl) (pre : ι → Prop) (res : ι → List (List β)) (out : ι → List Sl) : Sp := spG K args pre out (NewDR K res out)
theorem NewD.wk {a : Addr} {bs : List Addr} {xss : List (List α)} (N : NewD K F H0 H σ Γ i a bs xss) (w : Wk Γ Γ') : NewD K F H0 H σ Γ' i a bs xss := ⟨N.k, N.z, wk_own w N.fr, N.h, N.nd, N.na, N.all, fun b hb => wk_own w (N.frs b hb)⟩
def butL (A : List Addr) (H : Hp) : Hp := fun c => if c ∈ A then none else H c
theorem butL_in {A : List Addr} {c : Addr} (h : c ∈ A) : butL A H c = none := if_pos h
theorem butL_out {A : List Addr} {c : Addr} (h : c ∉ A) : butL A H c = H c := if_neg h
theorem of_butL {A : List Addr} {c : Addr} {o : HO} (e : butL A H c = some o) : c ∉ A ∧ H c = some o := by
  by_cases hc : c ∈ A
  · rw [butL_in hc] at e; cases e
  · rw [butL_out hc] at e; exact ⟨hc, e⟩
theorem SR.withoutL (r : SR K F I H0 H σ Γ) {A : List Addr} (hF : ∀ a ∈ A, F.k a = none) (h0 : ∀ a ∈ A, H0 a = none) (hn : ∀ a ∈ A, Fre H σ Γ a) (hl : ∀ a ∈ A, ∃ vl, H a = some (.lst vl)) : SR K F I H0 (butL A H) σ Γ := by
  have off : ∀ {n c}, Ftp H σ Γ n c → c ∉ A := fun h z => hn _ z _ h
  have up : ∀ {n c}, Ftp (butL A H) σ Γ n c → Ftp H σ Γ n c := fun h => ftp_back r (fun a n o z1 z2 => by rw [butL_out (off z1)]; exact z2) h
  have nl : ∀ {c : Addr} {o : HO}, H c = some o → (∀ vl, o ≠ .lst vl) → c ∉ A := fun h q z => by
    obtain ⟨vl, e⟩ := hl _ z
    rw [h] at e
    cases e
    exact q _ rfl
  have nF : ∀ {c : Addr} {o : HO}, F.k c = some o → c ∉ A := fun h z => by rw [hF _ z] at h; cases h
  have n0 : ∀ {c : Addr} {o : HO}, H0 c = some o → c ∉ A := fun h z => by rw [h0 _ z] at h; cases h
  refine ⟨fun a o e => by rw [butL_out (nF e)]; exact r.f _ _ e, r.i, r.g, fun a o e => by rw [butL_out (n0 e)]; exact r.h _ _ e, r.len, fun n s e => ?_, fun n m a ne h1 h2 => r.dj n m a ne (up h1) (up h2)⟩
  obtain ⟨ov, q1, q2⟩ := r.ok n s e
  refine ⟨ov, q1, ?_⟩
  cases s with
  | un => trivial
  | per _ _ => exact q2
  | bor _ _ => exact q2
  | bl _ _ => exact q2
  | own i p xs =>
    obtain ⟨a, vs, e2, e3, e4, e5, e6, e7⟩ := q2
    exact ⟨a, vs, e2, e3, e4, e5, by rw [butL_out (off ⟨_, _, e, q1, e2⟩)]; exact e6, e7⟩
  | dp i p xss => exact dpOk.mono (p' := p) q2 (fun _ _ z => z) (fun _ _ z => z) (fun d o hd z => by rw [butL_out (off ⟨_, _, e, q1, hd⟩)]; exact z) fun _ _ z => z
  | gn G => exact gnOk.mono q2 (fun _ _ z => z) (fun _ _ z => z) (fun d o hd z => by rw [butL_out (off ⟨_, _, e, q1, hd⟩)]; exact z) fun _ z => z
  | ob a C dx fs =>
    obtain ⟨e2, e3, e4, e5, e6, e7, vs, e8, e9⟩ := q2
    exact ⟨e2, e3, e4, e5, e6, by rw [butL_out (nl e7 fun _ z => nomatch z)]; exact e7, vs, by rw [butL_out (nl e8 fun _ z => nomatch z)]; exact e8, e9⟩
def Fm.butL (A : List Addr) (H0 H : Hp) (h : Same H0 (butL A H)) : Fm := ⟨FF.butL A H, H0, h⟩
/-- one list of lists of one's own among them, the k-th -/
inductive MtD (n : Nat) (p : Addr) {α : Type} (i : Rp α) (xss : List (List α)) : List Ar → List Sl → Nat → Prop
  | here {as ss} : MtP as ss → MtD n p i xss (.slot n :: as) (.dp i (some p) xss :: ss) 0
  | per {γ : Type} {j : Rp γ} {x : γ} {as ss k} : MtD n p i xss as ss k → MtD n p i xss (.per j x :: as) (.per j x :: ss) (k + 1)
  | pb {γ : Type} {j : Rp γ} {x : γ} {as ss k} : MtD n p i xss as ss k → MtD n p i xss (.per j x :: as) (.bor j x :: ss) (k + 1)
theorem mtd_sl {n : Nat} {b : Addr} {xss : List (List α)} {bs : List Addr} (h0 : Same H0 F.b) (hσ : σ[n]? = some (some (.ref b))) (f1 : F.k b = none) (f2 : H0 b = none) (f3 : H b = some (.lst (bs.map V.ref))) (f4 : bs.Nodup) (f5 : b ∉ bs) (f6 : Prd (inOk K F H0 H i) bs xss) :
    ∀ {as : List Ar} {ss : List Sl} {k : Nat} {vs : List V}, MtD n b i xss as ss k → Prd (arOk K H0 H σ) vs as → Prd (fun v s => slOk K F H0 H (some v) s) vs ss ∧ ∀ l : Nat, isOwn ss[l]? → l = k
  | _, _, _, _, .here t, .cons (a := v) h r => by
    have e : some (some v) = some (some (V.ref b)) := Eq.trans (Eq.symm h) hσ
    cases e
    refine ⟨.cons ⟨b, bs, rfl, fun q z => Option.some.inj z, f1, f2, f3, f4, f5, f6⟩ (mtp_sl h0 t r).1, fun l z => ?_⟩
    cases l with
    | zero => rfl
    | succ l => exact ((mtp_sl h0 t r).2 l z).elim
  | _, _, _, _, .per (j := j) t, .cons h r => by
    have z := mtd_sl h0 hσ f1 f2 f3 f4 f5 f6 t r
    refine ⟨.cons ⟨_, rfl, h⟩ z.1, fun l y => ?_⟩
    cases l with
    | zero => exact y.elim
    | succ l => exact congrArg Nat.succ (z.2 l y)
  | _, _, _, _, .pb (j := j) t, .cons h r => by
    have z := mtd_sl h0 hσ f1 f2 f3 f4 f5 f6 t r
    refine ⟨.cons ⟨_, rfl, j.mono h0 h⟩ z.1, fun l y => ?_⟩
    cases l with
    | zero => exact y.elim
    | succ l => exact congrArg Nat.succ (z.2 l y)
end
section
variable {K : Kf} {m m1 p1 : Bool} {ta : TA} {te : TE} {Γ Γ1 Γ2 : List Sl} {ι β : Type} [ib : Rp β] {args : ι → List Sl} {pre : ι → Prop} {res : ι → β} {resN : ι → List (List β)} {out : ι → List Sl} {as : List Ar} {po : Rs ι}
theorem callD_core {F : Fm} {I H0 H : Hp} {σ : St} {vs : List V} {Q : VK} {X : XK} {n k : Nat} {α : Type} {i : Rp α} {a : Option Addr} {xss yss : List (List α)} {b : Addr} (r : SR K F I H0 H σ Γ) (c : Prd (arOk K H0 H σ) vs as) (d : ι) (hn : Γ[n]? = some (.dp i a xss)) (hσ : σ[n]? = some (some (.ref b))) (hm : MtD n b i xss as (args d) k) (hp : pre d) (ko : Nat) (ho : (out d)[ko]? = some (.dp i (some b) yss))
    (q : ∀ v H0' H' σ' G, SR K F I H0' H' σ (Γ.set n (.dp i a yss)) → Same H0 H0' → SR K G H0 H0' H' σ' (out d) → po G H0' H' σ' v d → Q v H') : spG K args pre out po vs H Q X := by
  obtain ⟨b', bs, e1, e2, e3, e4, e5, e6, e7, e8⟩ := dp_at r hn
  rw [hσ] at e1
  cases e1
  have hl : n < Γ.length := (List.getElem?_eq_some_iff.mp hn).1
  have mem : ∀ c ∈ b :: bs, F.k c = none ∧ H0 c = none ∧ (∃ vl, H c = some (.lst vl)) ∧ Fre H σ (Γ.set n .un) c := fun c hc => by
    rcases List.mem_cons.mp hc with rfl | hc
    · exact ⟨e3, e4, ⟨_, e5⟩, fre_un r ⟨_, _, hn, hσ, .inl rfl⟩⟩
    · obtain ⟨l, hl⟩ := List.getElem?_of_mem hc
      obtain ⟨_, _, q1, q2, us, q3, _⟩ := prd_getL e8 hl
      exact ⟨q1, q2, ⟨us, q3⟩, fre_un r ⟨_, _, hn, hσ, .inr ⟨b, bs, rfl, e5, hc⟩⟩⟩
  have sub0 : Same H0 (butL (b :: bs) H) := fun c o e => by rw [butL_out (fun z => by rw [(mem c z).2.1] at e; cases e)]; exact r.h c o e
  have z' := mtd_sl (F := Fm.butL (b :: bs) H0 H sub0) (Same.refl _) hσ (butL_in List.mem_cons_self) e4 e5 e6 e7 (prd_monoM (fun c hc x w => ⟨butL_in (List.mem_cons_of_mem _ hc), w.2⟩) e8) hm c
  refine ⟨d, Fm.butL (b :: bs) H0 H sub0, H0, prd_len z'.1, hp, sr_of (fun c o e => (of_butL e).2) (Same.refl _) (fun _ _ _ n => n) r.h z'.1 (fun l l' ne h1 h2 => ne ((z'.2 l h1).trans (z'.2 l' h2).symm)), fun v H0' H' σ' s1 r2 rv => ?_⟩
  have r1 : SR K F I H0 H σ (Γ.set n .un) := r.weak (by simp) fun k s e => by
    rcases get_set e with ⟨_, z⟩ | ⟨_, z⟩
    · exact .inl z
    · exact .inr z
  have r3 := r1.withoutL (A := b :: bs) (fun c hc => (mem c hc).1) (fun c hc => (mem c hc).2.1) (fun c hc => (mem c hc).2.2.2) (fun c hc => (mem c hc).2.2.1)
  have r4 : SR K F I H0' H' σ (Γ.set n .un) := r3.step s1 r2.f r2.h (fun a o e n => r2.g a o e n)
  obtain ⟨ov, w1, b', cs, w2, w3, w4, w5, w6, w7, w8, w9⟩ := r2.ok ko _ ho
  have ec : b' = b := w3 b rfl
  subst ec
  have kF : ∀ c, butL (b' :: bs) H c = none → F.k c = none := fun c hc => by
    by_cases z : c ∈ b' :: bs
    · exact (mem c z).1
    · rw [butL_out z] at hc
      exact Same.free r.f hc
  have fr : ∀ c, butL (b' :: bs) H c = none → Fre H' σ (Γ.set n .un) c := fun c hc k z => by
    obtain ⟨_, _, us, w⟩ := ftp_own r3 (ftp_back r3 (fun a n o _ z2 => r2.f a o z2) z)
    rw [hc] at w
    cases w
  have r5 := r4.set (i := n) (v := .ref b') (s := .dp i a yss) ⟨b', cs, rfl, e2, e3, w5, w6, w7, w8, prd_mono (fun c x w => ⟨kF c w.1, w.2⟩) w9⟩ (fun c hc x _ ho' => by
    rcases hc with hc | ⟨e, ds, h1, h2, h3⟩
    · cases hc
      exact fr b' w4 x ho'
    · cases h1
      have eb : cs = ds := refs_inj (by
        have := w6.symm.trans h2
        injection this with this
        injection this)
      subst eb
      obtain ⟨l, hl⟩ := List.getElem?_of_mem h3
      obtain ⟨_, _, q1, _⟩ := prd_getL w9 hl
      exact fr c q1 x ho') (by simpa using hl)
  rw [slot_same hσ, List.set_set] at r5
  exact q v H0' H' σ' _ r5 s1 r2 rv
/-- f(a, ..) that changes one list of lists of ours -/
theorem e_callDp {n k : Nat} {α : Type} {i : Rp α} {a : Option Addr} {xss yss : List (List α)} {z : β} (d : Addr → ι) (ha : A K m ta Γ Γ1 as) (hn : Γ1[n]? = some (.dp i a xss)) (hm : ∀ p, MtD n p i xss as (args (d p)) k) (hp : ∀ p, pre (d p)) (ko : Nat) (ho : ∀ p, (out (d p))[ko]? = some (.dp i (some p) yss)) (hz : ∀ p, res (d p) = z) :
    E K true true (tCall (spF K args pre res out) [] E0 ta) Γ (Γ1.set n (.dp i a yss)) z := fun F I H0 H σ r Q q =>
  ha F I H0 H σ r _ fun vs H1 H1' r1 a1 b1 c1 => by
    show spF K args pre res out (vs ++ []) H1' Q E0
    rw [List.append_nil]
    obtain ⟨b, bs, e1, _⟩ := dp_at r1 hn
    refine callD_core r1 c1 (d b) hn e1 (hm b) (hp b) ko (ho b) fun v H2 H2' σ' G r2 s0 _ rv => ?_
    have rv' : ib.rep K H2 v (res (d b)) := rv
    rw [hz] at rv'
    exact q v H2 H2' r2 (a1.trans s0) (fun z => nomatch z) rv'
/-- f(a, ..) that hands back a new list of new lists -/
theorem d_call (d : ι) (ha : A K m ta Γ Γ1 as) (hm : Mt as (args d)) (hp : pre d) : END K m (tCall (spD K args pre resN out) [] E0 ta) Γ Γ1 (resN d) := fun F I H0 H σ r Q q =>
  ha F I H0 H σ r _ fun vs H1 H1' r1 a1 b1 c1 => by
    show spD K args pre resN out (vs ++ []) H1' Q E0
    rw [List.append_nil]
    refine call_core r1 c1 d hp hm fun v H2 H2' σ' r2 s0 s1 _ rv => ?_
    obtain ⟨a, bs, rfl, N⟩ := rv
    have inn : ∀ b ∈ bs, H1' b = none := fun b hb => by
      obtain ⟨l, hl⟩ := List.getElem?_of_mem hb
      obtain ⟨_, _, q1, _⟩ := prd_getL N.all hl
      exact q1
    exact q a bs H2 H2' r2 (a1.trans s0) (fun z => (b1 z).trans s1) ⟨Same.free r1.f N.k, N.z, fre_same r1 s1 (own_free r1 N.k), N.h, N.nd, N.na, prd_mono (fun c x w => ⟨Same.free r1.f w.1, w.2⟩) N.all, fun b hb => fre_same r1 s1 (own_free r1 (inn b hb))⟩
/-- a list of lists of one's own handed back -/
theorem d_own {α : Type} [i : Rp α] {xss : List (List α)} {n : Nat} (hn : Γ[n]? = some (.dp i none xss)) : END K false (tVar n) Γ (Γ.set n .un) xss := fun F I H0 H σ r Q q => by
  obtain ⟨a, bs, e1, e2, e3, e4, e5, e6, e7, e8⟩ := dp_at r hn
  have r1 : SR K F I H0 H σ (Γ.set n .un) := r.weak (by simp) fun k s e => by
    rcases get_set e with ⟨_, z⟩ | ⟨_, z⟩
    · exact .inl z
    · exact .inr z
  exact ⟨.ref a, e1, q a bs H0 H r1 (Same.refl _) (fun _ => Same.refl _) ⟨e3, e4, fre_un r ⟨_, _, hn, e1, .inl rfl⟩, e5, e6, e7, e8, fun b hb => fre_un r ⟨_, _, hn, e1, .inr ⟨a, bs, rfl, e5, hb⟩⟩⟩⟩
theorem r_retD {ρ : Type} {u : TS} {γ : Type} [Rp γ] {rg : ρ → List Sl} {rv : ρ → List (List γ)} {x : List (List γ)} {r : ρ} (h : END K m te Γ Γ1 x) (e : x = rv r) (w : Wk Γ1 (rg r)) : R K (tSeq (tRet te) u) Γ (NewDR K rv rg) rg r := fun F I H0 H σ D r q _ => by
  subst e
  exact h F I H0 H σ r _ fun a bs H1 H1' r1 a1 b1 N => q _ H1 H1' σ a1 (wk_sr r1 w) ⟨a, bs, rfl, N.wk w⟩
/-- the inner lists are given up ahead of a statement -/
theorem g_halfS {α : Type} [i : Rp α] {t : TS} {xss : List (List α)} {n : Nat} {a : Option Addr} (hn : Γ[n]? = some (.dp i a xss)) (h : Go K t (Γ.set n (.own (@instRpList α i) a xss)) Γ2) : Go K t Γ Γ2 := show Go K (tSeq tNext t) Γ Γ2 from g_sq (g_half hn) h
theorem gp_as {J : Type} {Γe : J → List Sl} {Pe : J → Prop} {t1 t2 u : TS} {x : J} (h : GP K (tSeq (tSeq t1 t2) u) Γ Γe Pe x) : GP K (tSeq t1 (tSeq t2 u)) Γ Γe Pe x := h
theorem r_sa {ρ : Type} {rp : Rs ρ} {rg : ρ → List Sl} {t1 t2 u : TS} {c : ρ} (h : R K (tSeq (tSeq t1 t2) u) Γ rp rg c) : R K (tSeq t1 (tSeq t2 u)) Γ rp rg c := h
theorem b_sa {S ρ : Type} {Γs : S → List Sl} {rp : Rs ρ} {rg : ρ → List Sl} {t1 t2 u : TS} {c : Ctl S ρ} (h : B K (tSeq (tSeq t1 t2) u) Γ Γs rp rg c) : B K (tSeq t1 (tSeq t2 u)) Γ Γs rp rg c := h
end
end FF

set_option Elab.async false
set_option linter.all false
set_option maxRecDepth 100000
set_option maxHeartbeats 2000000
namespace FF
open PySem L2
/-! ### tuples of six; is, of truth values -/
structure T6 (α β γ δ ε ζ : Type) where
  a : α
  b : β
  c : γ
  d : δ
  e : ε
  f : ζ
deriving DecidableEq, Inhabited
instance {α β γ δ ε ζ : Type} [i : Rp α] [j : Rp β] [k : Rp γ] [l : Rp δ] [m : Rp ε] [n : Rp ζ] : Rp (T6 α β γ δ ε ζ) := ⟨fun K H v x => ∃ a u1 u2 u3 u4 u5 u6, v = .ref a ∧ SqT K H a [u1, u2, u3, u4, u5, u6] ∧ i.rep K H u1 x.a ∧ j.rep K H u2 x.b ∧ k.rep K H u3 x.c ∧ l.rep K H u4 x.d ∧ m.rep K H u5 x.e ∧ n.rep K H u6 x.f,
  fun s ⟨a, u1, u2, u3, u4, u5, u6, e, h, p, q, r, t, z, y⟩ => ⟨a, u1, u2, u3, u4, u5, u6, e, same_t s h, i.mono s p, j.mono s q, k.mono s r, l.mono s t, m.mono s z, n.mono s y⟩⟩
section
variable {K : Kf} {m m1 m2 p p1 p2 : Bool} {ta tb : TE} {Γ Γ1 Γ2 : List Sl} {α β γ δ ε ζ : Type} [i : Rp α] [j : Rp β] [k : Rp γ] [l : Rp δ] [o : Rp ε] [n : Rp ζ]
theorem e_t6 {t : TA} {x : α} {y : β} {z : γ} {w : δ} {u : ε} {v : ζ} (h : A K m t Γ Γ1 [ap x, ap y, ap z, ap w, ap u, ap v]) : E K m true (tTup t) Γ Γ1 (T6.mk x y z w u v) := fun F I H0 H σ r Q q =>
  h F I H0 H σ r _ fun vs H1 H1' r1 a1 b1 c1 => by
    cases c1 with | cons z1 c1 => cases c1 with | cons z2 c1 => cases c1 with | cons z3 c1 => cases c1 with | cons z4 c1 => cases c1 with | cons z5 c1 => cases c1 with | cons z6 c1 => cases c1 with | nil =>
    refine ⟨by show 6 ≤ sizeLine; decide, fun p hp => ?_⟩
    obtain ⟨r2, s0, s1⟩ := r1.alloc (o := .tup _) hp
    exact q _ _ _ r2 (a1.trans s0) (fun z => (b1 z).trans s1) ⟨p, _, _, _, _, _, _, rfl, SqT.of upd_same, i.mono s0 z1, j.mono s0 z2, k.mono s0 z3, l.mono s0 z4, o.mono s0 z5, n.mono s0 z6⟩
theorem e_p6a {x : T6 α β γ δ ε ζ} (h : E K m p ta Γ Γ1 x) : E K m p (tOp (rIxT K) ta (tC (.int 0))) Γ Γ1 x.a := fun F I H0 H σ r Q q => h F I H0 H σ r _ fun v H1 H1' r1 a1 b1 c1 => by
  obtain ⟨a, u1, u2, u3, u4, u5, u6, rfl, hs, e1, e2, e3, e4, e5, e6⟩ := c1
  exact ⟨a, _, 0, u1, rfl, rfl, sel_t r1.h hs, by rfl, q _ H1 H1' r1 a1 b1 e1⟩
theorem e_p6b {x : T6 α β γ δ ε ζ} (h : E K m p ta Γ Γ1 x) : E K m p (tOp (rIxT K) ta (tC (.int 1))) Γ Γ1 x.b := fun F I H0 H σ r Q q => h F I H0 H σ r _ fun v H1 H1' r1 a1 b1 c1 => by
  obtain ⟨a, u1, u2, u3, u4, u5, u6, rfl, hs, e1, e2, e3, e4, e5, e6⟩ := c1
  exact ⟨a, _, 1, u2, rfl, rfl, sel_t r1.h hs, by rfl, q _ H1 H1' r1 a1 b1 e2⟩
theorem e_p6c {x : T6 α β γ δ ε ζ} (h : E K m p ta Γ Γ1 x) : E K m p (tOp (rIxT K) ta (tC (.int 2))) Γ Γ1 x.c := fun F I H0 H σ r Q q => h F I H0 H σ r _ fun v H1 H1' r1 a1 b1 c1 => by
  obtain ⟨a, u1, u2, u3, u4, u5, u6, rfl, hs, e1, e2, e3, e4, e5, e6⟩ := c1
  exact ⟨a, _, 2, u3, rfl, rfl, sel_t r1.h hs, by rfl, q _ H1 H1' r1 a1 b1 e3⟩
theorem e_p6d {x : T6 α β γ δ ε ζ} (h : E K m p ta Γ Γ1 x) : E K m p (tOp (rIxT K) ta (tC (.int 3))) Γ Γ1 x.d := fun F I H0 H σ r Q q => h F I H0 H σ r _ fun v H1 H1' r1 a1 b1 c1 => by
  obtain ⟨a, u1, u2, u3, u4, u5, u6, rfl, hs, e1, e2, e3, e4, e5, e6⟩ := c1
  exact ⟨a, _, 3, u4, rfl, rfl, sel_t r1.h hs, by rfl, q _ H1 H1' r1 a1 b1 e4⟩
theorem e_p6e {x : T6 α β γ δ ε ζ} (h : E K m p ta Γ Γ1 x) : E K m p (tOp (rIxT K) ta (tC (.int 4))) Γ Γ1 x.e := fun F I H0 H σ r Q q => h F I H0 H σ r _ fun v H1 H1' r1 a1 b1 c1 => by
  obtain ⟨a, u1, u2, u3, u4, u5, u6, rfl, hs, e1, e2, e3, e4, e5, e6⟩ := c1
  exact ⟨a, _, 4, u5, rfl, rfl, sel_t r1.h hs, by rfl, q _ H1 H1' r1 a1 b1 e5⟩
theorem e_p6f {x : T6 α β γ δ ε ζ} (h : E K m p ta Γ Γ1 x) : E K m p (tOp (rIxT K) ta (tC (.int 5))) Γ Γ1 x.f := fun F I H0 H σ r Q q => h F I H0 H σ r _ fun v H1 H1' r1 a1 b1 c1 => by
  obtain ⟨a, u1, u2, u3, u4, u5, u6, rfl, hs, e1, e2, e3, e4, e5, e6⟩ := c1
  exact ⟨a, _, 5, u6, rfl, rfl, sel_t r1.h hs, by rfl, q _ H1 H1' r1 a1 b1 e6⟩
end
/-! ### a list of one's own stands still through a statement -/
/-- it, and where it stands -/
@[reducible] def bAt {α : Type} (b : Addr) (i : Rp α) : Rp (List α) := ⟨fun K H v xs => v = .ref b ∧ (@instRpList α i).rep K H v xs, fun s h => ⟨h.1, (@instRpList α i).mono s h.2⟩⟩
def noLent : List Sl → Prop
  | [] => True
  | .bor _ _ :: _ => False
  | .bl _ _ :: _ => False
  | _ :: t => noLent t
theorem noLent_get : ∀ {Γ : List Sl} {k : Nat} {s : Sl}, noLent Γ → Γ[k]? = some s → ¬ lentSl s
  | [], _, _, _, h => by simp at h
  | c :: t, 0, s, n, h => by
    have e : c = s := by simpa using h
    subst e
    cases c <;> first | exact fun z => z | exact n.elim
  | c :: t, k + 1, s, n, h => by
    have h' : t[k]? = some s := by simpa using h
    have n' : noLent t := by cases c <;> first | exact n | exact n.elim
    exact noLent_get n' h'
section
variable {K : Kf} {F F' : Fm} {I H0 H H1 H1' : Hp} {σ σ' : St} {Γ Γ2 : List Sl} {m p : Bool} {te : TE}
theorem SR.lendAt {α : Type} {i : Rp α} {xs : List α} {n : Nat} {a : Option Addr} (r : SR K F I H0 H σ Γ) (hn : Γ[n]? = some (.own i a xs)) : ∃ b vs F', σ[n]? = some (some (.ref b)) ∧ (∀ q, a = some q → b = q) ∧ F.k b = none ∧ H0 b = none ∧ H b = some (.lst vs) ∧ Prd (i.rep K H0) vs xs ∧ Same F.k F'.k ∧ F'.k b = some (.lst vs) ∧ SR K F' H0 H0 H σ (Γ.set n (.bor (bAt b i) xs)) := by
  obtain ⟨b, vs, F', e1, e3, e4, e5, e6, e7, s1, s2, s3, r'⟩ := r.lend2 hn
  have hl : n < Γ.length := (List.getElem?_eq_some_iff.mp hn).1
  refine ⟨b, vs, F', e1, e3, e4, e5, e6, e7, s1, s2, ⟨r'.f, r'.i, r'.g, r'.h, by simpa using r'.len, fun k s e => ?_, fun k l c ne h1 h2 => ?_⟩⟩
  · rcases get_set e with ⟨rfl, rfl⟩ | ⟨hk, e⟩
    · obtain ⟨ov, w1, v, w2, w3⟩ := r'.ok k (.bor (inferInstance : Rp (List α)) xs) (List.getElem?_set_self hl)
      rw [e1] at w1
      cases w1
      cases w2
      exact ⟨_, e1, _, rfl, rfl, w3⟩
    · exact r'.ok k s (by rw [List.getElem?_set_ne (Ne.symm hk)]; exact e)
  · have up : ∀ {j : Nat}, Ftp H σ (Γ.set n (.bor (bAt b i) xs)) j c → Ftp H σ (Γ.set n (.bor (inferInstance : Rp (List α)) xs)) j c := fun {j} h => by
      rcases ftp_set h with ⟨_, _, _, f⟩ | ⟨hj, h⟩
      · exact f.elim
      · obtain ⟨t, ov, q1, q2, q3⟩ := h
        exact ⟨t, ov, by rw [List.getElem?_set_ne (Ne.symm hj)]; exact q1, q2, q3⟩
    exact r'.dj k l c ne (up h1) (up h2)
theorem SR.unlendAt {α : Type} {i : Rp α} {xs : List α} {n : Nat} {a : Option Addr} {b : Addr} {vs : List V} (r : SR K F I H0 H σ Γ) (r1 : SR K F' H0 H1 H1' σ' Γ2) (hn2 : Γ2[n]? = some (.bor (bAt b i) xs)) (e3 : ∀ q, a = some q → b = q) (e4 : F.k b = none) (e5 : H0 b = none) (e7 : Prd (i.rep K H0) vs xs)
    (s1 : Same F.k F'.k) (s2 : F'.k b = some (.lst vs)) (a1 : Same H0 H1) (hb : noLent (Γ2.set n .un)) : SR K F I H1 H1' σ' (Γ2.set n (.own i a xs)) := by
  have down : ∀ {c}, F'.k c = none → F.k c = none := fun {c} h => Same.free s1 h
  have hn : n < Γ2.length := (List.getElem?_eq_some_iff.mp hn2).1
  obtain ⟨ov0, f1, v0, f2, f3, f4⟩ := r1.ok n _ hn2
  subst f2
  subst f3
  have e1 : σ'[n]? = some (some (.ref b)) := f1
  refine ⟨s1.trans r1.f, r.i.trans a1, fun c o h n => r1.g c o (s1 _ _ h) (r.g c o h n), r1.h, by simpa using r1.len, fun k s e => ?_, fun k l c ne h1 h2 => ?_⟩
  · rcases get_set e with ⟨rfl, rfl⟩ | ⟨hk, e⟩
    · exact ⟨_, e1, b, vs, rfl, e3, e4, r1.g b _ s2 e5, r1.f _ _ s2, prd_mono (fun _ _ z => i.mono a1 z) e7⟩
    · obtain ⟨ov, w1, w2⟩ := r1.ok k s e
      refine ⟨ov, w1, ?_⟩
      have nl := noLent_get hb (show (Γ2.set n .un)[k]? = some s by rw [List.getElem?_set_ne (Ne.symm hk)]; exact e)
      cases s with
      | un => trivial
      | per j x => exact w2
      | bor j x => exact (nl trivial).elim
      | bl j x => exact (nl trivial).elim
      | own j p' xs' =>
        obtain ⟨c, vs', w3, w4, w5, w6, w7, w8⟩ := w2
        exact ⟨c, vs', w3, w4, down w5, w6, w7, w8⟩
      | dp j p' xss => exact dpOk.mono (p' := p') w2 (fun d _ z => down z) (fun _ _ z => z) (fun _ _ _ z => z) fun _ _ z => z
      | gn G => exact gnOk.mono w2 (fun d _ z => down z) (fun _ _ z => z) (fun _ _ _ z => z) fun _ z => z
      | ob c C dx fs =>
        obtain ⟨w3, w4, w5, w6, w7, w8, vs', w9, w10⟩ := w2
        exact ⟨w3, down w4, w5, down w6, w7, w8, vs', w9, w10⟩
  · have cl : ∀ {k}, Ftp H1' σ' (Γ2.set n (.own i a xs)) k c → (k = n ∧ c = b) ∨ (k ≠ n ∧ Ftp H1' σ' Γ2 k c) := fun h => by
      rcases ftp_set h with ⟨z, ov, e, f⟩ | z
      · rw [z, e1] at e
        cases e
        have f' : some (V.ref b) = some (V.ref c) := f
        cases f'
        exact .inl ⟨z, rfl⟩
      · exact .inr z
    have nb : ∀ {k}, Ftp H1' σ' Γ2 k c → c ≠ b := fun h z => by
      subst z
      have := (ftp_own r1 h).1
      rw [s2] at this
      cases this
    rcases cl h1 with ⟨z1, y1⟩ | ⟨z1, y1⟩ <;> rcases cl h2 with ⟨z2, y2⟩ | ⟨z2, y2⟩
    · exact ne (z1.trans z2.symm)
    · exact nb y2 y1
    · exact nb y1 y2
    · exact r1.dj k l c ne y1 y2
/-- a statement through which it stands still -/
theorem g_lendAt {α : Type} [i : Rp α] {t : TS} {xs : List α} {n : Nat} {a : Option Addr} (hn : Γ[n]? = some (.own i a xs)) (h : ∀ b, Go K t (Γ.set n (.bor (bAt b i) xs)) (Γ2.set n (.bor (bAt b i) xs))) (hl : n < Γ2.length := by exact Nat.le_of_ble_eq_true rfl) (hb : noLent (Γ2.set n .un) := by exact True.intro) : Go K t Γ (Γ2.set n (.own i a xs)) := fun F I H0 H σ D r q => by
  obtain ⟨b, vs, F', e1, e3, e4, e5, e6, e7, s1, s2, r'⟩ := r.lendAt hn
  refine h b F' H0 H0 H σ D r' fun H1 H1' σ' a1 r1 => ?_
  have r2 := r.unlendAt r1 (List.getElem?_set_self hl) e3 e4 e5 e7 s1 s2 a1 (by rw [List.set_set]; exact hb)
  rw [List.set_set] at r2
  exact q H1 H1' σ' a1 r2
theorem w_listAt {α : Type} {i : Rp α} {xs : List α} {n : Nat} {b : Addr} (hn : Γ[n]? = some (.bor (bAt b i) xs)) : Wlk K false false (iList K (tVar n)) Γ Γ i xs := fun F I H0 H σ r R q => by
  obtain ⟨ov, e1, v, e2, e3, c1⟩ := r.ok n _ hn
  subst e2
  obtain ⟨a, vs, rfl, hs, hp⟩ := rl c1
  exact ⟨.ref a, e1, a, rfl, ⟨vs, (F.sub.trans r.f).seq hs⟩, q (Itl K a) H0 H r (Same.refl _) (fun _ => Same.refl _) fun k H2 H2' s2 s3 s4 hk => yl_of (itl_go ((F.sub.trans s4).seq hs) hp hk)⟩
theorem gp_no {J : Type} {t : TS} {Γe : J → List Sl} {Pe : J → Prop} {x : J} (h : False) : GP K t Γ Γe Pe x := h.elim
end
end FF

set_option Elab.async false
set_option linter.all false
set_option maxRecDepth 100000
set_option maxHeartbeats 2000000
/-! ### list(reversed(a list)) -/
namespace RT
open PySem PySem.Spec PyProof.Rows
section
variable {prog : Program} {w : World} {A : Around} {E : Value → Shared → Prop} {s : Shared}
theorem init_rev {R : Result → Shared → Prop} {it l : Addr} {items : Array Value} (hh : A.handled = none) (hit : s.heap.IsRevIter it l ((items.size : Int) - 1)) (hl : s.heap.IsList l items) (hne : l ≠ it) (hn : items.size ≤ sizeLine)
    (S : Addr) (hS : s.heap.get? S = some { cls := .type "list", data := .seq #[] }) (hSi : S ≠ it) (hSl : S ≠ l)
    (hR : ∀ (h' : Heap) (tk : Nat) (acc : Array Value) (c' : Nat), (∀ b o, b ≠ S → b ≠ it → s.heap.get? b = some o → h'.get? b = some o) → h'.get? S = some { cls := .type "list", dict := none, data := .seq acc c', slots := #[] } →
      ItemsOf (fun i v => items[items.size - 1 - i]? = some v) acc items.size → R (.ok (.ret .none)) { s with heap := h', toks := tk }) :
    wpAny (model prog w) A.in1 (Builtin.«list.__init__» ⟨[.ref S, .ref it], []⟩)
      (fun fin s' => match fin with | .done f => R (.ok f) s' | .again c' => c'.quiet = true ∧ codeAny (model prog w) A c' R s') (fun e s' => R (.error e) s') s := by
  have hSf : S ∉ [it, l] := by simp only [List.mem_cons, List.not_mem_nil, or_false, not_or]; exact ⟨hSi, hSl⟩
  show wpAny _ _ (do let old ← Builtin.List.listItems (.ref S); Builtin.List.listUpdate (.ref S) (fun _ => #[]); letGo old.toList.reverse; Builtin.List.listExtendWith (.ref S) (.ref it) .none) _ _ s
  refine wpAny_bind ?_
  unfold Builtin.List.listItems
  refine wpAny_bind (wpAny_seqItems hS rfl (wpAny_pure ?_))
  show wpAny _ _ (updateSeq S (fun _ => #[]) >>= fun _ => letGo (#[] : Array Value).toList.reverse >>= fun _ => Builtin.List.listExtendWith (.ref S) (.ref it) .none) _ _ s
  refine wpAny_bind (wpAny_updateSeq hS rfl ?_)
  have hS₂ := Heap.get?_update_self (Obj.mapSeq (fun _ => (#[] : Array Value))) hS rfl
  have oth : ∀ b o, b ≠ S → s.heap.get? b = some o → (s.heap.update S (Obj.mapSeq (fun _ => (#[] : Array Value)))).get? b = some o :=
    fun b o hb e => (Heap.get?_update_other _ _ (Ne.symm hb)).trans e
  refine wpAny_bind (wpAny_letGo ?_)
  have hit1 : (s.heap.update S (Obj.mapSeq (fun _ => (#[] : Array Value)))).IsRevIter it l ((items.size : Int) - 1) := hit.at fun o e => oth it o (Ne.symm hSi) e
  have hl1 : (s.heap.update S (Obj.mapSeq (fun _ => (#[] : Array Value)))).IsList l items := by
    obtain ⟨o, e, q⟩ := hl
    exact ⟨o, oth l o (Ne.symm hSl) e, q⟩
  have W := (Walks.listRev (prog := prog) (w := w) (A := A.in1) hh it l hne items).toS
  have hT : ({ s with heap := s.heap.update S (Obj.mapSeq (fun _ => (#[] : Array Value))) } : Shared).TypeIs (.ref it) "list_reverseiterator" := Heap.IsRevIter.typeIs (s := { s with heap := s.heap.update S (Obj.mapSeq (fun _ => (#[] : Array Value))) }) hit1
  have h1 : Builtin.List.listSameRef (.ref S) (.ref it) = false := by simp [Builtin.List.listSameRef, hSi]
  show wpAny _ A.in1 (Builtin.List.listExtendWith (.ref S) (.ref it) .none) _ _ _
  unfold Builtin.List.listExtendWith
  refine wpAny_bind (wpAny_typeOf hT ?_)
  rw [if_neg (by rw [h1]; decide)]
  refine wpAny_bind (wpAny_pyIter_revIter (s := { s with heap := s.heap.update S (Obj.mapSeq (fun _ => (#[] : Array Value))) }) hit1 ?_)
  refine wpAny_bind (wpAny_holding ?_)
  unfold Builtin.List.listLengthHint
  refine wpAny_bind (wpAny_specialOf hT nolen_lri ?_)
  show wpAny _ A.in1 (specialOf (Value.ref it) (Str.ofString "__length_hint__") >>= _) _ _ _
  refine wpAny_bind (wpAny_specialOf hT hint_lri ?_)
  generalize hid : ("list_reverseiterator.__length_hint__" : String) = id0
  wp_delta
  rw [show splitId id0 = some ("list_reverseiterator", "__length_hint__") from by subst hid; decide +kernel]
  subst hid
  refine wpAny_bind (wpAny_isInstance (b := true) hT (by rw [isSubtype_type]; kernel_rfl) ?_)
  refine wpAny_pure ?_
  rw [if_neg (by decide)]
  have e0 : ((items.size : Nat) : Int) - 1 - ((0 : Nat) : Int) = (items.size : Int) - 1 := by omega
  refine wpAny_pure ⟨plainId_quiet F.plain_extend_loop _, codeAny_extend_loopS W hn _ hSf _ items.size 0 _ _ _ rfl (Nat.zero_le _) ⟨Nat.zero_le _, by rw [e0]; exact hit1, hl1⟩ hS₂ (ItemsOf.nil _) fun s' acc' c' hm hS' hacc => ?_⟩
  rw [Moved.eq_with hm]
  refine hR s'.heap s'.toks acc' c' (fun b o hb hbi e => hm.heap b o (fun hmem => ?_) (oth b o hb e)) hS' hacc
  rcases List.mem_cons.mp hmem with e' | hmem
  · exact hb e'
  · exact hbi (List.mem_singleton.mp hmem)
theorem call_list_rev {it l : Addr} {items : Array Value} {Q : Value → Shared → Prop} (hh : A.handled = none) (hit : s.heap.IsRevIter it l ((items.size : Int) - 1)) (hl : s.heap.IsList l items) (hne : l ≠ it) (hn : items.size ≤ sizeLine)
    (hQ : ∀ (h' : Heap) (tk : Nat) (acc : Array Value) (c' : Nat), (∀ b o, b ≠ it → s.heap.get? b = some o → h'.get? b = some o) → h'.get? s.heap.objs.size = some { cls := .type "list", dict := none, data := .seq acc c', slots := #[] } →
      ItemsOf (fun i v => items[items.size - 1 - i]? = some v) acc items.size → Q (.ref s.heap.objs.size) { s with heap := h', toks := tk }) :
    wpAny (model prog w) A (call (.type "list") [.ref it]) Q E s := by
  obtain ⟨oi, hoi, _⟩ := id hit
  obtain ⟨ol, hol, _⟩ := id hl
  have hSi : s.heap.objs.size ≠ it := Nat.ne_of_gt (Heap.lt_size hoi)
  have hSl : s.heap.objs.size ≠ l := Nat.ne_of_gt (Heap.lt_size hol)
  refine callType_codes (Q₁ := fun obj s₁ => obj = .ref s.heap.objs.size ∧ s₁ = { s with heap := s.heap.push { cls := .type "list", data := .seq #[] } }) F.called_list (F.typeCall_list_1 _) F.entry_list_init
    (code_list_new _ ⟨rfl, rfl⟩) fun obj s₁ h₁ => ?_
  obtain ⟨rfl, rfl⟩ := h₁
  have hS : (s.heap.push { cls := .type "list", data := .seq #[] }).get? s.heap.objs.size = some { cls := .type "list", data := .seq #[] } := Heap.get?_push_size _ rfl
  have hit1 : (s.heap.push { cls := .type "list", data := .seq #[] }).IsRevIter it l ((items.size : Int) - 1) := hit.at fun o e => Heap.get?_push_of_some _ e
  refine ⟨⟨_, hS, rfl⟩, F.args_list_init_2 _ _, init_rev (A := A.in1) (s := { s with heap := s.heap.push { cls := .type "list", data := .seq #[] } }) hh hit1 (hl.push _) hne hn _ hS hSi hSl fun h' tk acc' c' hk hS' hacc => ?_⟩
  exact ⟨rfl, hQ h' tk acc' c' (fun b o hbi e => hk b o (Nat.ne_of_lt (Heap.lt_size e)) hbi (Heap.get?_push_of_some _ e)) hS' hacc⟩
end
end RT
namespace L2
open PySem PySem.Spec PyProof.Rows
section
variable {X : Cx}
/-- list(reversed(x)), x a list: a new list -/
def tLstRev (K : PySem.W.Frag) (te : TE) : TE := fun σ H Q => te σ H fun v H1 => ∃ (a : Addr) (xs : List V), v = .ref a ∧ SqL K H1 a xs ∧ ∀ q, H1 q = none → Q (.ref q) (upd H1 q (.lst xs.reverse))
theorem pe_lstRev {e : Expr} {te : TE} {p p2 pos pos2 : Pos} (hc : X.calm = true) (hg : Gl X "list") (hm : X.mg "list" = none) (hg2 : Gl X "reversed") (hm2 : X.mg "reversed" = none) (he : PE X e te)
    (hs : starEach [e] X.env = (false, eval e X.env) :: starEach [] X.env := by rfl)
    (hs2 : starEach [.Call (.Name "reversed" p2) [e] [] pos2] X.env = (false, eval (.Call (.Name "reversed" p2) [e] [] pos2) X.env) :: starEach [] X.env := by rfl) :
    PE X (.Call (.Name "list" p) [.Call (.Name "reversed" p2) [e] [] pos2] [] pos) (tLstRev X.K te) := by
  refine ⟨fun pins s σ H Q I h => ?_⟩
  refine Call_ (ld_blt I hg hm boot_list (PyProof.Rows.callWith_type1 (args_cons (Call_ (ld_blt I hg2 hm2 PyProof.Rows.boot_reversed (PyProof.Rows.callWith_type1 (args_cons (thn (he.run pins s σ H _ I h) fun u s1 ⟨v, H1, I1, r1, q1⟩ => args_nil ?_) hs) hs rfl))) hs2) hs2 rfl))
  obtain ⟨a, xs, ev, hq, q⟩ := q1
  subst ev
  obtain rfl : u = Value.ref a := r1
  obtain ⟨its, rv, p', hz⟩ := I1.list hq
  refine call_reversed_list p'.isList (args_nil ?_)
  have hl := p'.isList
  obtain ⟨ol, hol, _⟩ := id hl
  have hne : a ≠ s1.heap.objs.size := Nat.ne_of_lt (Heap.lt_size hol)
  have hn : its.toArray.size ≤ sizeLine := by rw [List.size_toArray, ← rv.length]; exact hz
  refine RT.call_list_rev (s := { s1 with heap := s1.heap.push (revObj a ((its.toArray.size : Int) - 1)) }) (I1.ok.hd hc) ⟨_, Heap.get?_push_size _ rfl, rfl, rfl⟩ (hl.push _) hne hn fun h' tk acc c' hk e' hi => ?_
  have es : (s1.heap.push (revObj a ((its.toArray.size : Int) - 1))).objs.size = s1.heap.objs.size + 1 := Heap.size_push _ _
  refine ⟨.ref (s1.heap.push (revObj a ((its.toArray.size : Int) - 1))).objs.size, upd H1 (s1.heap.push (revObj a ((its.toArray.size : Int) - 1))).objs.size (.lst xs.reverse), I1.laid (t' := tk) (fun b o e => hk b o (Nat.ne_of_lt (Heap.lt_size e)) (Heap.get?_push_of_some _ e)) (by rw [es]; exact Nat.le_succ _) (show ObjOk X.prog X.w _ _ _ (.lst xs.reverse) from ⟨by rw [List.length_reverse]; exact hz, acc.toList, c', RT.vals_rev rv hi, ?_⟩), rfl, q _ (I1.hok.fresh (by rw [es]; exact Nat.le_succ _))⟩
  rw [Array.toArray_toList]
  exact e'
end
end L2
namespace FF
open PySem L2
section
variable {K : Kf} {m : Bool} {te : TE} {Γ Γ1 : List Sl} {α : Type} [i : Rp α]
theorem n_lstRev {xs : List α} (h : E K m true te Γ Γ1 xs) : EN K m (tLstRev K te) Γ Γ1 xs.reverse := fun F I H0 H σ r Q q =>
  h F I H0 H σ r _ fun v H1 H1' r1 a1 b1 c1 => by
    obtain ⟨a, vs, rfl, hs, hp⟩ := rl c1
    refine ⟨a, vs, rfl, r1.h.seq hs, fun l hl => ?_⟩
    obtain ⟨r4, s1, z1, z2, z3⟩ := r1.fresh (vs := vs.reverse) hl
    exact q _ _ _ _ r4 a1 (fun z => (b1 z).trans s1) z1 z2 z3 upd_same (prd_rev hp)
theorem n_lstRevB [Sc α] {p : Bool} {xs : List α} (h : E K m p te Γ Γ1 xs) : EN K m (tLstRev K te) Γ Γ1 xs.reverse := fun F I H0 H σ r Q q =>
  h.nowP F I H0 H σ r _ fun v H1 H1' r1 a1 b1 c1 => by
    obtain ⟨a, vs, rfl, hs, hp⟩ := rl c1
    refine ⟨a, vs, rfl, hs, fun l hl => ?_⟩
    obtain ⟨r4, s1, z1, z2, z3⟩ := r1.fresh (vs := vs.reverse) hl
    exact q _ _ _ _ r4 a1 (fun z => (b1 z).trans s1) z1 z2 z3 upd_same (prd_mono (fun _ _ z => Sc.any z) (prd_rev hp))
end
end FF

set_option Elab.async false
set_option linter.all false
set_option maxRecDepth 100000
set_option maxHeartbeats 2000000
namespace FF
open PySem L2
section
variable {K : Kf} {m m1 m2 p p1 p2 : Bool} {te ta tb : TE} {Γ Γ1 Γ2 : List Sl}
/-- is, of truth values -/
theorem e_isB {x y : Bool} (ha : E K m1 p1 ta Γ Γ1 x) (hb : E K m2 p2 tb Γ1 Γ2 y) : E K (m1 || m2) true (tOp rIsB ta tb) Γ Γ2 (decide (x = y)) := fun F I H0 H σ r Q q =>
  ha.sc F I H0 H σ r _ fun v H1 H1' r1 a1 b1 c1 => hb.sc F I H1 H1' σ r1 _ fun w H2 H2' r2' a2 b2 c2 => by
    subst c1
    subst c2
    exact ⟨x, y, rfl, rfl, q _ H2 H2' r2' (a1.trans a2) (same_mm b1 b2) rfl⟩
theorem e_notIsB {x y : Bool} (ha : E K m1 p1 ta Γ Γ1 x) (hb : E K m2 p2 tb Γ1 Γ2 y) : E K (m1 || m2) true (tOp rNotB ta tb) Γ Γ2 (!decide (x = y)) := fun F I H0 H σ r Q q =>
  ha.sc F I H0 H σ r _ fun v H1 H1' r1 a1 b1 c1 => hb.sc F I H1 H1' σ r1 _ fun w H2 H2' r2' a2 b2 c2 => by
    subst c1
    subst c2
    exact ⟨x, y, rfl, rfl, q _ H2 H2' r2' (a1.trans a2) (same_mm b1 b2) rfl⟩
/-- a list of lists of one's own, handed in -/
theorem a_dslot {n : Nat} {t : TA} {as : List Ar} {α : Type} {i : Rp α} {a : Option Addr} {xss : List (List α)} (hn : Γ[n]? = some (.dp i a xss)) (hr : A K m t Γ Γ1 as) : A K m (tCons (tVar n) t) Γ Γ1 (.slot n :: as) := fun F I H0 H σ r Q q => by
  obtain ⟨ov, e, c, bs, e2, _⟩ := r.ok n _ hn
  subst e2
  exact ⟨_, e, hr F I H0 H σ r _ fun vs H1 H1' r1 a1 b1 c1 => q _ H1 H1' r1 a1 b1 (.cons e c1)⟩
def RowsB {α : Type} (N : Nat) (s : List (List α)) : Prop := ∀ r ∈ s, r.length ≤ N
theorem rowsB_gi {α : Type} {N : Nat} {s : List (List α)} (h : RowsB N s) (k : Int) : (gi s k).length ≤ N := by
  unfold gi
  split
  · rw [List.getD_eq_getElem?_getD]
    cases e : s[k.toNat]? with
    | none => exact Nat.zero_le _
    | some r => exact h r (List.mem_of_getElem? e)
  · rw [List.getD_eq_getElem?_getD]
    cases e : s[(k + s.length).toNat]? with
    | none => exact Nat.zero_le _
    | some r => exact h r (List.mem_of_getElem? e)
theorem rowsB_ls {α : Type} {N : Nat} {s : List (List α)} (h : RowsB N s) {k : Int} {y : List α} (hy : y.length ≤ N) : RowsB N (ls s k y) := fun r hr => by
  unfold ls at hr
  split at hr
  · rcases List.mem_or_eq_of_mem_set hr with q | q
    · exact h r q
    · exact q ▸ hy
  · rcases List.mem_or_eq_of_mem_set hr with q | q
    · exact h r q
    · exact q ▸ hy
theorem rowsB_up {α : Type} {N M : Nat} {s : List (List α)} (h : RowsB N s) (hn : N ≤ M) : RowsB M s := fun r hr => Nat.le_trans (h r hr) hn
theorem filt_len {α : Type} {P : α → Bool} {xs : List α} {n : Nat} (h : xs.length ≤ n) : ((xs.filter P).map fun x => x).length ≤ n := by
  rw [List.length_map]
  exact Nat.le_trans (List.length_filter_le _ _) h
/-- a new list of new lists, used up as a datum -/
theorem END.e {α : Type} [i : Rp α] {xss : List (List α)} (h : END K m te Γ Γ1 xss) : E K m true te Γ Γ1 xss := EN.e h.n
end
end FF

set_option Elab.async false
set_option linter.all false
set_option maxRecDepth 100000
set_option maxHeartbeats 2000000
namespace FF
open PySem L2
/-! ### isinstance of an own class; a list of anything -/
def insB (K : Kf) (C : Addr) : Bool := decide (PySem.W.findIn K (.ref C) "__class__" = some (some (.builtin "object.__class__"))) && (decide (PySem.W.specialIn K (.builtin "object.__class__") "__get__" = some (some (.builtin "getset_descriptor.__get__"))) && (decide (PySem.W.takesIn K (.builtin "object.__class__") = some true) && (decide (PySem.W.mroIn K C (.type "object") = some true) && decide (PySem.W.kitOne K (.ref C) (.ref C) = some true))))
theorem insB_ok {K : Kf} {C : Addr} (c : Cls K C) (h : insB K C = true) : C8.InsC K C := by
  unfold insB at h
  simp only [Bool.and_eq_true, decide_eq_true_eq] at h
  exact ⟨c, h.1, h.2.1, h.2.2.1, h.2.2.2.1, h.2.2.2.2⟩
/-- a datum of which nothing is known -/
@[reducible] def anyR : Rp Unit := ⟨fun _ _ _ _ => True, fun _ _ => True.intro⟩
section
variable {K : Kf} {m m1 p p1 : Bool} {te ta tb : TE} {Γ Γ1 Γ2 : List Sl}
theorem e_isO {α : Type} {C : Addr} {fs : α → List (Str × Pv)} {x : α} (h : @E K m p ta Γ Γ1 α (repOb C fs) x) : E K m true (tCB (fun xs H Q => ∃ a dx fs, xs = [.ref a, .ref C] ∧ H a = some (.ins C dx fs) ∧ Q (.bl true) H) (tCons ta (tCons (tC (.ref C)) tNil))) Γ Γ1 true := fun F I H0 H σ r Q q =>
  letI : Rp α := repOb C fs
  E.nowP h F I H0 H σ r _ fun v H1 H1' r1 a1 b1 c1 => by
    obtain ⟨a, dx, vs, rfl, h1, _, _⟩ := c1
    exact ⟨a, dx, vs, rfl, h1, q _ H1 H1' r1 a1 b1 rfl⟩
theorem E.any {α : Type} {i : Rp α} {x : α} (h : @E K m p te Γ Γ1 α i x) : @E K m p te Γ Γ1 Unit anyR () := fun F I H0 H σ r Q q => h F I H0 H σ r Q fun v H1 H1' r1 a1 b1 c1 => q v H1 H1' r1 a1 b1 True.intro
theorem prd_any {α : Type} {K : Kf} {H : Hp} {F : V → α → Prop} : ∀ {vs : List V} {xs : List α}, Prd F vs xs → Prd (anyR.rep K H) vs (xs.map fun _ => ())
  | _, _, .nil => .nil
  | _, _, .cons _ t => .cons True.intro (prd_any t)
theorem g_any {α : Type} {i : Rp α} {xs : List α} {n : Nat} {a : Option Addr} (hn : Γ[n]? = some (.own i a xs)) : Go K tNext Γ (Γ.set n (.own anyR a (xs.map fun _ => ()))) := fun F I H0 H σ D r q => by
  obtain ⟨ov, e1, b, vs, e2, e3, e4, e5, e6, e7⟩ := r.ok n _ hn
  subst e2
  have hl : n < Γ.length := (List.getElem?_eq_some_iff.mp hn).1
  have r1 := r.set (i := n) (v := .ref b) (s := .own anyR a (xs.map fun _ => ())) ⟨b, vs, rfl, e3, e4, e5, e6, prd_any e7⟩ (fun d hd k hk ho => by
    have e : some (V.ref b) = some (V.ref d) := hd
    cases e
    exact r.dj k n b hk ho (ftp_at hn e1)) hl
  rw [slot_same e1] at r1
  exact q H0 H σ (Same.refl _) r1
/-- xs.append(something else): nothing is known of xs any more -/
theorem g_appAny {α β : Type} {i : Rp α} {j : Rp β} {xs : List α} {x : β} {n : Nat} {a : Option Addr} (hn : Γ[n]? = some (.own i a xs)) (h : @E K false true te (Γ.set n (.own anyR a (xs.map fun _ => ()))) (Γ.set n (.own anyR a (xs.map fun _ => ()))) β j x) (hl : xs.length < 100000) : Go K (tDrop (tBM K "list" (rAppend) (tVar n) (tCons te tNil))) Γ (Γ.set n .un) := by
  have hl' : n < Γ.length := (List.getElem?_eq_some_iff.mp hn).1
  have h1 : (Γ.set n (.own anyR a (xs.map fun _ => ())))[n]? = some (.own anyR a (xs.map fun _ => ())) := List.getElem?_set_self hl'
  have g := g_app (Γ := Γ.set n (.own anyR a (xs.map fun _ => ()))) (Γ1 := Γ.set n (.own anyR a (xs.map fun _ => ()))) (i := anyR) (n := n) h1 h.any h1 (by rw [List.length_map]; exact hl)
  refine fun F I H0 H σ D r q => g_any hn F I H0 H σ { D with nx := fun σ' H' => tDrop (tBM K "list" rAppend (tVar n) (tCons te tNil)) D σ' H' } r fun H1 H1' σ1 a1 r1 => ?_
  refine g F I H1 H1' σ1 D r1 fun H2 H2' σ2 a2 r2 => ?_
  have r3 := r2.weak (Γ' := (((Γ.set n (.own anyR a (xs.map fun _ => ()))).set n (.own anyR a ((xs.map fun _ => ()) ++ [()]))).set n .un)) (by simp) fun k s e => by
    rcases get_set e with ⟨_, z⟩ | ⟨_, z⟩
    · exact .inl z
    · exact .inr z
  rw [List.set_set, List.set_set] at r3
  exact q H2 H2' σ2 (a1.trans a2) r3
end
/-! ### data without lists of their own: they stand, whatever list is lent or changed -/
def FlP {α : Type} (i : Rp α) : Prop := ∀ (K : Kf) (H : Hp) (v : V) (x : α) (b : Addr) (vs : List V), H b = some (.lst vs) → i.rep K H v x → i.rep K (but b H) v x
class Fl (α : Type) [i : Rp α] : Prop where
  p : FlP i
theorem Fl.fl {α : Type} [i : Rp α] [f : Fl α] {K : Kf} {H : Hp} {v : V} {x : α} {b : Addr} {vs : List V} (hb : H b = some (.lst vs)) (h : i.rep K H v x) : i.rep K (but b H) v x := f.p K H v x b vs hb h
theorem at_but {H : Hp} {a b : Addr} {o : HO} {vs : List V} (hb : H b = some (.lst vs)) (h : H a = some o) (n : o ≠ .lst vs) : but b H a = some o := by
  rw [but_ne]
  · exact h
  · intro z; subst z; rw [hb] at h; exact n (Option.some.inj h).symm
theorem sqt_but {K : Kf} {H : Hp} {a b : Addr} {us vs : List V} (hb : H b = some (.lst vs)) (h : SqT K H a us) : SqT K (but b H) a us := by
  rcases h with (h | ⟨o, h⟩) | h
  · exact .inl (.inl (at_but hb h (by simp)))
  · exact .inl (.inr ⟨o, at_but hb h (by simp)⟩)
  · exact .inr h
instance {α : Type} [i : Rp α] [s : Sc α] : Fl α := ⟨fun _ _ _ _ _ _ _ h => s.any h⟩
instance {α : Type} [i : Rp α] [f : Fl α] : Fl (Option α) := ⟨fun K H v x b vs hb h => by
  cases x with
  | none => exact h
  | some y => exact ⟨h.1, f.p K H v y b vs hb h.2⟩⟩
instance {α : Type} [i : Rp α] [f : Fl α] : Fl (Tu α) := ⟨fun _ _ _ _ _ _ hb ⟨a, us, e, h, p⟩ => ⟨a, us, e, sqt_but hb h, prd_mono (fun _ _ r => Fl.fl hb r) p⟩⟩
instance {α β : Type} [i : Rp α] [j : Rp β] [Fl α] [Fl β] : Fl (α × β) := ⟨fun _ _ _ _ _ _ hb ⟨a, u, w, e, h, p, q⟩ => ⟨a, u, w, e, sqt_but hb h, Fl.fl hb p, Fl.fl hb q⟩⟩
instance {α β γ : Type} [i : Rp α] [j : Rp β] [k : Rp γ] [Fl α] [Fl β] [Fl γ] : Fl (T3 α β γ) := ⟨fun _ _ _ _ _ _ hb ⟨a, u1, u2, u3, e, h, p, q, r⟩ => ⟨a, u1, u2, u3, e, sqt_but hb h, Fl.fl hb p, Fl.fl hb q, Fl.fl hb r⟩⟩
instance {α β γ δ : Type} [i : Rp α] [j : Rp β] [k : Rp γ] [l : Rp δ] [Fl α] [Fl β] [Fl γ] [Fl δ] : Fl (T4 α β γ δ) := ⟨fun _ _ _ _ _ _ hb ⟨a, u1, u2, u3, u4, e, h, p, q, r, t⟩ => ⟨a, u1, u2, u3, u4, e, sqt_but hb h, Fl.fl hb p, Fl.fl hb q, Fl.fl hb r, Fl.fl hb t⟩⟩
instance {α β γ δ ε : Type} [i : Rp α] [j : Rp β] [k : Rp γ] [l : Rp δ] [m : Rp ε] [Fl α] [Fl β] [Fl γ] [Fl δ] [Fl ε] : Fl (T5 α β γ δ ε) := ⟨fun _ _ _ _ _ _ hb ⟨a, u1, u2, u3, u4, u5, e, h, p, q, r, t, z⟩ => ⟨a, u1, u2, u3, u4, u5, e, sqt_but hb h, Fl.fl hb p, Fl.fl hb q, Fl.fl hb r, Fl.fl hb t, Fl.fl hb z⟩⟩
instance {α β γ δ ε ζ : Type} [i : Rp α] [j : Rp β] [k : Rp γ] [l : Rp δ] [m : Rp ε] [n : Rp ζ] [Fl α] [Fl β] [Fl γ] [Fl δ] [Fl ε] [Fl ζ] : Fl (T6 α β γ δ ε ζ) := ⟨fun _ _ _ _ _ _ hb ⟨a, u1, u2, u3, u4, u5, u6, e, h, p, q, r, t, z, y⟩ => ⟨a, u1, u2, u3, u4, u5, u6, e, sqt_but hb h, Fl.fl hb p, Fl.fl hb q, Fl.fl hb r, Fl.fl hb t, Fl.fl hb z, Fl.fl hb y⟩⟩
def FlAll : List (Str × Pv) → Prop
  | [] => True
  | q :: t => FlP q.2.i ∧ FlAll t
theorem fs_but {K : Kf} {H : Hp} {b : Addr} {vs : List V} (hb : H b = some (.lst vs)) : ∀ {us : List (Str × V)} {fs : List (Str × Pv)}, FlAll fs → FsOk K H us fs → FsOk K (but b H) us fs
  | _, _, _, .nil => .nil
  | _, _, f, .cons h t => .cons ⟨h.1, f.1 _ _ _ _ _ _ hb h.2⟩ (fs_but hb f.2 t)
theorem fl_ob {α : Type} {C : Addr} {fs : α → List (Str × Pv)} (h : ∀ x, FlAll (fs x)) : @Fl α (repOb C fs) := @Fl.mk α (repOb C fs) fun _ _ _ x _ _ hb ⟨a, dx, us, e, h1, h2, h3⟩ => ⟨a, dx, us, e, at_but hb h1 (by simp), at_but hb h2 (by simp), fs_but hb (h x) h3⟩
def fsubF : List Sl → List Sl → Prop
  | [], _ => True
  | .un :: t, _ :: u => fsubF t u
  | .un :: t, [] => fsubF t []
  | .per i x :: t, s :: u => s = .per i x ∧ fsubF t u
  | .bor i x :: t, s :: u => s = .bor i x ∧ fsubF t u
  | .bl i x :: t, s :: u => s = .bl i x ∧ fsubF t u
  | .own i _ _ :: t, _ :: u => FlP i ∧ fsubF t u
  | .dp i _ _ :: t, _ :: u => FlP i ∧ fsubF t u
  | _ :: _, _ => False
theorem fsubF_get : ∀ {Γ2 Γ : List Sl} {k : Nat} {s : Sl}, fsubF Γ2 Γ → Γ2[k]? = some s → match s with | .un => True | .per i x => Γ[k]? = some (.per i x) | .bor i x => Γ[k]? = some (.bor i x) | .bl i x => Γ[k]? = some (.bl i x) | .own i _ _ => FlP i | .dp i _ _ => FlP i | .ob _ _ _ _ => False | .gn _ => False
  | [], _, _, _, _, h => by simp at h
  | .un :: t, s :: u, k, z, b, h => by
    cases k with
    | zero => rw [List.getElem?_cons_zero] at h; cases h; trivial
    | succ k => rw [List.getElem?_cons_succ] at h; have := fsubF_get (Γ2 := t) (Γ := u) b h; cases z <;> simpa using this
  | .un :: t, [], k, z, b, h => by
    cases k with
    | zero => rw [List.getElem?_cons_zero] at h; cases h; trivial
    | succ k => rw [List.getElem?_cons_succ] at h; have := fsubF_get (Γ2 := t) (Γ := []) b h; cases z <;> simpa using this
  | .per i x :: t, s :: u, k, z, b, h => by
    cases k with
    | zero => rw [List.getElem?_cons_zero] at h; cases h; rw [List.getElem?_cons_zero, b.1]
    | succ k => rw [List.getElem?_cons_succ] at h; have := fsubF_get (Γ2 := t) (Γ := u) b.2 h; cases z <;> simpa using this
  | .bor i x :: t, s :: u, k, z, b, h => by
    cases k with
    | zero => rw [List.getElem?_cons_zero] at h; cases h; rw [List.getElem?_cons_zero, b.1]
    | succ k => rw [List.getElem?_cons_succ] at h; have := fsubF_get (Γ2 := t) (Γ := u) b.2 h; cases z <;> simpa using this
  | .bl i x :: t, s :: u, k, z, b, h => by
    cases k with
    | zero => rw [List.getElem?_cons_zero] at h; cases h; rw [List.getElem?_cons_zero, b.1]
    | succ k => rw [List.getElem?_cons_succ] at h; have := fsubF_get (Γ2 := t) (Γ := u) b.2 h; cases z <;> simpa using this
  | .own i p x :: t, s :: u, k, z, b, h => by
    cases k with
    | zero => rw [List.getElem?_cons_zero] at h; cases h; exact b.1
    | succ k => rw [List.getElem?_cons_succ] at h; have := fsubF_get (Γ2 := t) (Γ := u) b.2 h; cases z <;> simpa using this
  | .dp i p x :: t, s :: u, k, z, b, h => by
    cases k with
    | zero => rw [List.getElem?_cons_zero] at h; cases h; exact b.1
    | succ k => rw [List.getElem?_cons_succ] at h; have := fsubF_get (Γ2 := t) (Γ := u) b.2 h; cases z <;> simpa using this
  | .dp _ _ _ :: _, [], _, _, b, _ => b.elim
  | .ob _ _ _ _ :: _, _ :: _, _, _, b, _ => b.elim
  | .ob _ _ _ _ :: _, [], _, _, b, _ => b.elim
  | .gn _ :: _, _ :: _, _, _, b, _ => b.elim
  | .gn _ :: _, [], _, _, b, _ => b.elim
  | .per _ _ :: _, [], _, _, b, _ => b.elim
  | .bor _ _ :: _, [], _, _, b, _ => b.elim
  | .bl _ _ :: _, [], _, _, b, _ => b.elim
  | .own _ _ _ :: _, [], _, _, b, _ => b.elim
section
variable {K : Kf} {F : Fm} {I H0 H H1 H1' : Hp} {σ : St} {Γ Γ2 : List Sl} {m p : Bool} {te : TE} {b : Addr} {vs : List V}
theorem SR.thawF {α : Type} {i : Rp α} {xs : List α} {n : Nat} {a : Option Addr} (r : SR K F I H0 H σ Γ) (hn : Γ[n]? = some (.own i a xs)) (e1 : σ[n]? = some (some (.ref b))) (a1 : Same (upd H0 b (.lst vs)) H1) (r1 : SR K F I H1 H1' σ Γ2) (hl : n < Γ2.length) (hb : fsubF (Γ2.set n .un) Γ) (hv : Prd (i.rep K H0) vs xs) :
    Same H0 (but b H1) ∧ SR K F I (but b H1) H1' σ (Γ2.set n (.own i a xs)) := by
  obtain ⟨ov, q1, c, vs', q2, q3, q4, q5, q6, q7⟩ := r.ok n _ hn
  have ec : b = c := by rw [q1, q2] at e1; cases e1; rfl
  subst ec
  have s0 : Same H0 (but b H1) := fun c o h => by
    have hc : c ≠ b := ne_of_none h q5
    rw [but_ne hc]
    exact a1 _ _ (by rw [upd_ne hc]; exact h)
  have sub : Same (but b H1) H1 := fun c o h => (of_but h).2
  have hself : H1 b = some (.lst vs) := a1 _ _ upd_same
  have none_of : ∀ {c}, H1 c = none → but b H1 c = none := fun {c} h => by
    by_cases hc : c = b
    · subst hc; exact but_self
    · rw [but_ne hc]; exact h
  refine ⟨s0, ⟨r1.f, r.i.trans s0, fun c o h n => none_of (r1.g c o h n), sub.trans r1.h, by simpa using r1.len, fun k s e => ?_, fun k l c ne h1 h2 => ?_⟩⟩
  · rcases get_set e with ⟨rfl, rfl⟩ | ⟨hk, e⟩
    · exact ⟨_, e1, b, vs, rfl, q3, q4, but_self, r1.h _ _ hself, prd_mono (fun _ _ z => i.mono s0 z) hv⟩
    · obtain ⟨ov', w1, w2⟩ := r1.ok k s e
      have hf := fsubF_get (k := k) (s := s) hb (by rw [List.getElem?_set_ne (Ne.symm hk)]; exact e)
      refine ⟨ov', w1, ?_⟩
      cases s with
      | un => trivial
      | per j x =>
        obtain ⟨ov2, z1, v, z2, z3⟩ := r.ok k _ hf
        rw [w1] at z1
        cases z1
        exact ⟨v, z2, j.mono s0 z3⟩
      | bor j x =>
        obtain ⟨ov2, z1, z2⟩ := r.ok k _ hf
        rw [w1] at z1
        cases z1
        exact z2
      | bl j x =>
        obtain ⟨ov2, z1, z2⟩ := r.ok k _ hf
        rw [w1] at z1
        cases z1
        exact blOk.mono s0 z2
      | own j p' xs' =>
        obtain ⟨c, vs', w3, w4, w5, w6, w7, w8⟩ := w2
        exact ⟨c, vs', w3, w4, w5, none_of w6, w7, prd_mono (fun _ _ z => hf _ _ _ _ _ _ hself z) w8⟩
      | dp j p' xss => exact dpOk.mono (p' := p') w2 (fun _ _ z => z) (fun d _ z => none_of z) (fun _ _ _ z => z) fun _ _ z => hf _ _ _ _ _ _ hself z
      | gn G => exact hf.elim
      | ob c C dx fs => exact hf.elim
  · have cl : ∀ {k}, Ftp H1' σ (Γ2.set n (.own i a xs)) k c → (k = n ∧ c = b) ∨ (k ≠ n ∧ Ftp H1' σ Γ2 k c) := fun h => by
      rcases ftp_set h with ⟨z, ov, e, f⟩ | z
      · rw [z, e1] at e
        cases e
        have f' : some (V.ref b) = some (V.ref c) := f
        cases f'
        exact .inl ⟨z, rfl⟩
      · exact .inr z
    have nb : ∀ {k}, Ftp H1' σ Γ2 k c → c ≠ b := fun h z => by
      subst z
      have := (ftp_own r1 h).2.1
      rw [hself] at this
      cases this
    rcases cl h1 with ⟨z1, y1⟩ | ⟨z1, y1⟩ <;> rcases cl h2 with ⟨z2, y2⟩ | ⟨z2, y2⟩
    · exact ne (z1.trans z2.symm)
    · exact nb y2 y1
    · exact nb y1 y2
    · exact r1.dj k l c ne y1 y2
theorem e_frzF {β : Type} {i : Rp β} {xs : List β} {n : Nat} {a : Option Addr} {α : Type} [Rp α] [Fl α] {x : α} (hn : Γ[n]? = some (.own i a xs)) (hn2 : Γ2[n]? = some (.per (inferInstance : Rp (List β)) xs)) (h : E K m true te (Γ.set n (.per (inferInstance : Rp (List β)) xs)) Γ2 x)
    (hb : fsubF (Γ2.set n .un) Γ := by repeat' (first | exact True.intro | refine ⟨rfl, ?_⟩ | refine ⟨Fl.p, ?_⟩)) : E K m true te Γ (Γ2.set n (.own i a xs)) x := fun F I H0 H σ r Q q => by
  obtain ⟨b, vs, e1, hv, r'⟩ := frz_vs r hn
  have hl : n < Γ2.length := (List.getElem?_eq_some_iff.mp hn2).1
  refine h F I _ H σ r' Q fun v H1 H1' r1 a1 b1 c1 => ?_
  obtain ⟨s0, r2⟩ := r.thawF hn e1 a1 r1 hl hb hv
  exact q v _ H1' r2 s0 b1 (Fl.fl (a1 _ _ upd_same) c1)
end
end FF

set_option Elab.async false
set_option linter.all false
set_option maxRecDepth 100000
set_option maxHeartbeats 2000000
namespace FF
open PySem PySem.Spec PyProof.Rows L2 PpSet
/-! ### {f(x) for x in ..}, whole numbers -/
abbrev S0 : Int → Bool := fun _ => false
abbrev sput (S : Int → Bool) (c : Int) : Int → Bool := fun j => S j || decide (j = c)
abbrev scnt (S : Int → Bool) (n : Nat) (c : Int) : Nat := if S c = true then n else n + 1
/-- D: the new set; W: what holds ahead of each turn -/
def tSI (w : World) (wi : TI) (g : TG) (tt : TT) (te : TE) (vs : List Nat) : TE := fun σ H Q =>
  wi σ H fun J G => ∀ D, G D = none → ∃ W : Nat → Nat → Hp → Prop, (∃ m, W 0 m (upd G D (SetO w D S0 0))) ∧
    ∀ k m A, W k m A → (J.stop k A ∧ Q (.ref D) A) ∨ (J.go k A ∧ ∃ Nx : Hp → Prop, (∀ B, Nx B → ∃ m2, m2 < m ∧ W (k + 1) m2 B) ∧
      ∀ x B, J.yld k A x B → g x (wipe σ vs) B fun τ C => wipe τ vs = wipe σ vs ∧ tt τ C fun b C2 =>
        if b = true then te τ C2 fun y C3 => ∃ (c : Int) (S : Int → Bool) (n : Nat), y = .int c ∧ C3 D = some (SetO w D S n) ∧ n + 1 < scanBound ∧ Nx (upd C3 D (SetO w D (sput S c) (scnt S n c))) else Nx C2)
section
variable {X : Cx}
theorem addI {pins : List (Addr × Obj)} {σ : L2.St} {H : Hp} {s : Shared} {E : Value → Shared → Prop} {D : Addr} {S : Int → Bool} {n : Nat} {c : Int} {tk : Tok} {Q : Value → Shared → Prop} (I : Inv X pins σ H s) (hD : H D = some (SetO X.w D S n)) (room : n + 1 < scanBound)
    (q : ∀ s2, Inv X pins σ (upd H D (SetO X.w D (sput S c) (scnt S n c))) s2 → Q .none s2) : wpAny (model X.prog X.w) X.A (call (.builtin "set.add") [.ref D, .int c tk]) Q E s := by
  refine setR_add (setO_get I hD) room fun h2 sb nw => q _ (I.write (e := D) (t' := s.toks + 1) (by rw [hD]; trivial) (.inl rfl) (fun b u hb hu => (sb.2 b hb).trans hu) ?_ (setO_new nw))
  obtain ⟨o, _, _, _, ho, _⟩ := nw
  exact ⟨o, ho⟩
/-- the places of a walk, seen from the block -/
theorem blk_fp {s₁ : Shared} {H₁ : Hp} {scope : Scope} {ce : Env} {fp : List Addr} {τ : L2.St} {B : Hp} {t : Shared} (I : Inv (X.blk s₁ H₁ scope ce fp) [] τ B t) (hn : ∀ b ∈ fp, B b = none) : ∀ b ∈ fp, FpOk (X.blk s₁ H₁ scope ce fp) [] B b := fun b hb =>
  ⟨hn b hb, (I.ok.exf b hb).1, I.ok.exfs b hb, .inl hb, fun x c e => (I.ok.exf b hb).2 x c e, fun p hp => by cases (show p ∈ ([] : List (Addr × Obj)) from hp)⟩
theorem pe_setI {elt tg it : Expr} {ifs : List Expr} {scope : Scope} {own : List (PySem.Str × Nat)} {pos : Pos} {wi : TI} {g : TG} {tt : TT} {te : TE} (hc : X.calm = true) (hN : X.N.Nodup) (hi : PI X tg it wi) (ok : BlkOk X.N X.env.scope scope own)
    (hg : ∀ (s : Shared) (H : Hp) (C : Addr) (cl : List (PySem.Str × Addr)) (fp : List Addr), PG (X.blk s H scope (compEnvC scope cl C X.env) fp) tg g)
    (ht : ∀ (s : Shared) (H : Hp) (C : Addr) (cl : List (PySem.Str × Addr)) (fp : List Addr), PTs (X.blk s H scope (compEnvC scope cl C X.env) fp) ifs tt)
    (he : ∀ (s : Shared) (H : Hp) (C : Addr) (cl : List (PySem.Str × Addr)) (fp : List Addr), PE (X.blk s H scope (compEnvC scope cl C X.env) fp) elt te) (hs : ∀ x, foldedSetIterable it X.env x = pure x := by intro _; rfl) :
    PE X (.SetComp elt [⟨tg, it, ifs, 0⟩] scope pos) (tSI X.w wi g tt te (own.map (·.2))) := ⟨fun pins s σ H Q I h => by
  rw [eval_SetComp]
  have cl0 : ∀ y ∈ scope.names, y.2 = .free → ∃ c, X.env.cells.lookup y.1 = some c := fun y hy e => (ok.free y hy e).elim (fun k => I.ok.has _ (.inl k)) fun k => I.ok.has _ (.inr k)
  refine wpAny_comprehension_free (use := none) rfl hs (closure_ok cl0) ok.kind (fun y hy e => by rw [ok.uniq y hy, e]) (thn (hi.run pins s σ H _ I h) fun xv s1 hx => thn hx fun itv s2 h2 => ?_)
  obtain ⟨ia, fp, tn, J, G, rfl, I2, T, st2, f2, q⟩ := h2
  refine newSet_ok (newEnv_comp ?_)
  obtain ⟨W, ⟨m0, w0⟩, turn⟩ := q s2.heap.objs.size (I2.hok.fresh (Nat.le_refl _))
  generalize hD : s2.heap.objs.size = D at w0 turn ⊢
  have up2 : ∀ b o, s2.heap.get? b = some o → (s2.heap.push { cls := .type "set", dict := none, data := .set #[] 0 (.fresh 0 0 (!X.w.params.followText "set-order")) }).get? b = some o := fun b o e => Heap.get?_push_of_some _ e
  have sz2 : (s2.heap.push { cls := .type "set", dict := none, data := .set #[] 0 (.fresh 0 0 (!X.w.params.followText "set-order")) }).objs.size = s2.heap.objs.size + 1 := Heap.size_push ..
  have I3 : Inv X pins σ (upd G D (SetO X.w D S0 0)) { s2 with heap := s2.heap.push { cls := .type "set", dict := none, data := .set #[] 0 (.fresh 0 0 (!X.w.params.followText "set-order")) } } :=
    I2.laid (t' := s2.toks) up2 (Nat.le_of_eq hD) (by rw [← hD]; exact setO_new (setR_fresh X.w))
  generalize hhp : s2.heap.push { cls := .type "set", dict := none, data := .set #[] 0 (.fresh 0 0 (!X.w.params.followText "set-order")) } = hp at up2 sz2 I3 ⊢
  generalize hG : upd G D (SetO X.w D S0 0) = G3 at w0 I3
  have f3 : ∀ b ∈ fp, FpOk X pins G3 b ∧ b < hp.objs.size := fun b hb => by
    obtain ⟨o, e, _⟩ := T.obj _ _ st2 b hb
    have lt := Heap.lt_size e
    exact ⟨⟨by rw [← hG, upd_ne (show b ≠ D from Nat.ne_of_lt (hD ▸ lt))]; exact (f2 b hb).1, (f2 b hb).2⟩, Nat.lt_of_lt_of_eq (Nat.lt_succ_of_lt lt) sz2.symm⟩
  have n3 : ∀ b ∈ fp, G3 b = none := fun b hb => (f3 b hb).1.1
  generalize hs3 : ({ s2 with heap := hp } : Shared) = s3 at I3
  have es3 : s3.heap = hp := by rw [← hs3]
  rw [← es3] at f3
  have I4 := block_start I3 ok hN f3
  generalize hcl : cellsFrom (s3.heap.objs.size + 1) scope.names (cloFrom X.env.cells scope.names []) = cl at I4
  have pg := hg s3 G3 s3.heap.objs.size cl fp
  have pt := ht s3 G3 s3.heap.objs.size cl fp
  have pe := he s3 G3 s3.heap.objs.size cl fp
  generalize hce : compEnvC scope cl s3.heap.objs.size X.env = ce at I4 pg pt pe
  have cL : ce.locals = s3.heap.objs.size := by subst hce; rfl
  generalize hs4 : ({ s3 with heap := pushCells (s3.heap.push { cls := .type "dict", data := .dict #[] }) scope.names } : Shared) = s4 at I4
  have st4 : tn 0 s4.heap := T.keep _ _ _ st2 fun b _ o e => by
    rw [← hs4]
    exact pushCells_keeps _ _ _ _ (Heap.get?_push_of_some _ (by rw [es3]; exact up2 b o e))
  suffices loop : codeAny (model X.prog X.w) X.A (.compLoop (.SetComp elt [⟨tg, it, ifs, 0⟩] scope pos) 0 (.ref ia) (.ref D) ce) (compPost (model X.prog X.w) X.A X.xe none (EP X pins σ Q) (.ref D) s3.heap.objs.size) s4 by
    have fin := codeAny_compStart_set (rest := []) loop (T.self X.A 0 _ _ _ st4 loop)
    subst hs4 hce hcl hs3
    exact fin
  refine compLoopS_any (fun n t => ∃ k B, Inv (X.blk s3 G3 scope ce fp) [] (wipe σ (own.map (·.2))) B t ∧ tn k t.heap ∧ (∀ b ∈ fp, B b = none) ∧ W k n B) ?_ m0 ⟨0, G3, I4, st4, n3, w0⟩
  rintro n s5 ⟨k, A5, I5, st5, n5, w5⟩
  rcases turn k n A5 w5 with ⟨stop, qq⟩ | ⟨go, Nx, hNx, step⟩
  · refine thnF (T.done (X.blk s3 G3 scope ce fp) rfl rfl rfl hc k [] s5 _ A5 (fun _ _ => False) I5 (blk_fp I5 n5) st5 stop) fun r s6 ⟨hr, I6⟩ => ?_
    subst hr
    have I7 : Inv X pins σ A5 s6 := I3.call' (ch := fp) I6.os I6.base I6.hok I6.bare fun b hb => let z := (f3 b hb).1.2; ⟨z.2.2.1, z.1, z.2.2.2.1, z.2.2.2.2⟩
    have nC : A5 s3.heap.objs.size = none := cL ▸ (show A5 ce.locals = none from I6.free)
    obtain ⟨m, hn, _⟩ := I6.loc
    replace hn : s6.heap.Ns s3.heap.objs.size m := cL ▸ (show s6.heap.Ns ce.locals m from hn)
    refine ⟨m, hn, fun h9 sb => ?_⟩
    obtain ⟨y0, y1, y2, y3, y4, y5⟩ := I3.fpOk (pins := pins) (Nat.le_refl _) nC
    exact ⟨.ref D, A5, I7.turned (t' := s6.toks) (fun b o hb e => (sb.2 b hb).trans e) y0 y1 y3 y4 y5, rfl, qq⟩
  · refine thnF (T.item (X.blk s3 G3 scope ce fp) rfl rfl rfl hc k [] s5 _ A5 (fun _ _ => False) I5 (blk_fp I5 n5) st5 go) fun r s6 ⟨u, hr, h6⟩ => ?_
    subst hr
    refine thnF h6 fun _ s7 ⟨x, A7, I7, r7, y7, st7, n7⟩ => ?_
    have I8 := I7.pinned (blk_fp I7 n7) (T.obj _ _ st7)
    refine thnF (pg.run _ s7 _ A7 x u _ I8 r7 (step x A7 y7)) fun _ s8 ⟨τ, A8, I9, hw, q8⟩ => ?_
    refine thnF (pt.run _ s8 τ A8 _ I9 q8) fun b s9 ⟨A9, I10, q9⟩ => ?_
    have fin : ∀ {t : Shared} {B : Hp}, Inv (X.blk s3 G3 scope ce fp) ([] ++ pinsAt fp s7.heap) τ B t → Nx B → ∃ m, m < n ∧ ∃ k B, Inv (X.blk s3 G3 scope ce fp) [] (wipe σ (own.map (·.2))) B t ∧ tn k t.heap ∧ (∀ b ∈ fp, B b = none) ∧ W k m B := fun {t B} I' nx => by
      obtain ⟨m2, lt, w2⟩ := hNx B nx
      have pin : ∀ b ∈ fp, ∀ o, s7.heap.get? b = some o → t.heap.get? b = some o ∧ B b = none := fun b hb o e => by
        have z := I'.pin (b, o) (List.mem_append_right _ (List.mem_append_right _ (mem_pinsAt hb e)))
        exact ⟨z.1, z.2.1⟩
      refine ⟨m2, lt, k + 1, B, (I'.unpinned (pins := [])).weak (by rw [← hw, wipe_length]) (fun j v e => (wipe_some (by rw [hw]; exact e)).1), T.keep _ _ _ st7 fun b hb o e => (pin b hb o e).1, fun b hb => ?_, w2⟩
      obtain ⟨o, e, _⟩ := T.obj _ _ st7 b hb
      exact (pin b hb o e).2
    cases b with
    | false => exact fin I10 (by simpa using q9)
    | true =>
      rw [if_pos rfl] at q9 ⊢
      refine thnF (pe.run _ s9 τ A9 _ I10 q9) fun z s10 ⟨yv, A11, I11, r11, c, S, n2, ey, hD2, hz2, nx⟩ => ?_
      subst ey
      obtain ⟨tk, rfl⟩ := (show ∃ tk, z = Value.int c tk from r11)
      exact addI (X := X.blk s3 G3 scope ce fp) I11 hD2 hz2 fun s11 I12 => fin I12 nx⟩
end
/-! ### a set beside the slots -/
section
variable {K : Kf} {F : Fm} {I H0 H : Hp} {σ : L2.St} {Γ : List Sl}
theorem SR.guardX (r : SR K F I H0 H σ Γ) {a : Addr} {φ : Heap → Prop} (hF : F.k a = none) (h0 : H0 a = none) (ha : H a = some (.ext φ)) : SR K (F.plus a (.ext φ) hF) I H0 H σ Γ := by
  have fr : ∀ n, ¬ Ftp H σ Γ n a := fun n z => by
    obtain ⟨_, _, us, e⟩ := ftp_own r z
    rw [ha] at e; cases e
  have cs : ∀ {b u}, (F.plus a (.ext φ) hF).k b = some u → (b = a ∧ u = .ext φ) ∨ F.k b = some u := fun {b u} e => by
    have e' : upd F.k a (.ext φ) b = some u := e
    by_cases hb : b = a
    · subst hb; rw [upd_same] at e'; exact .inl ⟨rfl, (Option.some.inj e').symm⟩
    · rw [upd_ne hb] at e'; exact .inr e'
  have nn : ∀ {b}, b ≠ a → F.k b = none → (F.plus a (.ext φ) hF).k b = none := fun {b} hb e => (upd_ne hb : upd F.k a (.ext φ) b = F.k b).trans e
  refine ⟨fun b u e => (cs e).elim (fun z => by rw [z.1, z.2]; exact ha) (r.f b u), r.i, fun b u e n => (cs e).elim (fun z => by rw [z.1]; exact h0) fun z => r.g b u z n, r.h, r.len, fun n s e => ?_, r.dj⟩
  obtain ⟨ov, q1, q2⟩ := r.ok n s e
  refine ⟨ov, q1, ?_⟩
  cases s with
  | un => trivial
  | per i x => exact q2
  | bor i x => exact q2
  | bl i x => exact q2
  | own i p xs =>
    obtain ⟨b, vs, e2, e3, e4, q⟩ := q2
    exact ⟨b, vs, e2, e3, nn (fun z => fr n ⟨_, _, e, q1, by show ov = _; rw [e2, z]⟩) e4, q⟩
  | dp i p xss => exact dpOk.mono (p' := p) q2 (fun b hb z => nn (fun w => by subst w; exact fr n ⟨_, _, e, q1, hb⟩) z) (fun _ _ z => z) (fun _ _ _ z => z) fun _ _ z => z
  | gn G => exact gnOk.mono q2 (fun b hb z => nn (fun w => by subst w; exact fr n ⟨_, _, e, q1, hb⟩) z) (fun _ _ z => z) (fun _ _ _ z => z) fun _ z => z
  | ob b C dx fs =>
    obtain ⟨e2, e3, e4, e5, e6, e7, vs, e8, e9⟩ := q2
    exact ⟨e2, nn (fun z => by rw [z, ha] at e8; cases e8) e3, e4, nn (fun z => by rw [z, ha] at e7; cases e7) e5, e6, e7, vs, e8, e9⟩
theorem SR.asideX (r : SR K F I H0 H σ Γ) {D : Addr} {φ ψ : Heap → Prop} (hF : F.k D = none) (h0 : H0 D = none) (hD : H D = some (.ext φ)) : SR K F I H0 (upd H D (.ext ψ)) σ Γ := by
  have off : ∀ {n c}, Ftp H σ Γ n c → c ≠ D := fun z w => by
    obtain ⟨_, _, us, e⟩ := ftp_own r z
    rw [w, hD] at e; cases e
  have up : ∀ {n c}, Ftp (upd H D (.ext ψ)) σ Γ n c → Ftp H σ Γ n c := fun h => ftp_back r (fun a n o z1 z2 => (upd_ne (off z1)).trans z2) h
  refine ⟨fun b o e => (upd_ne (ne_of_none e hF)).trans (r.f b o e), r.i, r.g, fun b o e => (upd_ne (ne_of_none e h0)).trans (r.h b o e), r.len, fun n s e => ?_, fun n m a ne h1 h2 => r.dj n m a ne (up h1) (up h2)⟩
  obtain ⟨ov, q1, q2⟩ := r.ok n s e
  refine ⟨ov, q1, ?_⟩
  cases s with
  | un => trivial
  | per _ _ => exact q2
  | bor _ _ => exact q2
  | bl _ _ => exact q2
  | own i p xs =>
    obtain ⟨b, vs, e2, e3, e4, e5, e6, e7⟩ := q2
    exact ⟨b, vs, e2, e3, e4, e5, (upd_ne (off ⟨_, _, e, q1, e2⟩)).trans e6, e7⟩
  | dp i p xss => exact dpOk.mono (p' := p) q2 (fun _ _ z => z) (fun _ _ z => z) (fun b o hb z => (upd_ne (off ⟨_, _, e, q1, hb⟩)).trans z) fun _ _ z => z
  | gn G => exact gnOk.mono q2 (fun _ _ z => z) (fun _ _ z => z) (fun b o hb z => (upd_ne (off ⟨_, _, e, q1, hb⟩)).trans z) fun _ z => z
  | ob b C dx fs =>
    obtain ⟨e2, e3, e4, e5, e6, e7, us, e8, e9⟩ := q2
    exact ⟨e2, e3, e4, e5, e6, (upd_ne fun z => by rw [z, hD] at e7; cases e7).trans e7, us, (upd_ne fun z => by rw [z, hD] at e8; cases e8).trans e8, e9⟩
end
/-- te makes a set of these numbers -/
def ES (K : Kf) (w : World) (m : Bool) (te : TE) (Γ Γ' : List Sl) (zs : List Int) : Prop :=
  ∀ (F : Fm) (I H0 H : Hp) (σ : L2.St), SR K F I H0 H σ Γ → ∀ Q : VK, (∀ D H0' H', SR K F I H0' H' σ Γ' → Same H0 H0' → (m = false → Same H H') → H' D = some (SetO w D (fun j => decide (j ∈ zs)) (dis zs).length) → Q (.ref D) H') → te σ H Q
theorem once_len (d : List Int) (x : Int) : (once d x).length = if x ∈ d then d.length else d.length + 1 := by
  unfold once
  split <;> simp
theorem mem_dis' {x : Int} {xs : List Int} : x ∈ dis xs ↔ x ∈ xs := dis_ind (P := fun xs d => ∀ x, x ∈ d ↔ x ∈ xs) (fun _ => Iff.rfl) (fun xs y d h x => by
  unfold once
  split
  · rename_i c
    rw [h x, List.mem_append, List.mem_singleton]
    exact ⟨.inl, fun z => z.elim id fun e => e ▸ (h y).mp c⟩
  · rw [List.mem_append, List.mem_append, h x]) xs x
theorem dis_take {xs : List Int} (n : Nat) : (dis (xs.take n)).length ≤ (dis xs).length := List.Nodup.length_le_of_subset (dis_nodup _) fun x hx => mem_dis'.mpr (List.mem_of_mem_take (mem_dis'.mp hx))
section
variable {K : Kf} {w : World} {o m : Bool} {wi : TI} {g : TG} {te : TE} {Γ Γ1 : List Sl} {vs : List Nat}
theorem s_sc {α : Type} {i : Rp α} {xs : List α} {f : α → Int} (Γt : α → List Sl) (hw : Wlk K o m wi Γ Γ1 i xs) (hf : Free vs Γ1) (hz : xs.length ≤ 4000)
    (hg : ∀ x, TgC K o g i x Γ1 (Γt x) vs) (he : ∀ x, x ∈ xs → E K false true te (Γt x) (Γt x) (f x)) (hk : ∀ x, Wk (Γt x) Γ1) :
    ES K w m (tSI w wi g tYes te vs) Γ Γ1 (xs.map f) := fun F I H0 H σ r Q q => by
  refine hw F I H0 H σ r _ fun J H1 H1' r1 a1 b1 turn => fun D hD => ?_
  have hFD : F.k D = none := Same.free r1.f hD
  have hID : I D = none := Same.free r1.i (Same.free r1.h hD)
  have hHD : m = false → H D = none := fun z => Same.free (b1 z) hD
  refine ⟨fun n k A => k = xs.length - n ∧ n ≤ xs.length ∧ ∃ H0', Same H1 H0' ∧ SR K F I H0' A σ Γ1 ∧ (m = false → Same H A) ∧ H0' D = none ∧ A D = some (SetO w D (fun j => decide (j ∈ (xs.take n).map f)) (dis ((xs.take n).map f)).length),
    ⟨xs.length, by simp, Nat.zero_le _, H1, Same.refl _, (r1.beside hD).1, fun z => (b1 z).trans (r1.beside hD).2, Same.free r1.h hD, ?_⟩, ?_⟩
  · rw [upd_same]
    have e : (fun j => decide (j ∈ ([] : List α).map f)) = S0 := by funext j; simp
    show _ = some (SetO w D (fun j => decide (j ∈ ([] : List α).map f)) 0)
    rw [e]
  rintro n k A ⟨rfl, hn, H0', s0', r', hm, hD0, hDs⟩
  obtain ⟨t1, t2⟩ := turn n H0' A s0' r'.h r'.f hn
  by_cases hl : n < xs.length
  · have hx : xs[n]? = some xs[n] := List.getElem?_eq_getElem hl
    obtain ⟨t3, t4⟩ := t2 _ hx
    refine .inr ⟨t3, fun B => ∃ H0'', Same H1 H0'' ∧ SR K F I H0'' B σ Γ1 ∧ (m = false → Same H B) ∧ H0'' D = none ∧ B D = some (SetO w D (fun j => decide (j ∈ (xs.take (n + 1)).map f)) (dis ((xs.take (n + 1)).map f)).length),
      fun B ⟨H0'', z⟩ => ⟨xs.length - (n + 1), by omega, rfl, by omega, H0'', z⟩, fun v B y => ?_⟩
    obtain ⟨H0n, sn, rg, y2, sh⟩ := (t4 v B y).step ((r'.guardX hFD hD0 hDs).wiped hf)
    refine hg _ _ I H0n B (wipe σ vs) v rg y2 _ fun τ r2 hw2 => ⟨by rw [hw2]; exact wipe_ext (wipe_length _ _) fun l hl => wipe_get hl, ?_⟩
    dsimp only [tYes]
    rw [if_pos rfl]
    refine he _ (List.getElem_mem hl) _ I H0n B τ r2 _ fun u H4 H4' r4 a4 b4 c4 => ?_
    have r5 : SR K (F.plus D (SetO w D (fun j => decide (j ∈ (xs.take n).map f)) (dis ((xs.take n).map f)).length) hFD) I H4 H4' σ Γ1 := by
      refine (wk_sr r4 (hk _)).sets ?_ fun l t el => ?_
      · have h1 := (wk_sr r4 (hk _)).len
        have h2 := congrArg List.length hw2
        rw [wipe_length, wipe_length, wipe_length] at h2
        omega
      · by_cases hv : l ∈ vs
        · exact .inl (hf l hv t el)
        · refine .inr ⟨el, ?_⟩
          have := wipe_back hw2 hv
          rw [this, wipe_get hv]
    obtain ⟨r6, d1, d2, _⟩ := r5.unguard hID
    have cu : u = .int (f xs[n]) := c4
    have sz : (dis ((xs.take n).map f)).length ≤ n := by
      have h1 : (dis ((xs.take n).map f)).length ≤ ((xs.take n).map f).length := List.Nodup.length_le_of_subset (dis_nodup _) fun x hx => mem_dis'.mp hx
      rw [List.length_map, List.length_take] at h1
      omega
    refine ⟨f xs[n], _, _, cu, d2, Nat.lt_of_le_of_lt (Nat.succ_le_succ sz) (by show n + 1 < 4096; omega), H4, (s0'.trans sn).trans a4, r6.asideX hFD d1 d2, fun z b o' e' => ?_, d1, ?_⟩
    · rw [upd_ne (ne_of_none e' (hHD z))]
      exact (((hm z).trans sh).trans (b4 rfl)) b o' e'
    · rw [upd_same, take_succ hx, List.map_append, List.map_singleton, dis_snoc, once_len]
      have e1 : sput (fun j => decide (j ∈ (xs.take n).map f)) (f xs[n]) = fun j => decide (j ∈ (xs.take n).map f ++ [f xs[n]]) := by
        funext j
        show (decide _ || decide _) = _
        rw [Bool.eq_iff_iff]
        simp
      have e2 : scnt (fun j => decide (j ∈ (xs.take n).map f)) (dis ((xs.take n).map f)).length (f xs[n]) = if f xs[n] ∈ dis ((xs.take n).map f) then (dis ((xs.take n).map f)).length else (dis ((xs.take n).map f)).length + 1 := by
        show (if decide _ = true then _ else _) = _
        by_cases c : f xs[n] ∈ (xs.take n).map f
        · rw [if_pos (decide_eq_true c), if_pos (mem_dis'.mpr c)]
        · rw [if_neg (by rw [decide_eq_true_eq]; exact c), if_neg fun z => c (mem_dis'.mp z)]
      rw [e1, e2]
  · have e' : n = xs.length := by omega
    subst e'
    rw [List.take_length] at hDs
    exact .inl ⟨t1 rfl, q D H0' A r' (a1.trans s0') hm hDs⟩
/-- sorted({..}) -/
def srtS (zs : List Int) : List Int := srt (dis zs)
theorem n_srtSet {zs : List Int} (h : ES K w m te Γ Γ1 zs) (hz : (dis zs).length < 64) : EN K m (tCB (rSortedSet w) (tCons te tNil)) Γ Γ1 (srtS zs) := fun F I H0 H σ r Q q =>
  h F I H0 H σ r _ fun D H1 H1' r1 a1 b1 c1 => by
    refine ⟨D, _, _, rfl, c1, hz, fun ns p up mm hl hp => ?_⟩
    have e : ns = srtS zs := by
      have n1 : ns.Nodup := up.imp fun {a b} h e => by omega
      have n2 : (srtS zs).Nodup := (srt_perm _).nodup_iff.mpr (dis_nodup _)
      refine ((List.perm_ext_iff_of_nodup n1 n2).mpr fun k => ?_).eq_of_pairwise (le := fun a b => a ≤ b) (fun a b _ _ x y => by omega) (up.imp fun h => by omega) (srt_up _)
      rw [mm k, decide_eq_true_eq]
      exact (mem_dis'.symm).trans (srt_perm _).mem_iff.symm
    obtain ⟨r2, s1, z1, z2, z3⟩ := r1.fresh (vs := ns.map V.int) hp
    refine q p _ _ _ r2 a1 (fun z => (b1 z).trans s1) z1 z2 z3 upd_same ?_
    rw [← e]
    simpa using prd_ints (K := K) (H := H1) (fun i : Int => i) ns
/-- a pair's brother: three names of a comprehension -/
theorem tgc_three {α β γ : Type} [i : Rp α] [j : Rp β] [k : Rp γ] {x : T3 α β γ} {n1 n2 n3 : Nat} (h1 : n1 < Γ.length := by exact Nat.le_of_ble_eq_true rfl) (h2 : n2 < Γ.length := by exact Nat.le_of_ble_eq_true rfl) (h3 : n3 < Γ.length := by exact Nat.le_of_ble_eq_true rfl) :
    TgC K true (gTup K 3 (gCons (gName n1) (gCons (gName n2) (gCons (gName n3) gNil)))) (inferInstance : Rp (T3 α β γ)) x Γ (((Γ.set n1 (pr x.a)).set n2 (pr x.b)).set n3 (pr x.c)) [n1, n2, n3] := fun F I H0 H σ v r h Q q => by
  obtain ⟨a, u1, u2, u3, rfl, hs, e1, e2, e3⟩ := h
  refine ⟨a, _, rfl, same_t r.h hs, rfl, u1, _, rfl, u2, _, rfl, u3, _, rfl, rfl, q _ (pr_set (pr_set (pr_set r e1 h1) e2 (by simpa using h2)) e3 (by simpa using h3)) (wipe_ext (by simp) fun l hl => ?_)⟩
  rw [List.getElem?_set_ne (fun e => hl (by rw [e]; simp)), List.getElem?_set_ne (fun e => hl (by rw [e]; simp)), List.getElem?_set_ne (fun e => hl (by rw [e]; simp))]
theorem free_three {n1 n2 n3 : Nat} (h1 : Γ[n1]? = some .un) (h2 : Γ[n2]? = some .un) (h3 : Γ[n3]? = some .un) : Free [n1, n2, n3] Γ := fun n hn s e => by
  simp only [List.mem_cons, List.not_mem_nil, or_false] at hn
  rcases hn with rfl | rfl | rfl
  · rw [h1] at e; exact (Option.some.inj e).symm
  · rw [h2] at e; exact (Option.some.inj e).symm
  · rw [h3] at e; exact (Option.some.inj e).symm
end
end FF

set_option Elab.async false
set_option linter.all false
set_option maxRecDepth 100000
set_option maxHeartbeats 2000000
namespace FF
open PySem PySem.Spec PyProof.Rows L2
/-! ### zip of a tuple and a list -/
section
variable {prog : Program} {w : World} {A : Around} {E : Value → Shared → Prop} {s : Shared}
/-- what stood at all places but these stands -/
abbrev Kp (ex : List Addr) (h h' : Heap) : Prop := ∀ c o, c ∉ ex → h.get? c = some o → h'.get? c = some o
theorem kp_in {ex ey : List Addr} {h h' : Heap} (k : Kp ex h h') (s : ∀ c ∈ ex, c ∈ ey) : Kp ey h h' := fun c o n e => k c o (fun q => n (s c q)) e
theorem kp_one {a : Addr} {h h' : Heap} (b : Heap.SameBut a h h') : Kp [a] h h' := fun c o n e => b.extBut _ _ (fun q => n (by rw [q]; exact List.mem_singleton.mpr rfl)) e
theorem kp_tr {ex : List Addr} {h1 h2 h3 : Heap} (a : Kp ex h1 h2) (b : Kp ex h2 h3) : Kp ex h1 h3 := fun c o n e => b c o n (a c o n e)
/-- one turn of zip, whatever it walks: x of the first, y of the second -/
theorem zip_turn {u t1 t2 j1 j2 l1 l2 : Addr} {x y a b : Value} {P1 P2 : Heap → Prop} {Q : Value → Shared → Prop} (D : ZipApart u t1 t2 j1 j2 l1 l2)
    (Z : IsZip s.heap u t1 t2 .none) (T : IsPair s.heap t1 (.ref j1) (.ref j2)) (O : IsPair s.heap t2 a b)
    (f1 : ∀ (A' : Around) (h : Heap) (E' : Value → Shared → Prop) (R : Value → Shared → Prop), Kp [u] s.heap h → (∀ h', Heap.SameBut j1 h h' → P1 h' → R x { s with heap := h' }) → wpAny (model prog w) A' (Builtin.SmallTypes.nextOf (.ref j1)) R E' { s with heap := h })
    (f2 : ∀ (A' : Around) (h : Heap) (E' : Value → Shared → Prop) (R : Value → Shared → Prop), Kp [u, t2, j1] s.heap h → (∀ h', Heap.SameBut j2 h h' → P2 h' → R y { s with heap := h' }) → wpAny (model prog w) A' (Builtin.SmallTypes.nextOf (.ref j2)) R E' { s with heap := h })
    (k1 : ∀ h h', P1 h → (∀ o, h.get? j1 = some o → h'.get? j1 = some o) → P1 h') (k2 : ∀ h h', P2 h → (∀ o, h.get? j2 = some o → h'.get? j2 = some o) → P2 h')
    (q : ∀ h', IsZip h' u t1 t2 (rawInt s.heap.objs.size) → IsPair h' t2 x y → P1 h' → P2 h' → IsPair h' s.heap.objs.size x y → h'.objs.size = s.heap.objs.size + 1 → Kp [u, t2, j1, j2] s.heap h' → Q (.ref s.heap.objs.size) { s with heap := h' }) :
    wpAny (model prog w) A (Builtin.«zip.__next__» ⟨[.ref u], []⟩) (fun fin r => ∃ v, fin = .done (.ret v) ∧ Q v r) E s := by
  show wpAny _ _ (field (.ref u) 2 >>= _) _ _ _; refine wpAny_bind (wpAny_field Z rfl (x := .bool false) rfl ?_)
  show wpAny _ _ (field (.ref u) 3 >>= _) _ _ _; refine wpAny_bind (wpAny_field Z rfl (x := .ref t1) rfl ?_)
  refine wpAny_bind (wpAny_seqItems T rfl ?_); show wpAny _ _ (Builtin.SmallTypes.ownedTupleIsFree (.ref u) >>= _) _ _ _
  refine wpAny_bind ?_; unfold Builtin.SmallTypes.ownedTupleIsFree
  refine wpAny_bind (wpAny_field Z rfl (x := .none) rfl (wpAny_pure ?_)); simp only [if_true]
  refine wpAny_bind (wpAny_rule ?_); refine wpAny_bind (wpAny_field Z rfl (x := .ref t2) rfl ?_)
  refine wpAny_bind (wpAny_setField_rec Z (by simp) fun g1 Z1 b1 => ?_)
  replace Z1 : IsZip g1 u t1 t2 .ellipsis := Z1
  refine wpAny_bind ?_; simp only [List.zipIdx_cons, List.zipIdx_nil, List.forIn_cons, List.forIn_nil]
  refine wpAny_bind (wpAny_bind (wpAny_onRaise ?_)); show wpAny _ _ (Builtin.SmallTypes.nextOf (.ref j1) >>= _) _ _ _
  refine wpAny_bind (f1 _ g1 _ _ (kp_one b1) fun g2 b2 p1 => wpAny_pure ?_)
  have O2 : IsPair g2 t2 a b := b2.extBut _ _ D.TOi1 (b1.extBut _ _ D.TOz O)
  refine wpAny_bind (wpAny_seqItems O2 rfl ?_); refine wpAny_bind (wpAny_updateSeq_pair O2 fun g3 O3 b3 => ?_)
  replace O3 : IsPair g3 t2 x b := O3
  refine wpAny_bind (wpAny_letGo (wpAny_pure ?_))
  refine wpAny_bind (wpAny_bind (wpAny_onRaise ?_)); show wpAny _ _ (Builtin.SmallTypes.nextOf (.ref j2) >>= _) _ _ _
  have e13 : Kp [u, t2, j1] s.heap g3 := kp_tr (kp_tr (kp_in (kp_one b1) (by simp)) (kp_in (kp_one b2) (by simp))) (kp_in (kp_one b3) (by simp))
  refine wpAny_bind (f2 _ g3 _ _ e13 fun g4 b4 p2 => wpAny_pure ?_)
  have O4 : IsPair g4 t2 x b := b4.extBut _ _ D.TOi2 O3
  refine wpAny_bind (wpAny_seqItems O4 rfl ?_); refine wpAny_bind (wpAny_updateSeq_pair O4 fun g5 O5 b5 => ?_)
  replace O5 : IsPair g5 t2 x y := O5
  refine wpAny_bind (wpAny_letGo (wpAny_pure (wpAny_pure ?_))); refine wpAny_bind (wpAny_seqItems O5 rfl ?_)
  refine wpAny_bind (wpAny_newTuple ?_)
  have z5 : g5.objs.size = s.heap.objs.size := by rw [b5.1, b4.1, b3.1, b2.1, b1.1]
  have Z5 : IsZip g5 u t1 t2 .ellipsis := b5.extBut _ _ D.TOz.symm (b4.extBut _ _ D.i2z.symm (b3.extBut _ _ D.TOz.symm (b2.extBut _ _ D.i1z.symm Z1)))
  have e15 : Kp [u, t2, j1, j2] s.heap g5 := kp_tr (kp_tr (kp_in e13 (by simp)) (kp_in (kp_one b4) (by simp))) (kp_in (kp_one b5) (by simp))
  have p15 : P1 g5 := k1 _ _ p1 fun o e => b5.extBut _ _ D.TOi1.symm (b4.extBut _ _ D.i12 (b3.extBut _ _ D.TOi1.symm e))
  have p25 : P2 g5 := k2 _ _ p2 fun o e => b5.extBut _ _ D.TOi2.symm e
  have ul : u < g5.objs.size := Heap.lt_size Z5
  show wpAny _ _ (Builtin.SmallTypes.ownedTupleHandOut (.ref u) (.ref g5.objs.size) >>= _) _ _ _
  refine wpAny_bind ?_; unfold Builtin.SmallTypes.ownedTupleHandOut
  have Z6 : IsZip (g5.push { cls := .type "tuple", data := .seq #[x, y] }) u t1 t2 .ellipsis := Heap.get?_push_of_some _ Z5
  refine wpAny_bind (wpAny_setField_rec Z6 (by simp) fun g7 Z7 b7 => ?_)
  replace Z7 : IsZip g7 u t1 t2 (rawInt g5.objs.size) := Z7
  refine wpAny_setField_rec Z7 (by simp) fun g8 Z8 b8 => ?_
  replace Z8 : IsZip g8 u t1 t2 (rawInt g5.objs.size) := Z8
  have up : ∀ c o, c ≠ u → g5.get? c = some o → g8.get? c = some o := fun c o n e => b8.extBut _ _ n (b7.extBut _ _ n (Heap.get?_push_of_some _ e))
  have N8 : IsPair g8 g5.objs.size x y := b8.extBut _ _ (Nat.ne_of_gt ul) (b7.extBut _ _ (Nat.ne_of_gt ul) (Heap.get?_push_size _ rfl))
  have z8 : g8.objs.size = g5.objs.size + 1 := by rw [b8.1, b7.1, Heap.size_push]
  rw [z5] at Z8 N8 z8
  refine wpAny_pure ⟨_, rfl, ?_⟩
  show Q (.ref g5.objs.size) _
  rw [z5]
  exact q g8 Z8 (up _ _ D.TOz O5) (k1 _ _ p15 fun o e => up _ o D.i1z e) (k2 _ _ p25 fun o e => up _ o D.i2z e) N8 z8 fun c o n e => up c o (fun z => n (by simp [z])) (e15 c o n e)
/-- zip is at its end: the first one's, or the second one's behind an item of the first -/
theorem zip_last {u t1 t2 j1 j2 l1 l2 : Addr} {a b : Value} {Q : PySem.Fin → Shared → Prop} (D : ZipApart u t1 t2 j1 j2 l1 l2)
    (Z : IsZip s.heap u t1 t2 .none) (T : IsPair s.heap t1 (.ref j1) (.ref j2)) (O : IsPair s.heap t2 a b)
    (f : (∀ (A' : Around) (h : Heap) (E' : Value → Shared → Prop) (R : Value → Shared → Prop), A'.handled = A.handled → Kp [u] s.heap h → (∀ h' e, Heap.ExtBut j1 h h' → (∃ o, h'.get? e = some o ∧ o.cls = .type "StopIteration") → E' (.ref e) { s with heap := h' }) → wpAny (model prog w) A' (Builtin.SmallTypes.nextOf (.ref j1)) R E' { s with heap := h }) ∨
      ((∃ x, ∀ (A' : Around) (h : Heap) (E' : Value → Shared → Prop) (R : Value → Shared → Prop), Kp [u] s.heap h → (∀ h', Heap.SameBut j1 h h' → R x { s with heap := h' }) → wpAny (model prog w) A' (Builtin.SmallTypes.nextOf (.ref j1)) R E' { s with heap := h }) ∧
       ∀ (A' : Around) (h : Heap) (E' : Value → Shared → Prop) (R : Value → Shared → Prop), A'.handled = A.handled → Kp [u, t2, j1] s.heap h → (∀ h' e, Heap.ExtBut j2 h h' → (∃ o, h'.get? e = some o ∧ o.cls = .type "StopIteration") → E' (.ref e) { s with heap := h' }) → wpAny (model prog w) A' (Builtin.SmallTypes.nextOf (.ref j2)) R E' { s with heap := h }))
    (q : ∀ h' e, Kp [u, t2, j1, j2] s.heap h' → (∃ o, h'.get? e = some o ∧ o.cls = .type "StopIteration") → E (.ref e) { s with heap := h' }) :
    wpAny (model prog w) A (Builtin.«zip.__next__» ⟨[.ref u], []⟩) Q E s := by
  show wpAny _ _ (field (.ref u) 2 >>= _) _ _ _; refine wpAny_bind (wpAny_field Z rfl (x := .bool false) rfl ?_)
  show wpAny _ _ (field (.ref u) 3 >>= _) _ _ _; refine wpAny_bind (wpAny_field Z rfl (x := .ref t1) rfl ?_)
  refine wpAny_bind (wpAny_seqItems T rfl ?_); show wpAny _ _ (Builtin.SmallTypes.ownedTupleIsFree (.ref u) >>= _) _ _ _
  refine wpAny_bind ?_; unfold Builtin.SmallTypes.ownedTupleIsFree
  refine wpAny_bind (wpAny_field Z rfl (x := .none) rfl (wpAny_pure ?_)); simp only [if_true]
  refine wpAny_bind (wpAny_rule ?_); refine wpAny_bind (wpAny_field Z rfl (x := .ref t2) rfl ?_)
  refine wpAny_bind (wpAny_setField_rec Z (by simp) fun g1 Z1 b1 => ?_)
  replace Z1 : IsZip g1 u t1 t2 .ellipsis := Z1
  refine wpAny_bind ?_; simp only [List.zipIdx_cons, List.zipIdx_nil, List.forIn_cons, List.forIn_nil]
  refine wpAny_bind (wpAny_bind (wpAny_onRaise ?_)); show wpAny _ _ (Builtin.SmallTypes.nextOf (.ref j1) >>= _) _ _ _
  rcases f with f | ⟨⟨x, f1⟩, f2⟩
  · refine wpAny_bind (f _ g1 _ _ (by first | rfl | exact (rfl : A.in1.handled = A.handled)) (kp_one b1) fun g2 e b2 he => ?_)
    obtain ⟨oe, hoe, hce⟩ := he
    have Z2 : IsZip g2 u t1 t2 .ellipsis := b2 _ _ D.i1z.symm Z1
    have eu : e ≠ u := fun z => by subst z; rw [Z2] at hoe; cases hoe; simp at hce
    refine wpAny_setField_rec Z2 (by simp) fun g3 _ b3 => q g3 e (fun c o n z => ?_) ⟨oe, b3.extBut _ _ eu hoe, hce⟩
    simp only [List.mem_cons, List.not_mem_nil, or_false, not_or] at n
    exact b3.extBut _ _ n.1 (b2 _ _ n.2.2.1 (b1.extBut _ _ n.1 z))
  · refine wpAny_bind (f1 _ g1 _ _ (kp_one b1) fun g2 b2 => wpAny_pure ?_)
    have O2 : IsPair g2 t2 a b := b2.extBut _ _ D.TOi1 (b1.extBut _ _ D.TOz O)
    refine wpAny_bind (wpAny_seqItems O2 rfl ?_); refine wpAny_bind (wpAny_updateSeq_pair O2 fun g3 O3 b3 => ?_)
    refine wpAny_bind (wpAny_letGo (wpAny_pure ?_))
    refine wpAny_bind (wpAny_bind (wpAny_onRaise ?_)); show wpAny _ _ (Builtin.SmallTypes.nextOf (.ref j2) >>= _) _ _ _
    have e13 : Kp [u, t2, j1] s.heap g3 := kp_tr (kp_tr (kp_in (kp_one b1) (by simp)) (kp_in (kp_one b2) (by simp))) (kp_in (kp_one b3) (by simp))
    refine wpAny_bind (f2 _ g3 _ _ (by first | rfl | exact (rfl : A.in1.handled = A.handled)) e13 fun g4 e b4 he => ?_)
    obtain ⟨oe, hoe, hce⟩ := he
    have Z4 : IsZip g4 u t1 t2 .ellipsis := b4 _ _ D.i2z.symm (b3.extBut _ _ D.TOz.symm (b2.extBut _ _ D.i1z.symm Z1))
    have eu : e ≠ u := fun z => by subst z; rw [Z4] at hoe; cases hoe; simp at hce
    refine wpAny_setField_rec Z4 (by simp) fun g5 _ b5 => q g5 e (fun c o n z => ?_) ⟨oe, b5.extBut _ _ eu hoe, hce⟩
    simp only [List.mem_cons, List.not_mem_nil, or_false, not_or] at n
    exact b5.extBut _ _ n.1 (b4 _ _ n.2.2.2 (e13 c o (by simp [n.1, n.2.1, n.2.2.1]) z))
end
section
variable {prog : Program} {w : World} {A : Around} {E : Value → Shared → Prop} {s : Shared}
theorem next_zipM {u t1 t2 j1 j2 l1 l2 : Addr} {k : Nat} {xs ys : Array Value} {x y a b : Value} {Q : Option Value → Shared → Prop} (D : ZipApart u t1 t2 j1 j2 l1 l2)
    (Z : IsZip s.heap u t1 t2 .none) (T : IsPair s.heap t1 (.ref j1) (.ref j2)) (O : IsPair s.heap t2 a b) (i1 : s.heap.IsTupleIter j1 l1 k) (i2 : s.heap.IsListIter j2 l2 k) (m1 : s.heap.IsTuple l1 xs) (m2 : s.heap.IsList l2 ys) (hx : xs[k]? = some x) (hy : ys[k]? = some y)
    (q : ∀ h', IsZip h' u t1 t2 (rawInt s.heap.objs.size) → IsPair h' t2 x y → h'.IsTupleIter j1 l1 (k + 1) → h'.IsListIter j2 l2 (k + 1) → IsPair h' s.heap.objs.size x y → h'.objs.size = s.heap.objs.size + 1 → Kp [u, t2, j1, j2] s.heap h' → Q (some (.ref s.heap.objs.size)) { s with heap := h' }) :
    wpAny (model prog w) A (pyNext (.ref u)) Q E s := by
  have ty : s.TypeIs (.ref u) "zip" := ⟨_, Z, rfl⟩
  unfold pyNext
  refine wpAny_bind (wpAny_attempt (wpAny_callSpecial?_slot (name := Str.ofString "__next__") ty F.slot_zip_next (wpAny_call_entry F.slot_zip_next ty F.entry_zip_next ?_ (F.args_zip_next_1 _))))
  refine zip_turn (x := x) (y := y) (P1 := fun h => h.IsTupleIter j1 l1 (k + 1)) (P2 := fun h => h.IsListIter j2 l2 (k + 1)) D Z T O (fun A' h E' R e f => ?_) (fun A' h E' R e f => ?_) (fun h h' p e => p.at fun o => e o) (fun h h' p e => p.at fun o => e o) fun h' a1 a2 a3 a4 a5 a6 a7 => wpAny_pure (q h' a1 a2 a3 a4 a5 a6 a7)
  · exact RZ.nextOf_tuple_item (s := { s with heap := h }) (i1.at fun o => e j1 o (by simp [D.i1z])) (m1.at fun o => e l1 o (by simp [D.l1z])) hx fun h' p sb => f h' sb p
  · exact wpAny_nextOf_list_item (s := { s with heap := h }) (i2.at fun o => e j2 o (by simp [D.i2z, D.TOi2.symm, D.i12.symm])) (m2.at fun o => e l2 o (by simp [D.l2z, D.l2TO, D.l2i1])) hy fun h' p sb => f h' sb p
theorem last_zipM {u t1 t2 j1 j2 l1 l2 : Addr} {k : Nat} {xs ys : Array Value} {a b : Value} {Q : Option Value → Shared → Prop} (hh : A.handled = none) (D : ZipApart u t1 t2 j1 j2 l1 l2)
    (Z : IsZip s.heap u t1 t2 .none) (T : IsPair s.heap t1 (.ref j1) (.ref j2)) (O : IsPair s.heap t2 a b) (i1 : s.heap.IsTupleIter j1 l1 k) (i2 : s.heap.IsListIter j2 l2 k) (m1 : s.heap.IsTuple l1 xs) (m2 : s.heap.IsList l2 ys) (hend : xs[k]? = none ∨ ys[k]? = none)
    (q : ∀ h', Kp [u, t2, j1, j2] s.heap h' → Q none { s with heap := h' }) : wpAny (model prog w) A (pyNext (.ref u)) Q E s := by
  have ty : s.TypeIs (.ref u) "zip" := ⟨_, Z, rfl⟩
  unfold pyNext
  refine wpAny_bind (wpAny_attempt (wpAny_callSpecial?_slot (name := Str.ofString "__next__") ty F.slot_zip_next (wpAny_call_entry F.slot_zip_next ty F.entry_zip_next (zip_last D Z T O ?_ fun h' e kp ho => ?_) (F.args_zip_next_1 _))))
  · have u1 : ∀ h, Kp [u] s.heap h → Heap.IsTupleIter h j1 l1 k ∧ Heap.IsTuple h l1 xs := fun h e => ⟨i1.at fun o => e j1 o (by simp [D.i1z]), m1.at fun o => e l1 o (by simp [D.l1z])⟩
    have u2 : ∀ h, Kp [u, t2, j1] s.heap h → Heap.IsListIter h j2 l2 k ∧ Heap.IsList h l2 ys := fun h e => ⟨i2.at fun o => e j2 o (by simp [D.i2z, D.TOi2.symm, D.i12.symm]), m2.at fun o => e l2 o (by simp [D.l2z, D.l2TO, D.l2i1])⟩
    cases hx : xs[k]? with
    | none => exact .inl fun A' h E' R ha e f => RZ.nextOf_tuple_end (s := { s with heap := h }) (ha.trans hh) (u1 h e).1 (u1 h e).2 hx f
    | some x =>
      have hy : ys[k]? = none := hend.elim (fun z => by rw [hx] at z; cases z) id
      exact .inr ⟨⟨x, fun A' h E' R e f => RZ.nextOf_tuple_item (s := { s with heap := h }) (u1 h e).1 (u1 h e).2 hx fun h' _ sb => f h' sb⟩, fun A' h E' R ha e f => wpAny_nextOf_list_end (s := { s with heap := h }) (ha.trans hh) (u2 h e).1 (u2 h e).2 hy f⟩
  · obtain ⟨o, e1, e2⟩ := ho
    exact wpAny_bind (wpAny_isInstance (T := "StopIteration") (b := true) ⟨o, e1, e2⟩ isSubtype_stop (wpAny_pure (q _ kp)))
end
/-- the tuple at a and the list at b, an item of each in a new pair -/
def ItzM (K : Kf) (a b : Addr) : It :=
  ⟨fun k H => ∃ (xs ys : List V) (x y : V), SqT K H a xs ∧ SqL K H b ys ∧ xs[k]? = some x ∧ ys[k]? = some y,
   fun k H v H' => ∃ T x y, v = .ref T ∧ H T = none ∧ H' = upd H T (.tup [x, y]) ∧ (∀ xs, SqT K H a xs → xs[k]? = some x) ∧ ∀ ys, SqL K H b ys → ys[k]? = some y,
   fun k H => ∃ xs ys : List V, SqT K H a xs ∧ SqL K H b ys ∧ (xs.length ≤ k ∨ ys.length ≤ k)⟩
theorem five_in {c u t1 t2 j1 j2 : Addr} (h : c ∈ [u, t1, t2, j1, j2]) : c = u ∨ c = t1 ∨ c = t2 ∨ c = j1 ∨ c = j2 := by simpa using h
theorem turn_zipM {P : Program} {w : World} {K : Kf} {elts : List Expr} {kk : Nat} {tpos : Pos} {a b u t1 t2 j1 j2 : Addr} (D : ZipApart u t1 t2 j1 j2 a b) :
    Turn P w K (.Tuple elts kk tpos) (ItzM K a b) [u, t1, t2, j1, j2] u (fun k h => IsZip h u t1 t2 .none ∧ IsPair h t1 (.ref j1) (.ref j2) ∧ (∃ x y, IsPair h t2 x y) ∧ h.IsTupleIter j1 a k ∧ h.IsListIter j2 b k) where
  mem := by simp
  obj := fun k h ⟨Z, T, ⟨x, y, O⟩, ⟨o1, e1, _, d1⟩, ⟨o2, e2, _, d2⟩⟩ c hc => by
    rcases five_in hc with rfl | rfl | rfl | rfl | rfl
    · exact ⟨_, Z, fun _ z => nomatch z⟩
    · exact ⟨_, T, fun _ z => nomatch z⟩
    · exact ⟨_, O, fun _ z => nomatch z⟩
    · exact ⟨o1, e1, fun _ z => by rw [d1] at z; cases z⟩
    · exact ⟨o2, e2, fun _ z => by rw [d2] at z; cases z⟩
  keep := fun k h h' ⟨Z, T, ⟨x, y, O⟩, i1, i2⟩ e => ⟨e u (by simp) _ Z, e t1 (by simp) _ T, ⟨x, y, e t2 (by simp) _ O⟩, i1.at fun o => e j1 (by simp) o, i2.at fun o => e j2 (by simp) o⟩
  item := by
    intro X hP hw hK hc k pins s σ H E I hf ⟨Z, T, ⟨x0, y0, O⟩, i1, i2⟩ ⟨xs, ys, x, y, qx, qy, hx, hy⟩
    subst hP hw hK
    obtain ⟨vx, rx, m1, _⟩ := I.tuple qx
    obtain ⟨vy, ry, m2, _⟩ := I.list qy
    obtain ⟨p1, e1, r1⟩ := rx.get hx
    obtain ⟨p2, e2, r2⟩ := ry.get hy
    have lt : ∀ c ∈ [u, t1, t2, j1, j2], c < s.heap.objs.size := fun c hc => by
      rcases five_in hc with rfl | rfl | rfl | rfl | rfl
      · exact Heap.lt_size Z
      · exact Heap.lt_size T
      · exact Heap.lt_size O
      · obtain ⟨_, z, _⟩ := i1; exact Heap.lt_size z
      · obtain ⟨_, z, _⟩ := i2; exact Heap.lt_size z
    have ul := lt u (by simp)
    refine next_zipM D Z T O i1 i2 (show s.heap.IsTuple a vx.toArray from m1) m2.isList (by simpa using e1) (by simpa using e2) fun g Z1 O1 n1 n2 N1 _ kp => ⟨_, rfl, wpAny_letOwnedTupleGo_zip (s := { s with heap := g }) Z1 fun g2 Z2 sb => ?_⟩
    have N2 : g2.get? s.heap.objs.size = some { cls := .type "tuple", data := .seq #[p1, p2] } := (sb.2 _ (Nat.ne_of_gt ul)).trans N1
    have I1 : Inv X pins σ (upd H s.heap.objs.size (.tup [x, y])) { s with heap := g2 } :=
      I.turnedNew (t' := s.toks) (ch := [u, t1, t2, j1, j2]) (fun c o hb z => (sb.2 c (fun z' => hb (by simp [z']))).trans (kp c o (fun z' => hb (by simp only [List.mem_cons, List.not_mem_nil, or_false] at z' ⊢; rcases z' with z' | z' | z' | z' <;> simp [z'])) z)) hf (Nat.le_refl _)
        ⟨by show 2 ≤ sizeLine; decide, [p1, p2], .cons r1 (.cons r2 .nil), ⟨_, N2, rfl, _, rfl⟩⟩
    refine ⟨.ref s.heap.objs.size, _, I1, rfl, ⟨_, x, y, rfl, I.hok.fresh (Nat.le_refl _), rfl, fun l hl => by rw [I.tuple_inj hl qx]; exact hx, fun l hl => by rw [I.list_inj hl qy]; exact hy⟩, ⟨Z2, ?_, ⟨p1, p2, (sb.2 _ D.TOz).trans O1⟩, n1.at fun o z => (sb.2 _ D.i1z).trans z, n2.at fun o z => (sb.2 _ D.i2z).trans z⟩, fun c hc => ?_⟩
    · exact (sb.2 _ D.TIz).trans (kp _ _ (by simp [D.TIz, D.TITO, D.TIi1, D.TIi2]) T)
    · rw [upd_ne (Nat.ne_of_lt (lt c hc))]
      exact (hf c hc).1
  done := by
    intro X hP hw hK hc k pins s σ H E I hf ⟨Z, T, ⟨x0, y0, O⟩, i1, i2⟩ ⟨xs, ys, qx, qy, hend⟩
    subst hP hw hK
    obtain ⟨vx, rx, m1, _⟩ := I.tuple qx
    obtain ⟨vy, ry, m2, _⟩ := I.list qy
    have h1 := rx.length
    have h2 := ry.length
    refine last_zipM (I.ok.hd hc) D Z T O i1 i2 (show s.heap.IsTuple a vx.toArray from m1) m2.isList (hend.imp (fun z => by simp; omega) fun z => by simp; omega) fun g kp => ⟨rfl, ?_⟩
    exact I.turnedL (t' := s.toks) (ch := [u, t1, t2, j1, j2]) (fun c o hb z => kp c o (fun z' => hb (by simp only [List.mem_cons, List.not_mem_nil, or_false] at z' ⊢; rcases z' with z' | z' | z' | z' <;> simp [z'])) z) hf
  self := fun A k s Q E st h => wpAny_pyIter_zip st.1 h
section
variable {prog : Program} {w : World} {A : Around} {E : Value → Shared → Prop} {s : Shared}
abbrev zM1 (h : Heap) (l1 : Addr) : Heap := h.push { cls := .type "tuple_iterator", data := .fields #[.ref l1, .int 0 0] }
abbrev zM2 (h : Heap) (l1 l2 : Addr) : Heap := (zM1 h l1).push { cls := .type "list_iterator", data := .fields #[.ref l2, .int 0 0] }
abbrev zM3 (h : Heap) (l1 l2 : Addr) : Heap := (zM2 h l1 l2).push { cls := .type "tuple", data := .seq #[.ref h.objs.size, .ref (zM1 h l1).objs.size] }
abbrev zM4 (h : Heap) (l1 l2 : Addr) : Heap := (zM3 h l1 l2).push { cls := .type "tuple", data := .seq #[.none, .none] }
abbrev zM5 (h : Heap) (l1 l2 : Addr) : Heap := (zM4 h l1 l2).push { cls := .type "zip", data := .fields #[.none, .bool false, .bool false, .ref (zM2 h l1 l2).objs.size, .ref (zM3 h l1 l2).objs.size] }
theorem meets_zipM (l1 l2 : Addr) (xs ys : Array Value) :
    Meets (Builtin.«zip.__new__» ⟨[.type "zip", .ref l1, .ref l2], []⟩) (fun _ R r => r.heap.IsTuple l1 xs ∧ r.heap.IsList l2 ys ∧ R (.ok (.ret (.ref (zM4 r.heap l1 l2).objs.size))) { r with heap := zM5 r.heap l1 l2 }) :=
  .of_wp fun prog w A R r h => by
    obtain ⟨hp, g, d, tk, os⟩ := r
    obtain ⟨m1, m2, h⟩ := h
    have hsub := sub_zip
    have L1 : Heap.IsTuple (Shared.heap ⟨hp, g, d, tk, os⟩) l1 xs := m1
    have L2 : Heap.IsList (Shared.heap ⟨hp.push { cls := .type "tuple_iterator", data := .fields #[.ref l1, .int 0 0] }, g, d, tk, os⟩) l2 ys := Heap.IsList.push m2 _
    wp_walk using wpAny_pyIter_tuple L1, wpAny_pyIter_list L2
    exact ⟨_, rfl, h⟩
theorem call_zipM {l1 l2 : Addr} {xs ys : Array Value} {Q : Value → Shared → Prop} (m1 : s.heap.IsTuple l1 xs) (m2 : s.heap.IsList l2 ys)
    (q : ∀ g, let n := s.heap.objs.size; IsZip g (n + 4) (n + 2) (n + 3) .none → IsPair g (n + 2) (.ref n) (.ref (n + 1)) → IsPair g (n + 3) .none .none → g.IsTupleIter n l1 0 → g.IsListIter (n + 1) l2 0 → Kp [] s.heap g → Q (.ref (n + 4)) { s with heap := g }) :
    wpAny (model prog w) A (call (.type "zip") [.ref l1, .ref l2]) Q E s := by
  refine callType_new F.called_zip (by decide) (F.typeCall_zip_2 _ _) (F.newCall_zip_2 _ _) (fun obj => F.args_object_init_3 obj _ _) F.entry_zip_new (meets_zipM l1 l2 xs ys) ⟨m1, m2, ?_⟩
  have n1 : (zM1 s.heap l1).objs.size = s.heap.objs.size + 1 := Heap.size_push ..
  have n2 : (zM2 s.heap l1 l2).objs.size = s.heap.objs.size + 2 := by rw [Heap.size_push, n1]
  have n3 : (zM3 s.heap l1 l2).objs.size = s.heap.objs.size + 3 := by rw [Heap.size_push, n2]
  have n4 : (zM4 s.heap l1 l2).objs.size = s.heap.objs.size + 4 := by rw [Heap.size_push, n3]
  have up4 : ∀ {c o}, (zM4 s.heap l1 l2).get? c = some o → (zM5 s.heap l1 l2).get? c = some o := fun e => Heap.get?_push_of_some _ e
  have up3 : ∀ {c o}, (zM3 s.heap l1 l2).get? c = some o → (zM5 s.heap l1 l2).get? c = some o := fun e => up4 (Heap.get?_push_of_some _ e)
  have up2 : ∀ {c o}, (zM2 s.heap l1 l2).get? c = some o → (zM5 s.heap l1 l2).get? c = some o := fun e => up3 (Heap.get?_push_of_some _ e)
  have up1 : ∀ {c o}, (zM1 s.heap l1).get? c = some o → (zM5 s.heap l1 l2).get? c = some o := fun e => up2 (Heap.get?_push_of_some _ e)
  have v5 : (zM5 s.heap l1 l2).get? (zM4 s.heap l1 l2).objs.size = some _ := Heap.get?_push_size _ rfl
  have v4 : (zM5 s.heap l1 l2).get? (zM3 s.heap l1 l2).objs.size = some _ := up4 (Heap.get?_push_size _ rfl)
  have v3 : (zM5 s.heap l1 l2).get? (zM2 s.heap l1 l2).objs.size = some _ := up3 (Heap.get?_push_size _ rfl)
  have v2 : (zM5 s.heap l1 l2).get? (zM1 s.heap l1).objs.size = some _ := up2 (Heap.get?_push_size _ rfl)
  have v1 : (zM5 s.heap l1 l2).get? s.heap.objs.size = some _ := up1 (Heap.get?_push_size _ rfl)
  rw [n4, n2, n3] at v5
  rw [n3] at v4
  rw [n2, n1] at v3
  rw [n1] at v2
  show _ ∧ _
  rw [n4]
  exact ⟨⟨_, v5, rfl⟩, q _ v5 v3 v4 ⟨_, v1, rfl, rfl⟩ ⟨_, v2, rfl, rfl⟩ fun c o _ e => up1 (Heap.get?_push_of_some _ e)⟩
end
end FF

set_option Elab.async false
set_option linter.all false
set_option maxRecDepth 100000
set_option maxHeartbeats 2000000
namespace FF
open PySem PySem.Spec PyProof.Rows L2
/-! ### for x, y in zip(xs, ys): xs a list or a tuple, ys a list -/
def iZipS (K : Kf) (ta : TA) : TI := fun σ H R => ta σ H fun vs H1 => ∃ a b xs ys, vs = [.ref a, .ref b] ∧ SqL K H1 b ys ∧ ((SqL K H1 a xs ∧ R (Itz K a b) H1) ∨ (SqT K H1 a xs ∧ R (ItzM K a b) H1))
theorem pi_zipS {X : Cx} {e e2 : Expr} {ta : TA} {p pos tpos : Pos} {elts : List Expr} {kk : Nat} (hg : Gl X "zip") (hm : X.mg "zip" = none) (ha : PA X [e, e2] ta)
    (hs : starEach [e, e2] X.env = (false, eval e X.env) :: starEach [e2] X.env := by rfl) (hpl : (backTo pos (starEach [e2] X.env)).any (·.1) = false := by rfl) : PI X (.Tuple elts kk tpos) (.Call (.Name "zip" p) [e, e2] [] pos) (iZipS X.K ta) := ⟨fun pins s σ H R I h => by
  refine Call_ (ld_blt I hg hm PyProof.Rows.boot_zip (PyProof.Rows.callWith_type1 (thn (ha.run pos pins s σ H _ I h) fun us s1 ⟨vs, H1, I1, r1, q1⟩ => ?_) hs hpl))
  obtain ⟨a, b, xs, ys, rfl, qy, q1⟩ := q1
  cases r1 with | cons r rr => cases rr with | cons r' rr => cases rr with | nil =>
  cases r
  cases r'
  obtain ⟨vy, ry, m2, _⟩ := I1.list qy
  have fr : ∀ c ∈ [s1.heap.objs.size + 4, s1.heap.objs.size + 2, s1.heap.objs.size + 3, s1.heap.objs.size, s1.heap.objs.size + 1], FpOk X pins H1 c := fun c hc => by
    have le : s1.heap.objs.size ≤ c := by
      rcases five_in hc with rfl | rfl | rfl | rfl | rfl <;> first | exact Nat.le_refl _ | exact Nat.le_add_right _ _
    exact I1.fpOk le (I1.hok.fresh le)
  rcases q1 with ⟨qx, q⟩ | ⟨qx, q⟩
  · obtain ⟨vx, rx, m1, _⟩ := I1.list qx
    refine call_zip_2 m1.isList m2.isList fun g Z T O i1 i2 _ kp => wpAny_pyIter_zip Z ?_
    exact ⟨_, [s1.heap.objs.size + 4, s1.heap.objs.size + 2, s1.heap.objs.size + 3, s1.heap.objs.size, s1.heap.objs.size + 1], _, _, H1, rfl, I1.kept (t' := s1.toks) kp, turn_zip (PySem.W.ktu_apart s1.heap.objs.size a b m1.lt m2.lt), ⟨Z, T, ⟨_, _, O⟩, i1, i2⟩, fr, q⟩
  · obtain ⟨vx, rx, m1, _⟩ := I1.tuple qx
    obtain ⟨o1, e1, _⟩ := id m1
    refine call_zipM (show s1.heap.IsTuple a vx.toArray from m1) m2.isList fun g Z T O i1 i2 kp => wpAny_pyIter_zip Z ?_
    exact ⟨_, [s1.heap.objs.size + 4, s1.heap.objs.size + 2, s1.heap.objs.size + 3, s1.heap.objs.size, s1.heap.objs.size + 1], _, _, H1, rfl, I1.kept (t' := s1.toks) (fun c o z => kp c o (by simp) z), turn_zipM (PySem.W.ktu_apart s1.heap.objs.size a b (Heap.lt_size e1) m2.lt), ⟨Z, T, ⟨_, _, O⟩, i1, i2⟩, fr, q⟩⟩
section
variable {K : Kf} {m : Bool} {Γ Γ1 : List Sl} {α β : Type} [i : Rp α] [j : Rp β]
theorem zip_at {xs : List α} {ys : List β} {n : Nat} {z : α × β} (h : (xs.zip ys)[n]? = some z) : xs[n]? = some z.1 ∧ ys[n]? = some z.2 := by
  obtain ⟨h1, h2⟩ := List.getElem?_zip_eq_some.mp h
  exact ⟨h1, h2⟩
theorem pair_new {H2 H2' : Hp} {u w : V} {z : α × β} {T : Addr} (s3 : Same H2 H2') (hT : H2' T = none) (e1 : i.rep K H2 u z.1) (e2 : j.rep K H2 w z.2) (Fb : Hp) : Yl K true Fb H2 H2' (inferInstance : Rp (α × β)) z (.ref T) (upd H2' T (.tup [u, w])) := by
  have h2 : H2 T = none := Same.free s3 hT
  have s4 : Same H2 (upd H2 T (HO.tup [u, w])) := fun b o e => by rw [upd_ne (ne_of_none e h2)]; exact e
  exact .inr ⟨T, .tup [u, w], hT, rfl, T, u, w, rfl, .inl (.inl upd_same), i.mono s4 e1, j.mono s4 e2⟩
theorem zipL_go {a b : Addr} {vs ws : List V} {xs : List α} {ys : List β} {H2 H2' : Hp} (h1 : SqL K H2' a vs) (h2 : SqL K H2' b ws) (s3 : Same H2 H2') (p1 : Prd (i.rep K H2) vs xs) (p2 : Prd (j.rep K H2) ws ys) {n : Nat} (hn : n ≤ (xs.zip ys).length) (Fb : Hp) :
    (n = (xs.zip ys).length → (Itz K a b).stop n H2') ∧ (∀ z, (xs.zip ys)[n]? = some z → (Itz K a b).go n H2' ∧ ∀ v H3, (Itz K a b).yld n H2' v H3 → Yl K true Fb H2 H2' (inferInstance : Rp (α × β)) z v H3) := by
  have l1 := prd_len p1
  have l2 := prd_len p2
  refine ⟨fun e => ⟨vs, ws, h1, h2, by rw [List.length_zip] at e; omega⟩, fun z hz => ?_⟩
  obtain ⟨hx, hy⟩ := zip_at hz
  obtain ⟨u, e1, f1⟩ := prd_get p1 hx
  obtain ⟨w, e2, f2⟩ := prd_get p2 hy
  refine ⟨⟨vs, ws, u, w, h1, h2, e1, e2⟩, fun v H3 y => ?_⟩
  obtain ⟨T, x, y', rfl, hT, rfl, g1, g2⟩ := y
  have k1 := g1 vs h1
  have k2 := g2 ws h2
  rw [e1] at k1
  rw [e2] at k2
  cases k1
  cases k2
  exact pair_new s3 hT f1 f2 Fb
theorem zipM_go {a b : Addr} {vs ws : List V} {xs : List α} {ys : List β} {H2 H2' : Hp} (h1 : SqT K H2' a vs) (h2 : SqL K H2' b ws) (s3 : Same H2 H2') (p1 : Prd (i.rep K H2) vs xs) (p2 : Prd (j.rep K H2) ws ys) {n : Nat} (hn : n ≤ (xs.zip ys).length) (Fb : Hp) :
    (n = (xs.zip ys).length → (ItzM K a b).stop n H2') ∧ (∀ z, (xs.zip ys)[n]? = some z → (ItzM K a b).go n H2' ∧ ∀ v H3, (ItzM K a b).yld n H2' v H3 → Yl K true Fb H2 H2' (inferInstance : Rp (α × β)) z v H3) := by
  have l1 := prd_len p1
  have l2 := prd_len p2
  refine ⟨fun e => ⟨vs, ws, h1, h2, by rw [List.length_zip] at e; omega⟩, fun z hz => ?_⟩
  obtain ⟨hx, hy⟩ := zip_at hz
  obtain ⟨u, e1, f1⟩ := prd_get p1 hx
  obtain ⟨w, e2, f2⟩ := prd_get p2 hy
  refine ⟨⟨vs, ws, u, w, h1, h2, e1, e2⟩, fun v H3 y => ?_⟩
  obtain ⟨T, x, y', rfl, hT, rfl, g1, g2⟩ := y
  have k1 := g1 vs h1
  have k2 := g2 ws h2
  rw [e1] at k1
  rw [e2] at k2
  cases k1
  cases k2
  exact pair_new s3 hT f1 f2 Fb
theorem w_zipT {xs : Tu α} {ys : List β} {ta : TA} (h : A K m ta Γ Γ1 [ap xs, ap ys]) : Wlk K true m (iZipS K ta) Γ Γ1 (inferInstance : Rp (α × β)) (xs.l.zip ys) := fun F I H0 H σ r R q =>
  h F I H0 H σ r _ fun ws H1 H1' r1 a1 b1 c1 => by
    cases c1 with | cons z1 c1 => cases c1 with | cons z2 c1 => cases c1 with | nil =>
    obtain ⟨a, vs, rfl, hs, hp⟩ := z1
    obtain ⟨b, us, rfl, ht, hq⟩ := z2
    refine ⟨a, b, vs, us, rfl, SqL.of (r1.h _ _ ht), .inr ⟨same_t r1.h hs, q (ItzM K a b) H1 H1' r1 a1 b1 fun n H2 H2' s2 s3 _ hn => ?_⟩⟩
    exact zipM_go (same_t (s2.trans s3) hs) (SqL.of ((s2.trans s3) _ _ ht)) s3 (prd_mono (fun _ _ z => i.mono s2 z) hp) (prd_mono (fun _ _ z => j.mono s2 z) hq) hn F.b
theorem w_zipL {xs : List α} {ys : List β} {ta : TA} (h : A K m ta Γ Γ1 [ap xs, ap ys]) : Wlk K true m (iZipS K ta) Γ Γ1 (inferInstance : Rp (α × β)) (xs.zip ys) := fun F I H0 H σ r R q =>
  h F I H0 H σ r _ fun ws H1 H1' r1 a1 b1 c1 => by
    cases c1 with | cons z1 c1 => cases c1 with | cons z2 c1 => cases c1 with | nil =>
    obtain ⟨a, vs, rfl, hs, hp⟩ := z1
    obtain ⟨b, us, rfl, ht, hq⟩ := z2
    refine ⟨a, b, vs, us, rfl, SqL.of (r1.h _ _ ht), .inl ⟨SqL.of (r1.h _ _ hs), q (Itz K a b) H1 H1' r1 a1 b1 fun n H2 H2' s2 s3 _ hn => ?_⟩⟩
    exact zipL_go (SqL.of ((s2.trans s3) _ _ hs)) (SqL.of ((s2.trans s3) _ _ ht)) s3 (prd_mono (fun _ _ z => i.mono s2 z) hp) (prd_mono (fun _ _ z => j.mono s2 z) hq) hn F.b
theorem w_zipS {xs : Sq α} {ys : List β} {ta : TA} (h : A K m ta Γ Γ1 [ap xs, ap ys]) : Wlk K true m (iZipS K ta) Γ Γ1 (inferInstance : Rp (α × β)) (xs.l.zip ys) := fun F I H0 H σ r R q =>
  h F I H0 H σ r _ fun ws H1 H1' r1 a1 b1 c1 => by
    cases c1 with | cons z1 c1 => cases c1 with | cons z2 c1 => cases c1 with | nil =>
    obtain ⟨a, vs, rfl, hs, hp⟩ := z1
    obtain ⟨b, us, rfl, ht, hq⟩ := z2
    refine ⟨a, b, vs, us, rfl, SqL.of (r1.h _ _ ht), ?_⟩
    rcases hs with hs | hs
    · refine .inl ⟨r1.h.seq hs, q (Itz K a b) H1 H1' r1 a1 b1 fun n H2 H2' s2 s3 _ hn => ?_⟩
      exact zipL_go ((s2.trans s3).seq hs) (SqL.of ((s2.trans s3) _ _ ht)) s3 (prd_mono (fun _ _ z => i.mono s2 z) hp) (prd_mono (fun _ _ z => j.mono s2 z) hq) hn F.b
    · refine .inr ⟨same_t r1.h hs, q (ItzM K a b) H1 H1' r1 a1 b1 fun n H2 H2' s2 s3 _ hn => ?_⟩
      exact zipM_go (same_t (s2.trans s3) hs) (SqL.of ((s2.trans s3) _ _ ht)) s3 (prd_mono (fun _ _ z => i.mono s2 z) hp) (prd_mono (fun _ _ z => j.mono s2 z) hq) hn F.b
end
end FF

set_option Elab.async false
set_option linter.all false
set_option maxRecDepth 100000
set_option maxHeartbeats 2000000
namespace FF
open PySem L2
/-! ### a list of lists of one's own stands still while a call is asked that changes nothing -/
def FnP {α : Type} (i : Rp α) : Prop := ∀ (K : Kf) (H H' : Hp) (v : V) (x : α), (∀ b o, H b = some o → (∀ vs, o ≠ .lst vs) → H' b = some o) → i.rep K H v x → i.rep K H' v x
class Fn (α : Type) [i : Rp α] : Prop where
  p : FnP i
theorem Fn.fn {α : Type} [i : Rp α] [f : Fn α] {K : Kf} {H H' : Hp} {v : V} {x : α} (s : ∀ b o, H b = some o → (∀ vs, o ≠ .lst vs) → H' b = some o) (h : i.rep K H v x) : i.rep K H' v x := f.p K H H' v x s h
theorem sqt_fn {K : Kf} {H H' : Hp} {a : Addr} {us : List V} (s : ∀ b o, H b = some o → (∀ vs, o ≠ .lst vs) → H' b = some o) (h : SqT K H a us) : SqT K H' a us := by
  rcases h with (h | ⟨o, h⟩) | h
  · exact .inl (.inl (s _ _ h (by simp)))
  · exact .inl (.inr ⟨o, s _ _ h (by simp)⟩)
  · exact .inr h
instance {α : Type} [i : Rp α] [s : Sc α] : Fn α := ⟨fun _ _ _ _ _ _ h => s.any h⟩
instance {α : Type} [i : Rp α] [f : Fn α] : Fn (Tu α) := ⟨fun _ _ _ _ _ s ⟨a, us, e, h, p⟩ => ⟨a, us, e, sqt_fn s h, prd_mono (fun _ _ r => Fn.fn s r) p⟩⟩
instance {α β : Type} [i : Rp α] [j : Rp β] [Fn α] [Fn β] : Fn (α × β) := ⟨fun _ _ _ _ _ s ⟨a, u, w, e, h, p, q⟩ => ⟨a, u, w, e, sqt_fn s h, Fn.fn s p, Fn.fn s q⟩⟩
instance {α β γ : Type} [i : Rp α] [j : Rp β] [k : Rp γ] [Fn α] [Fn β] [Fn γ] : Fn (T3 α β γ) := ⟨fun _ _ _ _ _ s ⟨a, u1, u2, u3, e, h, p, q, r⟩ => ⟨a, u1, u2, u3, e, sqt_fn s h, Fn.fn s p, Fn.fn s q, Fn.fn s r⟩⟩
instance {α β γ δ : Type} [i : Rp α] [j : Rp β] [k : Rp γ] [l : Rp δ] [Fn α] [Fn β] [Fn γ] [Fn δ] : Fn (T4 α β γ δ) := ⟨fun _ _ _ _ _ s ⟨a, u1, u2, u3, u4, e, h, p, q, r, t⟩ => ⟨a, u1, u2, u3, u4, e, sqt_fn s h, Fn.fn s p, Fn.fn s q, Fn.fn s r, Fn.fn s t⟩⟩
def noOb : List Sl → Prop
  | [] => True
  | .ob _ _ _ _ :: _ => False
  | _ :: t => noOb t
theorem noOb_get : ∀ {Γ : List Sl} {n : Nat} {a C dx : Addr} {fs : List (Str × Pv)}, noOb Γ → Γ[n]? = some (.ob a C dx fs) → False
  | [], _, _, _, _, _, _, h => by simp at h
  | c :: t, 0, a, C, dx, fs, n, h => by
    have e : c = .ob a C dx fs := by simpa using h
    subst e
    exact n
  | c :: t, n + 1, a, C, dx, fs, h, e => by
    have e' : t[n]? = some (.ob a C dx fs) := by simpa using e
    cases c <;> first | exact noOb_get (Γ := t) h e' | exact h.elim
/-- what stood for good, and what has come since, but the lists that stood beside -/
def nw (H0 H H1 : Hp) : Hp := fun b => match H0 b with
  | some o => some o
  | none => match H1 b with
    | some (.lst vs) => (match H b with | none => some (.lst vs) | some _ => none)
    | r => r
theorem nw_l {H0 H H1 : Hp} {b : Addr} {o : HO} (h : H0 b = some o) : nw H0 H H1 b = some o := by unfold nw; rw [h]
theorem nw_none {H0 H H1 : Hp} {b : Addr} (h : H0 b = none) (h1 : H1 b = none) : nw H0 H H1 b = none := by unfold nw; rw [h, h1]
theorem nw_old {H0 H H1 : Hp} {b : Addr} {vs ws : List V} (h : H0 b = none) (h1 : H b = some (.lst vs)) (s : ∀ o, H1 b = some o → o = .lst ws) : nw H0 H H1 b = none := by
  unfold nw
  rw [h, h1]
  cases e : H1 b with
  | none => rfl
  | some o => rw [s o e]
theorem nw_in {H0 H H1 : Hp} (s : Same H0 H1) {b : Addr} {o : HO} (h : nw H0 H H1 b = some o) : H1 b = some o := by
  unfold nw at h
  cases e0 : H0 b with
  | some o' => rw [e0] at h; cases h; exact s _ _ e0
  | none =>
    rw [e0] at h
    cases e1 : H1 b with
    | none => rw [e1] at h; cases h
    | some o1 =>
      rw [e1] at h
      cases o1 <;> first | exact h | skip
      cases e2 : H b with
      | none => rw [e2] at h; exact h
      | some _ => rw [e2] at h; cases h
theorem nw_fn {H0 H H1 : Hp} (s : Same H0 H1) : ∀ b o, H1 b = some o → (∀ vs, o ≠ .lst vs) → nw H0 H H1 b = some o := fun b o h n => by
  unfold nw
  cases e0 : H0 b with
  | some o' => have := s _ _ e0; rw [h] at this; exact this.symm
  | none =>
    show (match H1 b with | some (.lst vs) => (match H b with | none => some (.lst vs) | some _ => none) | r => r) = some o
    rw [h]
    cases o <;> first | rfl | exact absurd rfl (n _)
section
variable {K : Kf} {m p : Bool} {te : TE} {Γ Γ2 : List Sl}
theorem SR.stepN {F : Fm} {I H0 H H0' H' : Hp} {σ : St} (r : SR K F I H0 H σ Γ) (no : noOb Γ) (e0 : Same H0 H0') (e : Same H H') (e1 : Same H0' H') (gF : ∀ a o, F.k a = some o → I a = none → H0' a = none) (g : ∀ a vs, H a = some (.lst vs) → H0 a = none → H0' a = none) : SR K F I H0' H' σ Γ := by
  refine ⟨fun a o q => e _ _ (r.f a o q), fun a o q => e0 _ _ (r.i a o q), gF, e1, r.len, fun n s q => ?_, fun n m a ne h1 h2 => r.dj n m a ne (ftp_back r (fun a _ o _ z => e a o z) h1) (ftp_back r (fun a _ o _ z => e a o z) h2)⟩
  obtain ⟨ov, q1, q2⟩ := r.ok n s q
  refine ⟨ov, q1, ?_⟩
  cases s with
  | un => trivial
  | per i x => obtain ⟨v, e2, p⟩ := q2; exact ⟨v, e2, i.mono e0 p⟩
  | bor i x => exact q2
  | bl i x => exact blOk.mono e0 q2
  | own i p xs =>
    obtain ⟨a, vs, e2, e3, e4, e5, e6, e7⟩ := q2
    exact ⟨a, vs, e2, e3, e4, g a _ e6 e5, e a _ e6, prd_mono (fun _ _ r => i.mono e0 r) e7⟩
  | dp i p xss => exact dpOk.mono (p' := p) q2 (fun _ _ z => z) (fun b hb z => let ⟨_, _, vs, w⟩ := ft_own (s := .dp i p xss) q2 hb; g b _ w z) (fun b o _ z => e b o z) fun _ _ z => i.mono e0 z
  | gn G => exact gnOk.mono q2 (fun _ _ z => z) (fun b hb z => let ⟨_, _, vs, w⟩ := ft_own (s := .gn G) q2 hb; g b _ w z) (fun b o _ z => e b o z) fun _ z => G.mono0 e0 z
  | ob a C dx fs => exact (noOb_get no q).elim
theorem SR.dfrzP {F : Fm} {I H0 H : Hp} {σ : St} {α : Type} {i : Rp α} {xss : List (List α)} {n : Nat} {a : Option Addr} (r : SR K F I H0 H σ Γ) (hn : Γ[n]? = some (.dp i a xss)) :
    ∃ (c : Addr) (bs : List Addr) (G : Hp), σ[n]? = some (some (.ref c)) ∧ Same H0 G ∧ G c = some (.lst (bs.map V.ref)) ∧ (∀ b ∈ bs, ∃ vs, G b = some (.lst vs)) ∧ H c = some (.lst (bs.map V.ref)) ∧ SR K F I G H σ (Γ.set n (.per (inferInstance : Rp (List (List α))) xss)) := by
  obtain ⟨c, bs, e1, e2, e3, e4, e5, e6, r2, fr⟩ := r.dfrz hn
  have hl : n < Γ.length := (List.getElem?_eq_some_iff.mp hn).1
  obtain ⟨r3, s0⟩ := r2.keep e3 e4 fr e5
  have rp : (inferInstance : Rp (List (List α))).rep K (upd (mor H0 H bs) c (.lst (bs.map V.ref))) (.ref c) xss := ⟨c, _, rfl, upd_same, prd_mono (fun _ _ z => (@instRpList α i).mono s0 z) e6⟩
  have r4 := pr_set (n := n) r3 rp (by simpa using hl)
  rw [slot_same e1, List.set_set] at r4
  refine ⟨c, bs, _, e1, mor_same.trans s0, upd_same, fun b hb => ?_, e5, r4⟩
  obtain ⟨k, hk⟩ := List.getElem?_of_mem hb
  have hk' : (bs.map V.ref)[k]? = some (V.ref b) := by rw [List.getElem?_map, hk]; rfl
  obtain ⟨y, _, a', vs, e, h, _⟩ := prd_getL e6 hk'
  cases e
  exact ⟨vs, s0 _ _ h⟩
theorem e_frzD {β : Type} {i : Rp β} {xss : List (List β)} {n : Nat} {a : Option Addr} {α : Type} [Rp α] [Sc α] {x : α} (hn : Γ[n]? = some (.dp i a xss)) (h : E K false p te (Γ.set n (.per (inferInstance : Rp (List (List β))) xss)) Γ2 x) : E K false true te Γ Γ x := fun F I H0 H σ r Q q => by
  obtain ⟨c, bs, G, _, s0, _, _, _, r'⟩ := r.dfrzP hn
  exact h F I G H σ r' Q fun v H1 H1' r1 a1 b1 c1 => q v H0 H1' (r.ext (b1 rfl)) (Same.refl _) (fun _ => b1 rfl) (Sc.any c1)
theorem n_frzD {β : Type} {i : Rp β} {xss : List (List β)} {n : Nat} {a : Option Addr} {α : Type} [j : Rp α] [Fn α] {ys : List α} (hn : Γ[n]? = some (.dp i a xss)) (h : EN K false te (Γ.set n (.per (inferInstance : Rp (List (List β))) xss)) (Γ.set n (.per (inferInstance : Rp (List (List β))) xss)) ys)
    (no : noOb Γ := by repeat' (first | exact True.intro)) : EN K false te Γ Γ ys := fun F I H0 H σ r Q q => by
  obtain ⟨c, bs, G, e1, s0, g1, g2, hc, r'⟩ := r.dfrzP hn
  have hl : n < Γ.length := (List.getElem?_eq_some_iff.mp hn).1
  refine h F I G H σ r' Q fun d ws H1 H1' r1 a1 b1 c1 c2 c3 c4 c5 => ?_
  have s01 : Same H0 H1 := s0.trans a1
  have lst : ∀ a vs, H a = some (.lst vs) → ∀ o, H1 a = some o → o = .lst vs := fun a vs e o e' => by
    have z := r1.h _ _ e'
    rw [b1 rfl _ _ e] at z
    exact (Option.some.inj z).symm
  have r2 : SR K F I (nw H0 H H1) H1' σ Γ := r.stepN no (fun _ _ e => nw_l e) (b1 rfl) (fun b o e => r1.h _ _ (nw_in s01 e)) (fun a o e ia => by
    have h1 := r1.g a o e ia
    exact nw_none (Same.free s01 h1) h1) fun a vs e e' => nw_old e' e (lst a vs e)
  refine q d ws _ H1' r2 (fun _ _ e => nw_l e) (fun _ => b1 rfl) c1 (nw_none (Same.free s01 c2) c2) (fun k hk => ?_) c4 (prd_mono (fun _ _ z => Fn.fn (nw_fn s01) z) c5)
  obtain ⟨s, ov, e4, e5, f⟩ := hk
  by_cases z : k = n
  · subst z
    rw [hn] at e4
    cases e4
    rw [e1] at e5
    cases e5
    have no : ∀ o, G d ≠ some o := fun o e => by rw [a1 _ _ e] at c2; cases c2
    rcases f with f | ⟨c', ds, f, f2, f3⟩
    · cases f
      exact no _ g1
    · cases f
      have e6 : H1' c = some (.lst (bs.map V.ref)) := b1 rfl _ _ hc
      rw [e6] at f2
      have eb : bs = ds := refs_inj (by injection f2 with f2; injection f2)
      subst eb
      obtain ⟨vs, e7⟩ := g2 d f3
      exact no _ e7
  · exact c3 k ⟨s, ov, by rw [List.getElem?_set_ne (Ne.symm z)]; exact e4, e5, f⟩
end
end FF
namespace FF
open PySem L2
/-- the three items of a tuple in turn -/
theorem w_t3 {K : Kf} {m : Bool} {Γ Γ1 : List Sl} {tl : TE} {α : Type} [i : Rp α] {x : T3 α α α} (h : E K m true tl Γ Γ1 x) : Wlk K true m (iTup K tl) Γ Γ1 i [x.a, x.b, x.c] := fun F I H0 H σ r R q => by
  have h' : E K m true tl Γ Γ1 (Tu.mk [x.a, x.b, x.c]) := fun F I H0 H σ r Q q => h F I H0 H σ r Q fun v H1 H1' r1 a1 b1 c1 => by
    obtain ⟨a, u1, u2, u3, e, hs, e1, e2, e3⟩ := c1
    exact q v H1 H1' r1 a1 b1 ⟨a, _, e, hs, .cons e1 (.cons e2 (.cons e3 .nil))⟩
  exact w_tup h' F I H0 H σ r R q
end FF
namespace FF
open PySem L2
theorem gp_as3 {K : Kf} {Γ : List Sl} {J : Type} {Γe : J → List Sl} {Pe : J → Prop} {t1 t2 t3 u : TS} {x : J} (h : GP K (tSeq (tSeq t1 (tSeq t2 t3)) u) Γ Γe Pe x) : GP K (tSeq t1 (tSeq t2 (tSeq t3 u))) Γ Γe Pe x := h
theorem r_sa3 {K : Kf} {Γ : List Sl} {ρ : Type} {rp : Rs ρ} {rg : ρ → List Sl} {t1 t2 t3 u : TS} {c : ρ} (h : R K (tSeq (tSeq t1 (tSeq t2 t3)) u) Γ rp rg c) : R K (tSeq t1 (tSeq t2 (tSeq t3 u))) Γ rp rg c := h
theorem b_sa3 {K : Kf} {Γ : List Sl} {S ρ : Type} {Γs : S → List Sl} {rp : Rs ρ} {rg : ρ → List Sl} {t1 t2 t3 u : TS} {c : Ctl S ρ} (h : B K (tSeq (tSeq t1 (tSeq t2 t3)) u) Γ Γs rp rg c) : B K (tSeq t1 (tSeq t2 (tSeq t3 u))) Γ Γs rp rg c := h
end FF

set_option Elab.async false
set_option linter.all false
set_option maxRecDepth 100000
set_option maxHeartbeats 2000000
namespace FF
open PySem L2
/-! ### enumerate of a tuple, the start by its name -/
def iEnumKT (K : Kf) (k : Int) (ta : TA) : TI := fun σ H R => ta σ H fun vs H1 => ∃ a, vs = [.ref a] ∧ (∃ xs, SqT K H1 a xs) ∧ R (IteT K a k) H1
open PyProof.Rows in
theorem pi_enumKT {X : Cx} {e : Expr} {ta : TA} {p pos tpos cpos kpos : Pos} {elts : List Expr} {kk : Nat} {k : Int} {j : Nat} (hk : -(2 ^ 63) ≤ k ∧ k < 2 ^ 63) (hg : Gl X "enumerate") (hm : X.mg "enumerate" = none) (ha : PA X [e] ta) (hs : starEach [e] X.env = [(false, eval e X.env)] := by rfl) :
    PI X (.Tuple elts kk tpos) (.Call (.Name "enumerate" p) [e] [⟨some "start", .Constant (.int k) j cpos, kpos⟩] pos) (iEnumKT X.K k ta) := ⟨fun pins s σ H R I h => by
  have hkw : PK X [⟨some "start", .Constant (.int k) j cpos, kpos⟩] (tCons (tC (.int k)) tNil) := pk_cons pe_int pk_nil
  refine wpAny_Call_Name_kw (ld_blt I hg hm boot_enumerate ?_)
  refine callWith_typeKw (thn (ha.run pos pins s σ H _ I h) fun us s1 ⟨vs, H1, I1, r1, q1⟩ => thn (hkw.run pos pins s1 σ H1 (fun zs H2 => zs = [.int k] ∧ H2 = H1) I1 ⟨rfl, rfl⟩) fun ws s2 ⟨zs, H2, I2, r2, q2⟩ => ?_) (by rw [hs]; rfl) (by rw [hs]; rfl)
  obtain ⟨rfl, rfl⟩ := q2
  obtain ⟨a, rfl, ⟨xs, hq⟩, q⟩ := q1
  cases r1 with | cons r rr => cases rr with | nil =>
  cases r
  cases r2 with | cons r' rr' => cases rr' with | nil =>
  obtain ⟨t, rfl⟩ := r'
  obtain ⟨its, rv, p', hz⟩ := I2.tuple hq
  refine enum_begins_start (begins_tuple a its.toArray) p' hk.1 hk.2 fun h' he hit hsz hk' => wpAny_pyIter_enum he ?_
  have I3 : Inv X pins σ H2 { s2 with heap := h' } := I2.kept (t' := s2.toks) hk'
  refine ⟨s2.heap.objs.size + 1, [s2.heap.objs.size + 1, s2.heap.objs.size], _, _, H2, rfl, I3, turn_enumT a (s2.heap.objs.size + 1) s2.heap.objs.size k, ⟨⟨.none, by have e0 : k + ((0 : Nat) : Int) = k := Int.add_zero k; rw [e0]; exact he⟩, ⟨_, hit, rfl, rfl⟩, Nat.succ_ne_self _⟩, fun b hb => ?_, q⟩
  have e' : b = s2.heap.objs.size + 1 ∨ b = s2.heap.objs.size := by simpa using hb
  have hle : s2.heap.objs.size ≤ b := by
    rcases e' with z | z
    · rw [z]; exact Nat.le_add_right _ _
    · rw [z]; exact Nat.le_refl _
  exact I2.fpOk hle (I2.hok.fresh hle)⟩
section
variable {K : Kf} {m m1 m2 p1 : Bool} {Γ Γa Γ1 : List Sl} {ta : TA} {tk te : TE} {α : Type} [i : Rp α]
theorem itetK_go {a : Addr} {k : Int} {vs : List V} {xs : List α} {H2 H2' : Hp} (hs' : SqT K H2' a vs) (s3 : Same H2 H2') (hp : Prd (i.rep K H2) vs xs) {n : Nat} (hn : n ≤ xs.length) (Fb : Hp) :
    (n = (enumK k xs).length → (IteT K a k).stop n H2') ∧ (∀ z, (enumK k xs)[n]? = some z → (IteT K a k).go n H2' ∧ ∀ v H3, (IteT K a k).yld n H2' v H3 → Yl K true Fb H2 H2' (inferInstance : Rp (Int × α)) z v H3) := by
  have el := prd_len hp
  refine ⟨fun e => ⟨vs, hs', by rw [e, enumK_len]; omega⟩, fun z hz => ?_⟩
  obtain ⟨e0, hx⟩ := enumK_get hz
  obtain ⟨u, e1, e2⟩ := prd_get hp hx
  refine ⟨⟨vs, u, hs', e1⟩, fun v H3 y => ?_⟩
  obtain ⟨T, x, rfl, hT, e3, e4⟩ := y
  have e5 := e4 vs hs'
  rw [e1] at e5
  cases e5
  refine .inr ⟨T, .tup [.int (k + (n : Nat)), u], hT, e3, T, .int (k + (n : Nat)), u, rfl, .inl (.inl upd_same), congrArg V.int (by rw [e0]), ?_⟩
  have h2 : H2 T = none := Same.free s3 hT
  have s4 : Same H2 (upd H2 T (HO.tup [V.int (k + (n : Nat)), u])) := fun b o e => by rw [upd_ne (ne_of_none e h2)]; exact e
  exact i.mono s4 e2
theorem w_enumKT {xs : Tu α} {k : Int} (h : A K m ta Γ Γ1 [ap xs]) : Wlk K true m (iEnumKT K k ta) Γ Γ1 (inferInstance : Rp (Int × α)) (enumK k xs.l) := fun F I H0 H σ r R q =>
  h F I H0 H σ r _ fun ws H1 H1' r1 a1 b1 c1 => by
    cases c1 with | cons z1 c1 => cases c1 with | nil =>
    obtain ⟨a, vs, rfl, hs, hp⟩ := z1
    exact ⟨a, rfl, ⟨vs, same_t r1.h hs⟩, q (IteT K a k) H1 H1' r1 a1 b1 fun n H2 H2' s2 s3 _ hn => itetK_go (same_t (s2.trans s3) hs) s3 (prd_mono (fun _ _ z => i.mono s2 z) hp) (by rw [enumK_len] at hn; exact hn) F.b⟩
/-- x, (a, b, c, d) -/
theorem tg_oneFour {β γ δ ε : Type} [j : Rp β] [k : Rp γ] [l : Rp δ] [o : Rp ε] {z : α × T4 β γ δ ε} {n n1 n2 n3 n4 : Nat} (h0 : n < Γ.length := by exact Nat.le_of_ble_eq_true rfl) (h1 : n1 < Γ.length := by exact Nat.le_of_ble_eq_true rfl) (h2 : n2 < Γ.length := by exact Nat.le_of_ble_eq_true rfl) (h3 : n3 < Γ.length := by exact Nat.le_of_ble_eq_true rfl) (h4 : n4 < Γ.length := by exact Nat.le_of_ble_eq_true rfl) :
    Tg K true (gTup K 2 (gCons (gName n) (gCons (gTup K 4 (gCons (gName n1) (gCons (gName n2) (gCons (gName n3) (gCons (gName n4) gNil))))) gNil))) (inferInstance : Rp (α × T4 β γ δ ε)) z Γ (((((Γ.set n (pr z.1)).set n1 (pr z.2.a)).set n2 (pr z.2.b)).set n3 (pr z.2.c)).set n4 (pr z.2.d)) := fun F I H0 H σ v r h Q q => by
  obtain ⟨a, u1, u2, rfl, hs, e1, e2⟩ := h
  obtain ⟨b, w1, w2, w3, w4, rfl, ht, f1, f2, f3, f4⟩ := e2
  refine ⟨a, _, rfl, same_t r.h hs, rfl, u1, _, rfl, .ref b, _, rfl, b, _, rfl, same_t r.h ht, rfl, w1, _, rfl, w2, _, rfl, w3, _, rfl, w4, _, rfl, rfl, rfl, ?_⟩
  exact q _ (pr_set (pr_set (pr_set (pr_set (pr_set r e1 h0) f1 (by simpa using h1)) f2 (by simpa using h2)) f3 (by simpa using h3)) f4 (by simpa using h4))
/-- xs.insert(k, x) -/
def rIns : V → List V → Hp → VK → Prop := fun x vs H Q => ∃ (l : Addr) (xs : List V) (i : Int) (y : V), x = .ref l ∧ vs = [.int i, y] ∧ H l = some (.lst xs) ∧ xs.length < sizeLine ∧ 0 ≤ i ∧ i < 2 ^ 63 ∧ Q .non (upd H l (.lst (xs.take i.toNat ++ [y] ++ xs.drop i.toNat)))
theorem mt_ins {X : Cx} : MtR X "list.insert" rIns := mt_insert
def insL {α : Type} (xs : List α) (k : Int) (x : α) : List α := xs.take k.toNat ++ [x] ++ xs.drop k.toNat
theorem g_ins {x : α} {xs ys : List α} {k : Int} {n : Nat} {a a' : Option Addr} (h0 : Γ[n]? = some (.own i a' ys)) (hk : E K m1 true tk Γ Γa k) (h : E K m2 true te Γa Γ1 x) (hn : Γ1[n]? = some (.own i a xs)) (hz : 0 ≤ k ∧ k < 2 ^ 62 ∧ xs.length < 100000) :
    Go K (tDrop (tBM K "list" rIns (tVar n) (tCons tk (tCons te tNil)))) Γ (Γ1.set n (.own i a (insL xs k x))) := fun F I H0 H σ D r q => by
  obtain ⟨b, vs, e1, f1, f2, f3, f4⟩ := own_at r h0
  refine ⟨.ref b, e1, Or.inl ⟨rfl, vs, SqL.of f3⟩, hk F I H0 H σ r _ fun w H1 H1' r1 a1 b1 c1 => h F I H1 H1' σ r1 _ fun v H2 H2' r2 a2 b2 c2 => ?_⟩
  obtain ⟨b', vs', e1', g1, g2, g3, g4⟩ := own_at r2 hn
  rw [e1] at e1'
  cases e1'
  have cw : w = .int k := c1
  subst cw
  refine ⟨b, vs', k, v, rfl, rfl, g3, ?_, hz.1, by omega, q _ _ σ (a1.trans a2) (r2.mut hn e1 (prd_app (prd_app (prd_take _ g4) (.cons (by simpa using c2) .nil)) (prd_drop _ g4)))⟩
  rw [prd_len g4]
  exact Nat.lt_of_lt_of_le hz.2.2 (by decide)
end
/-- where ways meet: a list of lists of one's own becomes a list of lists that stand for good -/
theorem gp_half {K : Kf} {Γ : List Sl} {J : Type} {Γe : J → List Sl} {Pe : J → Prop} {y : J} {α : Type} [i : Rp α] {xss : List (List α)} {n : Nat} {a : Option Addr} (hn : Γ[n]? = some (.dp i a xss)) (h : GP K tNext (Γ.set n (.own (@instRpList α i) a xss)) Γe Pe y) : GP K tNext Γ Γe Pe y :=
  show GP K (tSeq tNext tNext) Γ Γe Pe y from gp_sq (g_half hn) h
end FF
namespace FF
open PySem L2
theorem r_half {K : Kf} {Γ : List Sl} {ρ : Type} {rp : Rs ρ} {rg : ρ → List Sl} {t : TS} {c : ρ} {α : Type} [i : Rp α] {xss : List (List α)} {n : Nat} {a : Option Addr} (hn : Γ[n]? = some (.dp i a xss)) (h : R K t (Γ.set n (.own (@instRpList α i) a xss)) rp rg c) : R K t Γ rp rg c :=
  show R K (tSeq tNext t) Γ rp rg c from r_sq (g_half hn) h
theorem b_half {K : Kf} {Γ : List Sl} {S ρ : Type} {Γs : S → List Sl} {rp : Rs ρ} {rg : ρ → List Sl} {t : TS} {c : Ctl S ρ} {α : Type} [i : Rp α] {xss : List (List α)} {n : Nat} {a : Option Addr} (hn : Γ[n]? = some (.dp i a xss)) (h : B K t (Γ.set n (.own (@instRpList α i) a xss)) Γs rp rg c) : B K t Γ Γs rp rg c :=
  show B K (tSeq tNext t) Γ Γs rp rg c from b_sq (g_half hn) h
theorem gp_halfT {K : Kf} {Γ : List Sl} {J : Type} {Γe : J → List Sl} {Pe : J → Prop} {y : J} {t : TS} {α : Type} [i : Rp α] {xss : List (List α)} {n : Nat} {a : Option Addr} (hn : Γ[n]? = some (.dp i a xss)) (h : GP K t (Γ.set n (.own (@instRpList α i) a xss)) Γe Pe y) : GP K t Γ Γe Pe y :=
  show GP K (tSeq tNext t) Γ Γe Pe y from gp_sq (g_half hn) h
end FF

set_option Elab.async false
set_option linter.all false
set_option maxRecDepth 100000
set_option maxHeartbeats 2000000
/-! a list of new lists grows by a new list; return A and B, where A changes things; tuple.index of texts -/
namespace FF
open PySem L2
section
variable {K : Kf} {m m1 m2 p p1 p2 : Bool} {ta tb te tj : TE} {Γ Γ1 Γ2 : List Sl} {α : Type} [i : Rp α]
/-- rows.append(a new list) -/
theorem g_dpush {xss yss : List (List α)} {xs : List α} {n : Nat} {a a' : Option Addr} (h0 : Γ[n]? = some (.dp i a' yss)) (h : EN K m te Γ Γ1 xs) (hn : Γ1[n]? = some (.dp i a xss)) (hz : xss.length < 100000) :
    Go K (tDrop (tBM K "list" rAppend (tVar n) (tCons te tNil))) Γ (Γ1.set n (.dp i a (xss ++ [xs]))) := fun F I H0 H σ D r q => by
  obtain ⟨a0, bs0, e0, _, _, _, e5, _⟩ := dp_at r h0
  refine ⟨.ref a0, e0, Or.inl ⟨rfl, _, SqL.of e5⟩, h F I H0 H σ r _ fun d us H1 H1' r1 a1 _ z1 z2 z3 z4 z5 => ?_⟩
  obtain ⟨c0, bs, f1, f2, f3, f4, f5, f6, f7, f8⟩ := dp_at r1 hn
  rw [e0] at f1
  cases f1
  have hl : n < Γ1.length := (List.getElem?_eq_some_iff.mp hn).1
  have fa : Ftp H1' σ Γ1 n a0 := ⟨_, _, hn, e0, .inl rfl⟩
  have fb : ∀ {b}, b ∈ bs → Ftp H1' σ Γ1 n b := fun hb => ⟨_, _, hn, e0, .inr ⟨a0, bs, rfl, f5, hb⟩⟩
  have da : d ≠ a0 := fun z => z3 n (z ▸ fa)
  have db : d ∉ bs := fun z => z3 n (fb z)
  refine ⟨a0, bs.map V.ref, .ref d, rfl, rfl, f5, ?_, ?_⟩
  · rw [List.length_map, prd_len f8]
    exact Nat.lt_of_lt_of_le hz (by decide)
  have r8 : SR K F I H1 H1' σ (Γ1.set n .un) := r1.weak (by simp) fun k t e => by
    rcases get_set e with ⟨_, z⟩ | ⟨_, z⟩
    · exact .inl z
    · exact .inr z
  have fo : ∀ {c}, Ftp H1' σ Γ1 n c → Fre H1' σ (Γ1.set n .un) c := fun hc => fre_un r1 hc
  have fd : Fre H1' σ (Γ1.set n .un) d := fun k z => by
    rcases ftp_set z with ⟨_, _, _, w⟩ | ⟨_, w⟩
    · exact w
    · exact z3 k w
  obtain ⟨r9, fA⟩ := r8.aside (D := a0) (us := (bs ++ [d]).map V.ref) f3 f4 (fo fa) f5
  have keepF : ∀ {c : Addr}, c ≠ a0 → Fre H1' σ (Γ1.set n .un) c → Fre (upd H1' a0 (.lst ((bs ++ [d]).map V.ref))) σ (Γ1.set n .un) c := fun {c} hc h m z => h m (ftp_back r8 (fun e m o w1 w2 => by rw [upd_ne (fun w => by subst w; exact fo fa m w1)]; exact w2) z)
  have dk : dpOk K F H1 (upd H1' a0 (.lst ((bs ++ [d]).map V.ref))) (some (.ref a0)) i a (xss ++ [xs]) := by
    refine ⟨a0, bs ++ [d], rfl, f2, f3, f4, upd_same, ?_, fun z => ?_, prd_app ?_ (.cons ⟨z1, z2, us, by rw [upd_ne da]; exact z4, z5⟩ .nil)⟩
    · exact List.nodup_append.mpr ⟨f6, List.nodup_cons.mpr ⟨by simp, List.nodup_nil⟩, fun x hx y hy => by
        rw [List.mem_singleton.mp hy]
        exact fun z => db (z ▸ hx)⟩
    · rcases List.mem_append.mp z with z | z
      · exact f7 z
      · exact da (List.mem_singleton.mp z).symm
    · exact prd_monoM (fun c hc ys q => by
        obtain ⟨q1, q2, vl, q3, q4⟩ := q
        exact ⟨q1, q2, vl, by rw [upd_ne (show c ≠ a0 from fun z => f7 (z ▸ hc))]; exact q3, q4⟩) f8
  have r10 := r9.set (i := n) (v := .ref a0) (s := .dp i a (xss ++ [xs])) dk (fun c hc x _ ho => by
    rcases hc with hc | ⟨e, ds, h1, h2, h3⟩
    · cases hc
      exact fA x ho
    · cases h1
      rw [upd_same] at h2
      have eb : bs ++ [d] = ds := refs_inj (by injection h2 with h2; injection h2)
      subst eb
      rcases List.mem_append.mp h3 with z | z
      · exact keepF (fun w => f7 (w ▸ z)) (fo (fb z)) x ho
      · rw [List.mem_singleton.mp z] at ho
        exact keepF da fd x ho) (by simpa using hl)
  rw [slot_same e0, List.set_set] at r10
  have em : bs.map V.ref ++ [V.ref d] = (bs ++ [d]).map V.ref := by rw [List.map_append]; rfl
  rw [em]
  exact q _ _ _ a1 r10
end
section
variable {K : Kf} {m : Bool} {ρ S : Type} {ta tb : TE} {u : TS} {Γ Γ1 : List Sl} {Γs : S → List Sl} {rp : Rs ρ} {rg : ρ → List Sl}
/-- return A and B, where A changes things -/
theorem r_retAnd {a : Bool} {r1 r2 : ρ} (h : E K m true ta Γ Γ1 a) (h1 : a = true → R K (tSeq (tRet tb) u) Γ1 rp rg r1) (h2 : a = false → R K (tSeq (tRet (tC (.bl false))) u) Γ1 rp rg r2) : R K (tSeq (tRet (tAndV ta tb)) u) Γ rp rg (if a = true then r1 else r2) := fun F I H0 H σ D r q n =>
  h F I H0 H σ r _ fun v H1 H1' r3 a1 b1 c1 => ⟨a, c1, by
    cases a with
    | true =>
      rw [if_pos rfl] at q n ⊢
      exact h1 rfl F I H1 H1' σ D r3 (fun v a b c d => q v a b c (a1.trans d)) (fun a b c d => n a b c (a1.trans d))
    | false =>
      rw [if_neg (by decide)] at q n ⊢
      exact h2 rfl F I H1 H1' σ D r3 (fun v a b c d => q v a b c (a1.trans d)) (fun a b c d => n a b c (a1.trans d))⟩
end
section
variable {K : Kf} {m m1 m2 p : Bool} {ta tb : TE} {Γ Γ1 Γ2 : List Sl}
def rTixS (K : Kf) : V → List V → Hp → VK → Prop := fun x xs H Q => ∃ p, ∃ ys : List Str, ∃ z j, x = .ref p ∧ xs = [.str z] ∧ SqT K H p (ys.map V.str) ∧ ys[j]? = some z ∧ (∀ m, m < j → ys[m]? ≠ some z) ∧ Q (.int (j : Nat)) H
theorem mt_tixS {X : Cx} : MtR X "tuple.index" (rTixS X.K) := mt_tup_index
/-- .. the tuple is one of the text's -/
def GtTy (K : Kf) (mg : Str → Option Value) (x : Str) : Prop := ∀ a, mg x = some (.ref a) → ∃ o, K.lookup a = some o ∧ o.cls = .type "tuple" ∧ o.dict = none
theorem e_tixG {mg : Str → Option Value} {x : Str} {ys : List PySem.Str} {z : PySem.Str} (h : GtAt K mg x ys) (h2 : GtTy K mg x) (hb : E K m p tb Γ Γ1 z) (hm : z ∈ ys) : E K m true (tBM K "tuple" (rTixS K) (tC (.ref (Classical.choose h))) (tCons tb tNil)) Γ Γ1 (ixD z ys) := fun F I H0 H σ r Q q => by
  have hs := (Classical.choose_spec h).2
  refine ⟨Or.inr (Or.inl ⟨rfl, h2 _ (Classical.choose_spec h).1⟩), hb.sc F I H0 H σ r _ fun w H2 H2' r2 a2 b2 c2 => ?_⟩
  obtain ⟨j, e1, e2, e3⟩ := ixD_nat hm
  exact ⟨_, ys, z, j, rfl, by rw [show w = V.str z from c2], hs _, e2, fun k hk e => e3 k z hk e rfl, q _ H2 H2' r2 a2 b2 (congrArg V.int e1.symm)⟩
end
/-! ### the same things: a list's items with the values that they are -/
structure Tag (α : Type) where
  v : V
  x : α
instance {α : Type} [i : Rp α] : Rp (Tag α) := ⟨fun K H w t => w = t.v ∧ i.rep K H w t.x, fun s h => ⟨h.1, i.mono s h.2⟩⟩
section
variable {K : Kf} {m m1 m2 p p2 : Bool} {ta tb te : TE} {Γ Γ1 Γ2 : List Sl} {α : Type} [i : Rp α]
theorem prd_untag {K : Kf} {H : Hp} : ∀ {vs : List V} {zs : List (Tag α)}, Prd ((inferInstance : Rp (Tag α)).rep K H) vs zs → Prd (i.rep K H) vs (zs.map Tag.x) ∧ vs = zs.map Tag.v
  | _, _, .nil => ⟨.nil, rfl⟩
  | _, _, .cons r t => ⟨.cons r.2 (prd_untag t).1, by rw [List.map_cons, ← (prd_untag t).2, r.1]⟩
theorem prd_tag {K : Kf} {H : Hp} : ∀ {vs : List V} {xs : List α}, Prd (i.rep K H) vs xs → ∃ zs : List (Tag α), zs.map Tag.x = xs ∧ Prd ((inferInstance : Rp (Tag α)).rep K H) vs zs
  | _, _, .nil => ⟨[], rfl, .nil⟩
  | _, _, .cons (a := a) (b := b) r t => by
    obtain ⟨zs, e, h⟩ := prd_tag t
    exact ⟨⟨a, b⟩ :: zs, by rw [List.map_cons, e], .cons ⟨rfl, r⟩ h⟩
theorem e_untag {zs : List (Tag α)} {xs : List α} (h : E K m p te Γ Γ1 zs) (e : zs.map Tag.x = xs) : E K m p te Γ Γ1 xs := fun F I H0 H σ r Q q =>
  h F I H0 H σ r Q fun v H1 H1' r1 a1 b1 c1 => q v H1 H1' r1 a1 b1 (by
    obtain ⟨a, vs, e1, e2, e3⟩ := c1
    rw [← e]
    exact ⟨a, vs, e1, e2, (prd_untag e3).1⟩)
theorem r_tag {ρ : Type} {t : TS} {rp : Rs ρ} {rg : ρ → List Sl} {c : ρ} {n : Nat} {xs : List α} (hn : Γ[n]? = some (.own i none xs)) (k : ∀ zs : List (Tag α), zs.map Tag.x = xs → R K t (Γ.set n (pr (α := List (Tag α)) zs)) rp rg c) : R K t Γ rp rg c := fun F I H0 H σ D r q1 q2 => by
  obtain ⟨b, vs, e1, f1, f2, f3, f4⟩ := own_at r hn
  obtain ⟨zs, z1, z2⟩ := prd_tag f4
  have hl : n < Γ.length := (List.getElem?_eq_some_iff.mp hn).1
  have r1 : SR K F I H0 H σ (Γ.set n .un) := r.weak (by simp) fun k s e => by
    rcases get_set e with ⟨_, z⟩ | ⟨_, z⟩
    · exact .inl z
    · exact .inr z
  have r2 := r1.set (i := n) (v := .ref b) (s := .own (inferInstance : Rp (Tag α)) none zs) ⟨b, vs, rfl, (fun _ z => nomatch z), f1, f2, f3, z2⟩ (fun c hc m _ ho => by
    have e : some (V.ref b) = some (V.ref c) := hc
    cases e
    exact fre_un r (ftp_at hn e1) m ho) (by simpa using hl)
  rw [slot_same e1, List.set_set] at r2
  have h := e_frz (K := K) (Γ := Γ.set n (.own (inferInstance : Rp (Tag α)) none zs)) (n := n) (xs := zs) (List.getElem?_set_self hl) F I H0 H σ r2
  obtain ⟨v, _, hq⟩ := h (fun _ H' => t D σ H') fun v H1 H1' r3 a1 b1 _ => by
    rw [List.set_set] at r3
    have e : H1' = H1' := rfl
    exact k zs z1 F I H1 H1' σ D r3 (fun v a b c d => q1 v a b c (a1.trans d)) (fun a b c d => q2 a b c (a1.trans d))
  exact hq
/-- two lists of the same instances -/
theorem e_eqTag {zs : List (Tag α)} (hr : ∀ (K : Kf) (H : Hp) (v : V) (x : α), i.rep K H v x → ∃ a, v = .ref a) (ha : E K m1 true ta Γ Γ1 zs) (hb : E K m2 true tb Γ1 Γ2 zs) : E K (m1 || m2) true (tOp (rEqV K) ta tb) Γ Γ2 true := fun F I H0 H σ r Q q =>
  ha F I H0 H σ r _ fun v H1 H1' r1 a1 b1 c1 => hb F I H1 H1' σ r1 _ fun w H2 H2' r2 a2 b2 c2 => by
    obtain ⟨a, vs, rfl, h1, p1⟩ := c1
    obtain ⟨b, ws, rfl, h2, p2⟩ := c2
    have e1 := (prd_untag p1).2
    have e2 := (prd_untag p2).2
    have ew : ws = vs := e2.trans e1.symm
    subst ew
    refine ⟨1, by decide, .inl ⟨a, b, ws, ws, rfl, rfl, SqL.of (r2.h _ _ (a2 _ _ h1)), SqL.of (r2.h _ _ h2), ?_⟩, q _ H2 H2' r2 (a1.trans a2) (same_mm b1 b2) rfl⟩
    have : ∀ {us : List V} {ys : List (Tag α)}, Prd ((inferInstance : Rp (Tag α)).rep K H2) us ys → Paired (EqV K H2' 1) us us := by
      intro us ys h
      induction h with
      | nil => exact .nil
      | cons q t ih =>
        obtain ⟨c, hc⟩ := hr _ _ _ _ q.2
        exact .cons (.inr (.inl ⟨c, hc, hc⟩)) ih
    exact this p2
theorem room64 {k : Nat} {A : Around} (hr : Room k A) : A.units + 64 < cLine := Nat.lt_of_succ_lt (in_room hr)
/-- t[k], k two or three -/
theorem e_ixT4v {α β γ : Type} [Rp α] [Rp β] [Rp γ] {x : T4 α β γ γ} {k : Int} (ha : E K m1 true ta Γ Γ1 x) (hb : E K m2 p2 tb Γ1 Γ2 k) (h : k = 2 ∨ k = 3) : E K (m1 || m2) true (tOp (rIxT K) ta tb) Γ Γ2 (if k = 2 then x.c else x.d) := fun F I H0 H σ r Q q =>
  ha F I H0 H σ r _ fun v H1 H1' r1 a1 b1 c1 => hb.sc F I H1 H1' σ r1 _ fun w H2 H2' r2 a2 b2 c2 => by
    obtain ⟨a, u1, u2, u3, u4, rfl, hs, h1, h2, h3, h4⟩ := c1
    cases (show w = V.int k from c2)
    rcases h with rfl | rfl
    · exact ⟨a, _, 2, u3, rfl, rfl, same_t (a2.trans r2.h) hs, rfl, q u3 H2 H2' r2 (a1.trans a2) (same_mm b1 b2) (Rp.mono a2 h3)⟩
    · exact ⟨a, _, 3, u4, rfl, rfl, same_t (a2.trans r2.h) hs, rfl, q u4 H2 H2' r2 (a1.trans a2) (same_mm b1 b2) (Rp.mono a2 h4)⟩
end
theorem ob_ref {α : Type} {C : Addr} {fs : α → List (Str × Pv)} {K : Kf} {H : Hp} {v : V} {x : α} (h : (repOb C fs).rep K H v x) : ∃ a, v = .ref a := let ⟨a, _, _, e, _⟩ := h; ⟨a, e⟩
section
variable {K : Kf} {m p : Bool} {te : TE} {Γ Γ2 : List Sl}
/-- a list of one's own stands still while a call is asked that changes nothing and hands back a new list of flat data -/
theorem n_frzF {β : Type} {i : Rp β} {xs : List β} {n : Nat} {a : Option Addr} {α : Type} [j : Rp α] [Fn α] {ys : List α} (hn : Γ[n]? = some (.own i a xs)) (h : EN K false te (Γ.set n (.per (inferInstance : Rp (List β)) xs)) (Γ.set n (.per (inferInstance : Rp (List β)) xs)) ys)
    (no : noOb Γ := by repeat' (first | exact True.intro)) : EN K false te Γ Γ ys := fun F I H0 H σ r Q q => by
  obtain ⟨b, vs, e1, s0, r'⟩ := r.frz hn
  have hl : n < Γ.length := (List.getElem?_eq_some_iff.mp hn).1
  refine h F I _ H σ r' Q fun d ws H1 H1' r1 a1 b1 c1 c2 c3 c4 c5 => ?_
  have s01 : Same H0 H1 := s0.trans a1
  have lst : ∀ a vs, H a = some (.lst vs) → ∀ o, H1 a = some o → o = .lst vs := fun a vs e o e' => by
    have z := r1.h _ _ e'
    rw [b1 rfl _ _ e] at z
    exact (Option.some.inj z).symm
  have r2 : SR K F I (nw H0 H H1) H1' σ Γ := r.stepN no (fun _ _ e => nw_l e) (b1 rfl) (fun b o e => r1.h _ _ (nw_in s01 e)) (fun a o e ia => by
    have h1 := r1.g a o e ia
    exact nw_none (Same.free s01 h1) h1) fun a vs e e' => nw_old e' e (lst a vs e)
  refine q d ws _ H1' r2 (fun _ _ e => nw_l e) (fun _ => b1 rfl) c1 (nw_none (Same.free s01 c2) c2) (fun k hk => ?_) c4 (prd_mono (fun _ _ z => Fn.fn (nw_fn s01) z) c5)
  obtain ⟨s, ov, e4, e5, f⟩ := hk
  by_cases z : k = n
  · subst z
    rw [hn] at e4
    cases e4
    rw [e1] at e5
    cases e5
    have f' : some (V.ref b) = some (V.ref d) := f
    cases f'
    have := a1 _ _ upd_same
    rw [c2] at this
    cases this
  · exact c3 k ⟨s, ov, by rw [List.getElem?_set_ne (Ne.symm z)]; exact e4, e5, f⟩
instance {α : Type} [i : Rp α] [f : Fn α] : Fn (Option α) := ⟨fun K H H' v x s h => by
  cases x with
  | none => exact h
  | some y => exact ⟨h.1, f.p K H H' v y s h.2⟩⟩
def FnAll : List (Str × Pv) → Prop
  | [] => True
  | q :: t => FnP q.2.i ∧ FnAll t
theorem fs_fn {K : Kf} {H H' : Hp} (s : ∀ b o, H b = some o → (∀ vs, o ≠ .lst vs) → H' b = some o) : ∀ {us : List (Str × V)} {fs : List (Str × Pv)}, FnAll fs → FsOk K H us fs → FsOk K H' us fs
  | _, _, _, .nil => .nil
  | _, _, f, .cons h t => .cons ⟨h.1, f.1 _ _ _ _ _ s h.2⟩ (fs_fn s f.2 t)
theorem fn_ob {α : Type} {C : Addr} {fs : α → List (Str × Pv)} (h : ∀ x, FnAll (fs x)) : @Fn α (repOb C fs) := @Fn.mk α (repOb C fs) fun _ _ _ _ x s ⟨a, dx, us, e, h1, h2, h3⟩ => ⟨a, dx, us, e, s _ _ h1 (by simp), s _ _ h2 (by simp), fs_fn s (h x) h3⟩
/-- a list of one's own is given up for good -/
theorem g_frz {α : Type} [i : Rp α] {xs : List α} {n : Nat} (hn : Γ[n]? = some (.own i none xs)) : Go K tNext Γ (Γ.set n (.per (inferInstance : Rp (List α)) xs)) := fun F I H0 H σ D r q => by
  obtain ⟨b, vs, _, s0, r'⟩ := r.frz hn
  exact q _ H σ s0 r'
theorem r_frz {ρ : Type} {t : TS} {rp : Rs ρ} {rg : ρ → List Sl} {c : ρ} {α : Type} [i : Rp α] {xs : List α} {n : Nat} (hn : Γ[n]? = some (.own i none xs)) (h : R K t (Γ.set n (.per (inferInstance : Rp (List α)) xs)) rp rg c) : R K t Γ rp rg c := show R K (tSeq tNext t) Γ rp rg c from r_sq (g_frz hn) h
end
section
variable {K : Kf} {Γ : List Sl}
theorem tgc_four {α β γ δ : Type} [i : Rp α] [j : Rp β] [k : Rp γ] [l : Rp δ] {x : T4 α β γ δ} {n1 n2 n3 n4 : Nat} (h1 : n1 < Γ.length := by exact Nat.le_of_ble_eq_true rfl) (h2 : n2 < Γ.length := by exact Nat.le_of_ble_eq_true rfl) (h3 : n3 < Γ.length := by exact Nat.le_of_ble_eq_true rfl) (h4 : n4 < Γ.length := by exact Nat.le_of_ble_eq_true rfl) :
    TgC K true (gTup K 4 (gCons (gName n1) (gCons (gName n2) (gCons (gName n3) (gCons (gName n4) gNil))))) (inferInstance : Rp (T4 α β γ δ)) x Γ ((((Γ.set n1 (pr x.a)).set n2 (pr x.b)).set n3 (pr x.c)).set n4 (pr x.d)) [n1, n2, n3, n4] := fun F I H0 H σ v r h Q q => by
  obtain ⟨a, u1, u2, u3, u4, rfl, hs, e1, e2, e3, e4⟩ := h
  refine ⟨a, _, rfl, same_t r.h hs, rfl, u1, _, rfl, u2, _, rfl, u3, _, rfl, u4, _, rfl, rfl, q _ (pr_set (pr_set (pr_set (pr_set r e1 h1) e2 (by simpa using h2)) e3 (by simpa using h3)) e4 (by simpa using h4)) (wipe_ext (by simp) fun m hm => ?_)⟩
  rw [List.getElem?_set_ne (fun e => hm (by rw [e]; simp)), List.getElem?_set_ne (fun e => hm (by rw [e]; simp)), List.getElem?_set_ne (fun e => hm (by rw [e]; simp)), List.getElem?_set_ne (fun e => hm (by rw [e]; simp))]
theorem free_four {n1 n2 n3 n4 : Nat} (h1 : Γ[n1]? = some .un) (h2 : Γ[n2]? = some .un) (h3 : Γ[n3]? = some .un) (h4 : Γ[n4]? = some .un) : Free [n1, n2, n3, n4] Γ := fun n hn s e => by
  simp only [List.mem_cons, List.not_mem_nil, or_false] at hn
  rcases hn with rfl | rfl | rfl | rfl
  · rw [h1] at e; exact (Option.some.inj e).symm
  · rw [h2] at e; exact (Option.some.inj e).symm
  · rw [h3] at e; exact (Option.some.inj e).symm
  · rw [h4] at e; exact (Option.some.inj e).symm
end
end FF

set_option linter.all false
set_option maxRecDepth 100000
/-! plain lemmas that many laws want -/
namespace FF
theorem q_cons {α S ρ : Type} {f : S → α → Ctl S ρ} {s : S} {x : α} {xs : List α} : loopL f s (x :: xs) = (match f s x with | .nx s' => loopL f s' xs | .ct s' => loopL f s' xs | .bk s' => .inr s' | .rt r => .inl r) := rfl
theorem q_all {α : Type} {f : Unit → α → Ctl Unit Bool} {t : α → Bool} : ∀ {xs : List α}, (∀ x ∈ xs, f () x = if t x = true then .nx () else .rt false) → ends (loopL f () xs) (fun r => r) (fun _ => true) = xs.all t
  | [], _ => rfl
  | x :: xs, h => by
    have h1 := h x List.mem_cons_self
    rw [List.all_cons, ← q_all fun y hy => h y (List.mem_cons_of_mem _ hy), q_cons, h1]
    cases t x <;> rfl
theorem q_allC {α S : Type} {c : S} {f : Unit → α → Ctl Unit Bool} {t : α → Bool} : ∀ {xs : List α}, (∀ x ∈ xs, f () x = if t x = true then .nx () else .rt false) → ends (loopL f () xs) (fun r => (.rt r : Ctl S Bool)) (fun _ => .nx c) = if xs.all t = true then .nx c else .rt false
  | [], _ => rfl
  | x :: xs, h => by
    have h1 := h x List.mem_cons_self
    have h2 := q_allC (S := S) (c := c) fun y hy => h y (List.mem_cons_of_mem _ hy)
    rw [List.all_cons, q_cons, h1]
    cases t x
    · rfl
    · exact h2
theorem q_all_true {α : Type} {f : Unit → α → Ctl Unit Bool} {xs : List α} (h : ∀ x ∈ xs, f () x = .nx ()) : ends (loopL f () xs) (fun r => r) (fun _ => true) = true := by
  rw [q_all (t := fun _ => true) (fun x hx => by rw [h x hx]; rfl)]
  simp
theorem q_ls_len {α : Type} (xs : List α) (k : Int) (x : α) : (ls xs k x).length = xs.length := by
  unfold ls
  split <;> simp
theorem q_gi_ls {α : Type} [Inhabited α] {xs : List α} {k i : Int} {x : α} (hk : 0 ≤ k ∧ k < xs.length) (hi : 0 ≤ i) : gi (ls xs k x) i = if i = k then x else gi xs i := by
  unfold ls
  rw [if_pos hk.1, gi_nat hi, gi_nat hi, List.getD_eq_getElem?_getD, List.getD_eq_getElem?_getD, List.getElem?_set]
  by_cases e : i = k
  · rw [if_pos e, if_pos (by omega), if_pos (by omega)]; rfl
  · rw [if_neg e, if_neg (by omega)]
theorem q_ins_len {α : Type} (xs : List α) (k : Int) (x : α) : (insL xs k x).length = xs.length + 1 := by
  unfold insL
  simp only [List.length_append, List.length_take, List.length_drop, List.length_singleton]
  omega
theorem q_map_gi {α : Type} [Inhabited α] (xs : List α) : (rng 0 (xs.length : Int)).map (fun k => gi xs k) = xs := by
  apply List.ext_getElem
  · rw [List.length_map, rng_len]; omega
  · intro n h1 h2
    rw [List.getElem_map]
    have hr : (rng 0 (xs.length : Int))[n]? = some ((rng 0 (xs.length : Int))[n]'(by simpa using h1)) := List.getElem?_eq_getElem _
    have := (rng_n hr).1
    rw [this, gi_nat (by omega), List.getD_eq_getElem?_getD, show ((0 : Int) + n).toNat = n by omega, List.getElem?_eq_getElem h2]
    rfl
theorem q_enum {α : Type} [Inhabited α] (xs : List α) : enum xs = (rng 0 (xs.length : Int)).map fun k => (k, gi xs k) := by
  apply List.ext_getElem?
  intro n
  rw [List.getElem?_map]
  by_cases h : n < xs.length
  · have h1 : n < (enum xs).length := by rw [enum_len]; exact h
    have e1 : (enum xs)[n]? = some ((enum xs)[n]) := List.getElem?_eq_getElem h1
    obtain ⟨a1, a2⟩ := enum_get e1
    have h2 : n < (rng 0 (xs.length : Int)).length := by rw [rng_len]; omega
    have e2 : (rng 0 (xs.length : Int))[n]? = some ((rng 0 (xs.length : Int))[n]) := List.getElem?_eq_getElem h2
    have a3 := (rng_n e2).1
    rw [e1, e2, Option.map_some]
    congr 1
    refine Prod.ext (by rw [a1]; show _ = (rng 0 (xs.length : Int))[n]; omega) ?_
    show _ = gi xs ((rng 0 (xs.length : Int))[n])
    rw [a3, gi_nat (by omega), List.getD_eq_getElem?_getD, show ((0 : Int) + n).toNat = n by omega, a2]
    rfl
  · rw [List.getElem?_eq_none (by rw [enum_len]; omega), List.getElem?_eq_none (by rw [rng_len]; omega)]
    rfl
theorem q_enumK {α : Type} [Inhabited α] (k : Int) (xs : List α) : enumK k xs = (rng 0 (xs.length : Int)).map fun j => (k + j, gi xs j) := by
  unfold enumK
  rw [q_enum, List.map_map]
  rfl
theorem q_zip {α β : Type} [Inhabited α] [Inhabited β] {xs : List α} {ys : List β} (h : xs.length = ys.length) : xs.zip ys = (rng 0 (xs.length : Int)).map fun k => (gi xs k, gi ys k) := by
  conv => lhs; rw [← q_map_gi xs, ← q_map_gi ys, ← h]
  rw [List.zip_map']
theorem q_gi_map {α β : Type} [Inhabited α] [Inhabited β] (f : α → β) {xs : List α} {k : Int} (h : 0 ≤ k ∧ k < xs.length) : gi (xs.map f) k = f (gi xs k) := by
  rw [gi_nat h.1, gi_nat h.1, List.getD_eq_getElem?_getD, List.getD_eq_getElem?_getD, List.getElem?_map, List.getElem?_eq_getElem (show k.toNat < xs.length by omega)]
  rfl
theorem q_all_congr {α : Type} {s t : α → Bool} {xs : List α} (h : ∀ x ∈ xs, s x = t x) : xs.all s = xs.all t := by
  induction xs with
  | nil => rfl
  | cons x xs ih => rw [List.all_cons, List.all_cons, h x List.mem_cons_self, ih fun y hy => h y (List.mem_cons_of_mem _ hy)]
theorem q_foldl {α β : Type} {f g : β → α → β} : ∀ {xs : List α} {s : β}, (∀ s x, x ∈ xs → f s x = g s x) → xs.foldl f s = xs.foldl g s
  | [], _, _ => rfl
  | x :: xs, s, h => by
    rw [List.foldl_cons, List.foldl_cons, h s x List.mem_cons_self]
    exact q_foldl fun s y hy => h s y (List.mem_cons_of_mem _ hy)
theorem q_ends_inr {τ S ρ : Type} {s : S} {f : ρ → τ} {g : S → τ} {x : ρ ⊕ S} (h : x = .inr s) : ends x f g = g s := by rw [h]; rfl
theorem q_loop_on {α S ρ : Type} {f : S → α → Ctl S ρ} (I : S → Prop) : ∀ (xs : List α) (s : S), I s → (∀ t x, x ∈ xs → I t → ∃ u, f t x = .nx u ∧ I u) → ∃ t, loopL f s xs = .inr t ∧ I t
  | [], s, hi, _ => ⟨s, rfl, hi⟩
  | x :: xs, s, hi, hs => by
    obtain ⟨u, e, hu⟩ := hs s x List.mem_cons_self hi
    obtain ⟨t, et, ht⟩ := q_loop_on I xs u hu fun t y hy => hs t y (List.mem_cons_of_mem _ hy)
    exact ⟨t, by unfold loopL; rw [e]; exact et, ht⟩
theorem q_gi_ext {α : Type} [Inhabited α] {xs ys : List α} (hl : xs.length = ys.length) (h : ∀ k : Int, 0 ≤ k ∧ k < xs.length → gi xs k = gi ys k) : xs = ys := by
  rw [← q_map_gi xs, ← q_map_gi ys, ← hl]
  exact List.map_congr_left fun k hk => h k (mem_rng.mp hk)
theorem q_ind {α : Type} {x : α} {f : α → Bool} (h : ∀ y, y = x → f y = true) : bnd x f = true := h _ rfl
theorem q_snoc {α : Type} [Inhabited α] {xs : List α} {x : α} : gi (xs ++ [x]) (xs.length : Int) = x := by
  rw [gi_nat (by omega), List.getD_eq_getElem?_getD]; simp
theorem q_left {α : Type} [Inhabited α] {xs ys : List α} {k : Int} (hk : 0 ≤ k ∧ k < xs.length) : gi (xs ++ ys) k = gi xs k := by
  rw [gi_nat hk.1, gi_nat hk.1, List.getD_eq_getElem?_getD, List.getD_eq_getElem?_getD, List.getElem?_append_left (by omega)]
end FF

set_option Elab.async false
set_option linter.all false
set_option maxRecDepth 100000
set_option maxHeartbeats 2000000
/-! an own error class, below ValueError through own classes, whose __init__ says super().__init__(f'..{part}') and self.part = part: it is made -/
namespace PySem
namespace ExX
open PySem.W PySem.Calls PyProof.Rows PySem.HandSPX
def iA (p1 p2 : Pos) : Arguments := { posonlyargs := [], args := [{ arg := "self", annotation := none, pos := p1 }, { arg := "part", annotation := none, pos := p2 }], vararg := none, kwonlyargs := [], kw_defaults := [], kwarg := none, defaults := [] }
def iB (msg : Str) (q1 q2 q3 q4 q5 q6 q7 q8 q9 q10 q11 q12 q13 : Pos) : List Stmt :=
  [.Expr (.Call (.Attribute (.Call (.Name "super" q1) [] [] q2) "__init__" q3) [.JoinedStr [.Constant (.str msg) 0 q4, .FormattedValue (.Name "part" q5) (-1) none q6] q7] [] q8) q9,
   .Assign [.Attribute (.Name "self" q10) "part" q11] (.Name "part" q12) q13]
def iS : Scope := { kind := .function, names := [("self", .local), ("part", .local), ("__class__", .free), ("super", .globalImplicit)], isGenerator := false, isCoroutine := false, more := [] }
/-- what the written part says of the class at C, and of its __init__ at fI -/
structure ExTxt (prog : Program) (K : Frag) (mg : Str → Option Value) (C fI : Addr) : Prop where
  cls : ∃ nm q N bs bm sn sub ab col dd k0 k1 k2 k3 k5, K.lookup C = some (excClassObj nm q C N bs bm true sn sub ab col dd k0 k1 k2 k3 k5 "ValueError.__new__") ∧ refsVE bm = true
  sa : findIn K (.ref C) "__setattr__" = some (some (.builtin "object.__setattr__"))
  ga : findIn K (.ref C) "__getattribute__" = some (some (.builtin "BaseException.__getattribute__"))
  gg : findIn K (.ref C) "__getattr__" = some none
  noN : findIn K (.ref C) "part" = some none
  iC : findIn K (.ref C) "__init__" = some (some (.ref fI))
  tC : typeIn K (.ref fI) = some (.type "function")
  kC : keepIn K (.ref C) = true
  exC : subIn K (.ref C) (.type "BaseException") = some true
  vC : subIn K (.ref C) (.type "ValueError") = some true
  tyC : typeIn K (.ref C) = some (.type "type")
  hdC : hasDictIn K C = true
  mC : mroIn K C (.ref C) = some true
  sup : ks_superIn K C C "__init__" = some (some (.builtin "ValueError.__init__"))
  nsup : nsIn K mainGlobals "super" = some none
  opq : nsIn K cStatics "thirdparty.any" = some none
  top : (prog.main.scope.names.lookup ("super" : Str)).isSome = false
  fn : ∃ (oc : Value) (od : Option Addr) (doc pm : Value) (an : Option Addr) (ct : Value) (osl : Array (Option Value)) (qual msg : Str) (cda cc : Addr) (p1 p2 q1 q2 q3 q4 q5 q6 q7 q8 q9 q10 q11 q12 q13 : Pos),
    K.lookup fI = some ⟨oc, od, .func (fnX "__init__" qual (iA p1 p2) (iB msg q1 q2 q3 q4 q5 q6 q7 q8 q9 q10 q11 q12 q13) iS [("__class__", cc)] .none .none doc pm an (.ref cda) ct), osl⟩ ∧ codeIn K (.ref cda) qual = true ∧ msg.length ≤ 1000 ∧ (q3.endLine == q8.line) = true ∧
    (∃ ccl cdd vs ccs file tf, K.lookup cda = some ⟨ccl, cdd, .fields vs, ccs⟩ ∧ vs[2]? = some (.str file tf) ∧ ((prog.main.file : Str) == file) = true) ∧
    ∃ cl cld csl, K.lookup cc = some ⟨cl, cld, .cell (some (.ref C)), csl⟩
/-- what __init__ leaves of a fresh exception at x -/
structure InitEnd (h h' : Heap) (x C dx : Addr) (v : Value) : Prop where
  keep : ∀ b o, b ≠ x → h.get? b = some o → h'.get? b = some o
  obj : ∃ t1 : Addr, h'.get? x = some { cls := .ref C, dict := some dx, data := .fields #[.ref t1, .none, .none, .none, .bool false, .none] }
  dbig : h.objs.size ≤ dx
  dne : dx ≠ x
  ns : h'.Ns1 dx (fun y => if y = "part" then some v else none)
theorem ldC {M : Model} {s : Shared} {name : Str} {scope : Scope} {L a : Addr} {cd : Value} {cl : List (Str × Addr)} {m : Str → Option Value} {x : Str} {pos : Pos} {v : Value} {Q : Value → Shared → Prop} {A : Around} {E : Value → Shared → Prop} (hn : s.heap.Ns L m) (hv : m x = some v) (h : Q v s)
    (hk : scope.kind = .function := by rfl) (hl : (envX name scope L a cd cl).kindOf x = some .local := by rfl) (hd : (x == ("__debug__" : Str)) = false := by decide) :
    wpAny M A (eval (.Name x pos) (envX name scope L a cd cl)) Q E s := wpAny_Name (wpAny_loadName_local hk hl hn hv h) hd
theorem ns_keeps {h h' : Heap} {L : Addr} {m : Str → Option Value} (n : h.Ns L m) (k : ∀ b o, h.get? b = some o → h'.get? b = some o) : h'.Ns L m := n.keeps k
theorem spliced_one {M : Model} {A : Around} {E : Value → Shared → Prop} {s : Shared} {x : Sem Value} {Q : List Value → Shared → Prop} (h : wpAny M A x (fun v s' => Q [v] s') E s) : wpAny M A (spliced [(false, x)]) Q E s := by
  unfold spliced
  refine wpAny_bind (wpAny_mono h (fun v s' h' => ?_) (fun _ _ z => z))
  show wpAny M A ((pure [v] : Sem (List Value)) >>= fun here => (holding here (spliced []) >>= fun r => pure (here ++ r))) Q E s'
  refine wpAny_bind (wpAny_pure (wpAny_bind (wpAny_holding ?_)))
  show wpAny M A (pure [] : Sem (List Value)) _ _ _
  exact wpAny_pure (wpAny_pure h')
section
variable {prog : Program} {w : World} {A : Around} {E : Value → Shared → Prop} {R : Result → Shared → Prop} {s : Shared} {K : Frag} {mg : Str → Option Value} {base : Heap} {C fI : Addr}
theorem ex_init (T : ExTxt prog K mg C fI) (M : L2.Mod K mg base) (bk : ∀ b o, base.get? b = some o → s.heap.get? b = some o) {x t0 : Addr} {part : Str} {tp : Tok} (hx : s.heap.get? x = some (excO C t0)) (hxb : base.get? x = none) (hroom : A.depth < recursionLimit) (hp : part.length ≤ 1000)
    (hq : ∀ h' tk dx, InitEnd s.heap h' x C dx (.str part tp) → R (.ok (.ret .none)) { s with heap := h', toks := tk }) :
    codeAny (model prog w) A (.call (.ref fI) ⟨[.ref x, .str part tp], []⟩) R s := by
  obtain ⟨oc, od, doc, pm, an, ct, osl, qual, msg, cda, cc, p1, p2, q1, q2, q3, q4, q5, q6, q7, q8, q9, q10, q11, q12, q13, ho, hcd, hmsg, hline, ⟨ccl, cdd, vs, ccs, file, tf, hcda, hvs, hfile⟩, cl, cld, csl, hcc⟩ := T.fn
  obtain ⟨nm, q, N, bs, bm, sn, sub, ab, col, dd, k0, k1, k2, k3, k5, hC, hbm⟩ := T.cls
  have hcl : clsIn K C = some { name := nm, bases := bs, mro := .ref C :: bm, ns := N, qualname := q, hasDict := true, slotNames := sn, subclasses := sub, abstract := ab, collection := col, hasDel := false } := by unfold clsIn; rw [hC] <;> rfl
  obtain ⟨mb, hb1, hb2⟩ := M.blt
  have X0 : K.In s.heap := M.kin.keeps bk
  refine ks_codeAny_call_defAt (fd := fnX "__init__" qual (iA p1 p2) (iB msg q1 q2 q3 q4 q5 q6 q7 q8 q9 q10 q11 q12 q13) iS [("__class__", cc)] .none .none doc pm an (.ref cda) ct) (body := iB msg q1 q2 q3 q4 q5 q6 q7 q8 q9 q10 q11 q12 q13) (binds := [("self", .ref x), ("part", .str part tp)]) hroom (X0 _ _ ho) rfl (M.nolimit.keeps bk) (codeRec_of X0 hcd) rfl
    (BindsTo.of_eq (by first | rfl | with_unfolding_all rfl)) (by show ∀ x ∈ iS.names, x.2 ≠ .cell; decide) (fun y hy => by
      simp only [List.mem_cons, List.not_mem_nil, or_false] at hy
      rcases hy with rfl | rfl <;> rfl) (fun h₁ hns hk₁ => ?_) rfl rfl rfl
  obtain ⟨hp0, g, dr, tk, os⟩ := s
  show wpAt (model prog w) (A.deeper (ksEnv qual iS hp0.objs.size fI (.ref cda) cc)) (.func (iB msg q1 q2 q3 q4 q5 q6 q7 q8 q9 q10 q11 q12 q13) (ksEnv qual iS hp0.objs.size fI (.ref cda) cc)) (execs (iB msg q1 q2 q3 q4 q5 q6 q7 q8 q9 q10 q11 q12 q13) (ksEnv qual iS hp0.objs.size fI (.ref cda) cc)) _ _ _
  have X1 : K.In h₁ := X0.keeps hk₁
  have hx₁ := hk₁ _ _ hx
  have bk₁ : ∀ b o, base.get? b = some o → h₁.get? b = some o := fun b o e => hk₁ _ _ (bk b o e)
  have hC₁ := X1 _ _ hC
  have hxC : x ≠ C := fun z => by
    have e := X0 _ _ hC
    rw [← z] at e
    have e2 := hx.symm.trans e
    cases e2
  -- super().__init__(f'..{part}')
  have hpos : methodCallPos true (.Call (.Name "super" q1) [] [] q2) (ksEnv qual iS hp0.objs.size fI (.ref cda) cc) q3 q8 = pure q8 := by unfold methodCallPos; simp [hline]
  refine ks_wpAt_execs_cons (ks_wpAt_Expr_any (ks_wpAt_MethodCall (pl := do return (← importBound (.Call (.Name "super" q1) [] [] q2) (ksEnv qual iS hp0.objs.size fI (.ref cda) cc)).getD true) ?_ (by
    rw [arm_eval_Call]
    unfold methodCall calleeOf
    rw [show methodCallForm (([.JoinedStr [.Constant (.str msg) 0 q4, .FormattedValue (.Name "part" q5) (-1) none q6] q7] : List Expr).length + ([] : List Keyword).length) (backTo q8 (starEach [.JoinedStr [.Constant (.str msg) 0 q4, .FormattedValue (.Name "part" q5) (-1) none q6] q7] (ksEnv qual iS hp0.objs.size fI (.ref cda) cc))) (backToKw q8 (keywordEach [] (ksEnv qual iS hp0.objs.size fI (.ref cda) cc))) = true from rfl]
    simp only [if_true, hpos, pure_bind]
    rfl)))
  refine ks_wpAt_super_base (env := ksEnv qual iS hp0.objs.size fI (.ref cda) cc) rfl rfl (by decide) rfl (X1 _ _ ho) rfl (ar := { arg := "self", annotation := none, pos := p1 }) rfl rfl (X1 _ _ hcda) rfl hvs hfile T.top ?_
  refine ks_loadName_global rfl rfl (loadGlobal_builtin (env := ksEnv qual iS hp0.objs.size fI (.ref cda) cc) (M.glob.keeps bk₁) (mg_none_of M.kin M.glob T.nsup) (hb1.keeps bk₁) ((hb2 _ (by decide)).trans (by decide +kernel)) ⟨rfl, ?_⟩)
  refine wpAny_loadName_free rfl rfl rfl ⟨_, X1 _ _ hcc, rfl⟩ ?_
  refine wpAny_loadName_local rfl rfl hns (by first | rfl | with_unfolding_all rfl) ?_
  refine ks_wpAny_isType_cls (cd := { name := nm, bases := bs, mro := .ref C :: bm, ns := N, qualname := q, hasDict := true, slotNames := sn, subclasses := sub, abstract := ab, collection := col, hasDel := false }) hC₁ rfl ⟨rfl, ?_⟩
  refine ks_wpAny_call_super hC₁ rfl hx₁ rfl (fun c e => nomatch e) (looks_mroIn X1 T.mC) (fun h₂ e2 k2 => ?_)
  have X2 : K.In h₂ := X1.keeps k2
  have hx₂ := k2 _ _ hx₁
  have I2 : InstAt h₂ x (excO C t0) C none := ⟨hx₂, rfl, rfl, trivial⟩
  refine kxs_getMethod kxs_ValueError e2 (looks_opaque X2 T.opq) (l₀ := .ref C :: bm) (fun A Q E s k q => wpAny_bind ((looks_clsIn X2 hcl) A _ E s k (wpAny_pure q))) rfl X2 (by have z := T.sup; unfold ks_superIn at z; rw [hcl] at z; exact z) (I2.type.andThen (looks_subIn X2 T.vC)) hxC (by decide) ?_
  have k3 : ∀ b o, h₂.get? b = some o → (h₂.push (kxs_mw "ValueError.__init__" x)).get? b = some o := fun b o e => Heap.get?_push_of_some _ e
  have hu : (h₂.push (kxs_mw "ValueError.__init__" x)).get? h₂.objs.size = some (kxs_mw "ValueError.__init__" x) := Heap.get?_push_at rfl rfl
  show wpAny _ _ (callWith q8 (.ref h₂.objs.size) [] [(false, eval (.JoinedStr [.Constant (.str msg) 0 q4, .FormattedValue (.Name "part" q5) (-1) none q6] q7) (ksEnv qual iS hp0.objs.size fI (.ref cda) cc))] []) _ _ _
  refine kxs_callWith (i := "ValueError.__init__") (x := x) rfl (evalArgs_plain ?_)
  refine wpAny_mono (Q := fun vs s' => ∃ u tk, vs = [u] ∧ s' = ⟨h₂.push (kxs_mw "ValueError.__init__" x), g, dr, tk, os⟩) (E := fun _ _ => False) ?_ (fun vs s' hv => ?_) (fun _ _ z => z.elim)
  · have hns2 : (h₂.push (kxs_mw "ValueError.__init__" x)).Ns hp0.objs.size (fun x_1 => List.lookup x_1 ([("self", Value.ref x), ("part", Value.str part tp)] : List (Str × Value)).reverse) := (hns.keeps k2).keeps k3
    refine spliced_one (wpAny_JoinedStr ?_)
    show wpAny _ _ (eval (.Constant (.str msg) 0 q4) _) _ _ _
    have l1 : (Str.empty ++ msg).length ≤ sizeLine := by rw [PySem.strLen_append, sizeLine_eq]; show 0 + msg.length ≤ _; omega
    have l2 : ((Str.empty ++ msg) ++ part).length ≤ sizeLine := by rw [PySem.strLen_append, PySem.strLen_append, sizeLine_eq]; show 0 + msg.length + part.length ≤ _; omega
    refine wpAny_Constant_str ⟨_, _, rfl, l1, ?_⟩
    show wpAny _ _ (eval (.FormattedValue (.Name "part" q5) (-1) none q6) _) _ _ _
    refine wpAny_FormattedValue_plain (ldC hns2 (by first | rfl | with_unfolding_all rfl) ?_)
    have lp : part.length ≤ sizeLine := by rw [sizeLine_eq]; omega
    refine wpAny_formatField_str ⟨_, _, rfl, l2, l2, ?_⟩ ⟨_, _, rfl, l2, l2, ?_⟩ lp
    all_goals exact ⟨_, _, rfl, rfl⟩
  · obtain ⟨u, tk1, rfl, rfl⟩ := hv
    refine ⟨hu, ?_⟩
    have X3 : K.In (h₂.push (kxs_mw "ValueError.__init__" x)) := X2.keeps k3
    refine wpAny_call (codeAny_of_tree ?_)
    show wpAny _ _ (callAny (.ref h₂.objs.size) ⟨[u], []⟩) _ _ _
    simp only [callAny]
    refine wpAny_bind (wpAny_load hu ?_)
    simp only [kxs_mw, show (Value.type "method-wrapper" == Value.type "method" || Value.type "method-wrapper" == Value.type "builtin_function_or_method" || Value.type "method-wrapper" == Value.type "method-wrapper") = true by decide, if_true]
    refine KFB.if_so (by decide) ?_
    refine wpAny_bind (check_bound_init F.excBase_ValueError.toExcCallFacts (X3 _ _ hC) (k3 _ _ hx₂) rfl ?_)
    refine wpAny_bind (wpAny_pure (wpAny_pure ?_))
    refine ⟨plainId_quiet F.excBase_ValueError.init.plain _, codeAny_builtin F.excBase_ValueError.initEntry ?_⟩
    refine exc_init_tree (cls := .ref C) (t0 := t0) (dv := none) (c2 := .none) (c3 := .none) (b4 := .bool false) (k3 _ _ hx₂) (by show 1 ≤ sizeLine; rw [sizeLine_eq]; decide) (fun h₃ k4 e4 t4 => ?_)
    show wpAt _ _ _ (execs [.Assign [.Attribute (.Name "self" q10) "part" q11] (.Name "part" q12) q13] (ksEnv qual iS hp0.objs.size fI (.ref cda) cc)) _ _ _
    have xs : hp0.objs.size ≠ x := Nat.ne_of_gt (Heap.lt_size hx)
    have hx4 : h₃.get? x = some (excO C (h₂.push (kxs_mw "ValueError.__init__" x)).objs.size) := e4
    have hns4 : h₃.Ns hp0.objs.size (fun x_1 => List.lookup x_1 ([("self", Value.ref x), ("part", Value.str part tp)] : List (Str × Value)).reverse) := by
      obtain ⟨oL, es, ep, hL, r⟩ := (hns.keeps k2).keeps k3
      exact ⟨oL, es, ep, k4 _ _ xs hL, r⟩
    have X4 : K.In h₃ := fun a o e => k4 a o (fun z => by
      have e1 := X3 _ _ e
      rw [z] at e
      have e2 := (X0 _ _ e).symm.trans hx
      have e3 := M.kin _ _ e
      rw [hxb] at e3
      cases e3) (X3 _ _ e)
    refine wpAt_of_wpAny (wpAny_execs_cons (plainObj_wpAny_Assign_Attribute ?_))
    refine ldC hns4 (by first | rfl | with_unfolding_all rfl) (ldC hns4 (by first | rfl | with_unfolding_all rfl) ?_)
    refine set_plain X4 (ox := excO C (h₂.push (kxs_mw "ValueError.__init__" x)).objs.size) (od := none) ⟨hx4, rfl, rfl, trivial⟩ T.sa ?_
    refine exc_osa X4 hx4 hcl (show refsVE (.ref C :: bm) = true from hbm) rfl T.noN (fun h₅ tk₅ dx k5 dn dne hx5 hn5 => ?_)
    show wpAny _ _ (execs _ _) _ _ _
    have lt : hp0.objs.size < h₃.objs.size := hns4.lt
    exact wpAny_execs_nil (hq h₅ tk₅ dx ⟨fun b o hb e => k5 b o hb (k4 b o hb (k3 _ _ (k2 _ _ (hk₁ b o e)))), ⟨_, hx5⟩, Nat.le_of_lt (Nat.lt_of_lt_of_le lt dn), dne, hn5⟩)
/-- a made one -/
structure OwnMade (h h' : Heap) (e C d : Addr) (v : Value) : Prop where
  keep : ∀ b o, h.get? b = some o → h'.get? b = some o
  new : h.objs.size ≤ e
  obj : ∃ oe vs, h'.get? e = some oe ∧ oe.cls = .ref C ∧ oe.dict = some d ∧ oe.data = .fields vs ∧ vs[1]? = some .none
  dbig : h.objs.size ≤ d
  dne : d ≠ e
  ns : h'.Ns1 d (fun y => if y = "part" then some v else none)
theorem bind_fn {M : Model} {h : Heap} {K : Frag} {fI : Addr} (X : K.In h) (self : Value) (t : typeIn K (.ref fI) = some (.type "function")) : Looks M h (bindSpecial (.ref fI) self) (.ref fI, [self]) := by
  cases z : K.lookup fI with
  | none =>
    have t' : (K.lookup fI).map (·.cls) = some (.type "function") := t
    rw [z] at t'; cases t'
  | some o =>
    have t' : (K.lookup fI).map (·.cls) = some (.type "function") := t
    rw [z] at t'
    exact exc_bind (X _ _ z) (Option.some.inj t') self
theorem ex_made (T : ExTxt prog K mg C fI) (M : L2.Mod K mg base) (bk : ∀ b o, base.get? b = some o → s.heap.get? b = some o) {part : Str} {tp : Tok} (hroom : A.depth + 1 < recursionLimit) (hp : part.length ≤ 1000)
    (hq : ∀ h' tk e d, OwnMade s.heap h' e C d (.str part tp) → R (.ok (.ret (.ref e))) { s with heap := h', toks := tk }) :
    codeAny (model prog w) A (.call (.ref C) ⟨[.str part tp], []⟩) R s := by
  obtain ⟨nm, q, N, bs, bm, sn, sub, ab, col, dd, k0, k1, k2, k3, k5, hC, hbm⟩ := T.cls
  have X : K.In s.heap := M.kin.keeps bk
  obtain ⟨hp0, g, dr, tk, os⟩ := s
  have k : ∀ b o, hp0.get? b = some o → ((hp0.push (kdv_tup [.str part tp])).push (excO C hp0.objs.size)).get? b = some o := fun b o e => Heap.get?_push_of_some _ (Heap.get?_push_of_some _ e)
  have hget : ((hp0.push (kdv_tup [.str part tp])).push (excO C hp0.objs.size)).get? (hp0.objs.size + 1) = some (excO C hp0.objs.size) := by heap_get
  have hnx : base.get? (hp0.objs.size + 1) = none := by
    cases e : base.get? (hp0.objs.size + 1) with
    | none => rfl
    | some o =>
      have z : hp0.get? (hp0.objs.size + 1) = some o := bk _ _ e
      exact absurd (Nat.lt_of_succ_lt (Heap.lt_size z)) (Nat.lt_irrefl _)
  refine call_own F.excBase_ValueError (fun X => refsVE_contains X bm hbm) (X _ _ hC) (looks_findIn X T.iC) (fun self => bind_fn X self T.tC) (by show 1 ≤ sizeLine; rw [sizeLine_eq]; decide) ?_
  refine ex_init (s := ⟨(hp0.push (kdv_tup [.str part tp])).push (excO C hp0.objs.size), g, dr, tk, os⟩) T M (fun b o e => k b o (bk b o e)) hget hnx ?_ hp fun h' tk' dx ⟨k', ⟨t1, hx⟩, dn, dne, hns⟩ => ?_
  · show A.depth + 1 < recursionLimit
    exact hroom
  · have old : ∀ b o, hp0.get? b = some o → h'.get? b = some o := fun b o e => k' b o (Nat.ne_of_lt (Nat.lt_succ_of_lt (Heap.lt_size e))) (k b o e)
    have z : hp0.objs.size + 1 + 1 ≤ dx := by
      first
        | (simpa only [Heap.size_push] using dn)
        | exact dn
        | (have q := dn; rw [Heap.size_push, Heap.size_push] at q; exact q)
    exact ⟨rfl, hq h' tk' (hp0.objs.size + 1) dx ⟨old, Nat.le_succ _, ⟨_, _, hx, rfl, rfl, rfl, rfl⟩, Nat.le_trans (Nat.le_trans (Nat.le_succ _) (Nat.le_succ _)) z, dne, hns⟩⟩
end
end ExX
end PySem
namespace L2
open PySem PySem.Spec PyProof.Rows
theorem relO_part {v : V} {v' : Value} (r : RelV v v') (f : Str) : RelO (List.lookup f [(("part" : Str), v)]) (if f = "part" then some v' else none) := by
  by_cases hw : f = "part"
  · subst hw
    rw [if_pos rfl]
    have q : List.lookup ("part" : Str) [(("part" : Str), v)] = some v := by simp [List.lookup]
    rw [q]
    exact r
  · rw [if_neg hw]
    have qw : (f == ("part" : Str)) = false := by simpa using hw
    have q2 : List.lookup f [(("part" : Str), v)] = none := by simp [List.lookup, qw]
    rw [q2]
    trivial
section
variable {X : Cx} {C fI : Addr}
/-- C(part): an error of the class at C whose own dict holds the part -/
def tMkEx (C : Addr) (ta : TA) : St → Hp → XK → Prop := fun σ H Q => ta σ H fun vs H1 => ∃ p : Str, vs = [.str p] ∧ p.length ≤ 1000 ∧ ∀ d, H1 d = none → Q (.ref C) (some d) (upd H1 d (.xd [(("part" : Str), .str p)]))
theorem pmk_ex {x : Str} {a : Expr} {ta : TA} {p pos : Pos} {k : Nat} (T : PySem.ExX.ExTxt X.prog X.K X.mg C fI) (gC : X.mg x = some (.ref C)) (hr : Room k X.A) (ha : PA X [a] ta) (hg : Gl X x) (hdb : (x == ("__debug__" : Str)) = false := by decide)
    (he : starEach (a :: []) X.env = (false, eval a X.env) :: starEach [] X.env := by rfl) (hpl : (backTo pos (starEach [] X.env)).any (·.1) = false := by rfl) :
    PMk X (.Call (.Name x p) [a] [] pos) (tMkEx C ta) := by
  intro pins s σ H Q I h
  refine wpAny_Call_Name_kw (ld_glob I hg gC ?_ hdb)
  refine PySem.W.callWith_K (h₀ := X.base) I.ok.mod.kin T.kC (thn (ha.run pos pins s σ H _ I h) fun us s1 hh => ?_) he hpl
  obtain ⟨vs, H1, I1, r1, y, ev, hy, q1⟩ := hh
  subst ev
  refine ⟨I1.kIn, ?_⟩
  cases r1 with
  | cons ru rn =>
    cases rn
    obtain ⟨tk, rfl⟩ := ru
    obtain ⟨hp, g, dr, tk0, os⟩ := s1
    refine wpAny_call (PySem.ExX.ex_made (s := ⟨hp, g, dr, tk0, os⟩) T I1.mod I1.bk ?_ hy fun h' tk' e d M => ?_)
    · have := hr.dp; omega
    · show MkP X pins σ Q (.ref e) ⟨h', g, dr, tk', os⟩
      obtain ⟨oe, fv, hoe, hc, hd, hdat, h1⟩ := M.obj
      have hns := M.ns
      obtain ⟨G', g1, g2⟩ := restrict h' fun b => decide (b ≠ e)
      have gk : ∀ b, b ≠ e → G'.get? b = h'.get? b := fun b hb => g1 b (decide_eq_true hb)
      have ge : G'.get? e = none := g2 e (by simp)
      have old : ∀ b o, hp.get? b = some o → G'.get? b = some o := fun b o q => (gk b (Nat.ne_of_lt (Nat.lt_of_lt_of_le (Heap.lt_size q) M.new))).trans (M.keep b o q)
      have ob : ObjOk X.prog X.w (upd H1 d (.xd [(("part" : Str), .str y)])) G' d (.xd [(("part" : Str), .str y)]) :=
        ⟨_, hns.at (fun o q => (gk d M.dne).trans q), fun f => relO_part (v := .str y) ⟨tk, rfl⟩ f⟩
      have J : Inv X pins σ (upd H1 d (.xd [(("part" : Str), .str y)])) ⟨G', g, dr, tk', os⟩ := I1.laid (t' := tk') old M.dbig ob
      refine ⟨e, oe, fv, ⟨G', g, dr, tk', os⟩, _, .ref C, some d, rfl, J, fun b o q => ?_, ge, hoe, ⟨hc, hd⟩, hdat, h1, ?_, rfl, I1.bare, raises_own T.exC T.tyC, q1 d (I1.hok.fresh M.dbig)⟩
      · by_cases hb : b = e
        · have q' : G'.get? b = some o := q
          rw [hb, ge] at q'; cases q'
        · exact (gk b hb).symm.trans q
      · rw [upd_ne (Ne.symm M.dne)]
        exact I1.hok.fresh M.new
end
end L2

set_option Elab.async false
set_option linter.all false
set_option maxRecDepth 100000
set_option maxHeartbeats 2000000
/-! defs and blocks that raise; try .. except .. as .. -/
namespace L2
open PySem PySem.Spec PyProof.Rows
/-! ### calls whose errors depend on the slots -/
def tMakeKS (C : Addr) (n m : Nat) (sp : Sp) (gV : List V → List V → List V) (E : St → XK) (t tk : TA) : TE := fun σ H Q => t σ H fun vs H1 => tk σ H1 fun zs H2 => vs.length = n ∧ zs.length = m ∧ ∀ x dx, H2 x = none → H2 dx = none → dx ≠ x →
  sp (gV (.ref x :: vs) zs) (upd (upd H2 dx (.own x)) x (.ins C dx [])) (fun v H3 => v = .non ∧ Q (.ref x) H3) (E σ)
section
variable {X : Cx} {CX : CXT} {k n : Nat} {f C : Addr} {fd : FuncData} {ps ks : List Str} {sp : Sp} {E : St → XK} {x : Str} {p pos : Pos} {e : Expr} {es : List Expr} {kws : List Keyword} {t tk : TA} {g : List Value → List Value → List Value} {gV : List V → List V → List V}
theorem run_makeKS {pins : List (Addr × Obj)} {σ : St} {H : Hp} {s : Shared} {Q : VK} {us ws : List Value} {vs zs : List V} (M : Mk X.K C f) (F : FnOk X.prog X.w X.K X.mg X.base CX k f fd ps sp) (hr : Room (k + 1) X.A) (hb : KBn X.K fd ps (n + 1) ks g gV) (hx : PassesAt CX X σ (E σ))
    (I : Inv X pins σ H s) (r : Vals vs us) (rz : Vals zs ws) (l1 : vs.length = n) (l2 : zs.length = ks.length)
    (h : ∀ x dx, H x = none → H dx = none → dx ≠ x → sp (gV (.ref x :: vs) zs) (upd (upd H dx (.own x)) x (.ins C dx [])) (fun v H2 => v = .non ∧ Q (.ref x) H2) (E σ)) :
    wpAny (model X.prog X.w) X.A (call (.ref C) us (ks.zip ws)) (EP X pins σ Q) X.xe s := by
  have hq := h (s.heap.objs.size + 1) s.heap.objs.size (I.hok.fresh (Nat.le_succ _)) (I.hok.fresh (Nat.le_refl _)) (Nat.ne_of_lt (Nat.lt_succ_self _))
  have I2 := Inv.made (C := C) I
  have r1 : Vals (V.ref (s.heap.objs.size + 1) :: vs) (Value.ref (s.heap.objs.size + 1) :: us) := .cons rfl r
  have r2 := hb.rel r1 rz
  have n1 : (Value.ref (s.heap.objs.size + 1) :: us).length = n + 1 := by
    rw [List.length_cons, ← r.length, l1]
  refine wpAny_call (make_map (f := f) I.kIn M.makes M.init (beq_iff_eq.mp M.fn) (codeAny_mono (F.run _ X.stack _ _ ⟨Value.ref (s.heap.objs.size + 1) :: us, ks.zip ws⟩ (g (Value.ref (s.heap.objs.size + 1) :: us) ws) _ _ (E σ) (hr.make C us (ks.zip ws))
    (I2.env0.make C us (ks.zip ws)) (hb.to _ (Value.ref (s.heap.objs.size + 1) :: us) ws I2.kIn n1 (rz.length.symm.trans l2)) r2 hq) fun r s' hq' => ?_))
  cases r with
  | error e => exact hx pins _ _ e s' I2 hq'
  | ok fl =>
    cases fl with
    | ret u =>
      obtain ⟨v, H', I3, rv, ev, q3⟩ := I2.after hq'
      subst ev
      exact ⟨rv, ⟨V.ref (s.heap.objs.size + 1), H', I3, rfl, q3⟩⟩
    | next => exact False.elim hq'
    | brk => exact False.elim hq'
    | cont => exact False.elim hq'
/-- C(e, .., k = v, ..) -/
theorem pe_makeKS (M : Mk X.K C f) (F : FnOk X.prog X.w X.K X.mg X.base CX k f fd ps sp) (hr : Room (k + 1) X.A) (hg : Gl X x) (hm : X.mg x = some (.ref C)) (hb : KBn X.K fd ps (n + 1) ks g gV) (hx : ∀ σ, PassesAt CX X σ (E σ)) (ha : PA X (e :: es) t) (hkw : PK X kws tk)
    (hall : (backToKw pos (keywordEach kws X.env)).all (·.1.isSome) = true := by rfl) (hks : (backToKw pos (keywordEach kws X.env)).filterMap (·.1) = ks := by rfl) (hdb : (x == ("__debug__" : Str)) = false := by decide)
    (he : starEach (e :: es) X.env = (false, eval e X.env) :: starEach es X.env := by rfl) (hpl : ((backTo pos (starEach (e :: es) X.env)).any (·.1) || (backToKw pos (keywordEach kws X.env)).any (·.1.isNone)) = false := by rfl) :
    PE X (.Call (.Name x p) (e :: es) kws pos) (tMakeKS C n ks.length sp gV E t tk) := by
  refine ⟨fun pins s σ H Q I h => ?_⟩
  refine wpAny_Call_Name_kw (ld_glob I hg hm ?_ hdb)
  refine PySem.W.callWith_KW (h₀ := X.base) I.ok.mod.kin M.kp hall (thn (ha.run pos pins s σ H _ I h) fun us s1 ⟨vs, H1, I1, r, q⟩ => ?_) hpl he
  refine thn (hkw.run pos pins s1 σ H1 _ I1 q) fun ws s2 ⟨zs, H2, I2, rz, l1, l2, q2⟩ => ⟨I2.kIn, ?_⟩
  rw [hks]
  exact run_makeKS M F hr hb (hx σ) I2 r rz l1 l2 q2
end
end L2
namespace FF
open PySem L2
/-! ### what a def that raises promises -/
/-- an error's own dict: its part -/
abbrev exd (p : Str) : HO := .xd [(("part" : Str), .str p)]
def spX (K : Kf) {ι : Type} (args : ι → List Sl) (pre : ι → Str → Prop) (C : Addr) : Sp := fun vs H _ E => ∃ (d : ι) (p : Str) (F : Fm) (I : Hp), vs.length = (args d).length ∧ pre d p ∧ p.length ≤ 1000 ∧ SR K F I I H (vs.map some) (args d) ∧
  ∀ dx H0' H', Same I H0' → Same H0' H' → Same F.k H' → (∀ a o, F.k a = some o → I a = none → H0' a = none) → H0' dx = some (exd p) → E (.ref C) (some dx) H'
abbrev spIX (K : Kf) {ι : Type} (C : Addr) (args : ι → List Sl) (pre : ι → Str → Prop) (CE : Addr) : Sp := spX K (ι := Addr × Addr × ι) (fun d => .ob d.1 C d.2.1 [] :: args d.2.2) (fun d p => pre d.2.2 p) CE
/-- an expression that raises | a block that raises -/
def EX (K : Kf) (te : TE) (Γ Γ' : List Sl) (C : Addr) (p : Str) (W : WX) : Prop := ∀ (F : Fm) (I H0 H : Hp) (σ : St), SR K F I H0 H σ Γ → (∀ dx H0' H', SR K F I H0' H' σ Γ' → Same H0 H0' → H0' dx = some (exd p) → W (.ref C) (some dx) σ H') → ∀ Q, te σ H Q
def RX (K : Kf) (t : TS) (Γ Γ' : List Sl) (C : Addr) (p : Str) (W : WX) : Prop := ∀ (F : Fm) (I H0 H : Hp) (σ : St) (D : Ends), SR K F I H0 H σ Γ → (∀ dx H0' H' σ', SR K F I H0' H' σ' Γ' → Same H0 H0' → H0' dx = some (exd p) → W (.ref C) (some dx) σ' H') → t D σ H
section
variable {K : Kf} {m m1 m2 : Bool} {te ta1 tb : TE} {ta tk : TA} {t u t1 t2 : TS} {tc : TT} {Γ Γ1 Γ2 Γ' : List Sl} {C CE : Addr} {p : Str} {W : WX} {ι : Type} {args : ι → List Sl} {preX : ι → Str → Prop} {as bs : List Ar}
theorem x_call (d : ι) (ha : A K m ta Γ Γ1 as) (hm : Mt as (args d)) (hp : preX d p) (hpl : p.length ≤ 1000) : EX K (tCallS (spX K args preX C) (WE W) ta) Γ Γ1 C p W := fun F I H0 H σ r q Q =>
  ha F I H0 H σ r _ fun vs H1 H1' r1 a1 b1 c1 => by
    have z := mt_sl (F := ⟨H1', H1', Same.refl _⟩) (fun _ _ e => e) r1.h hm c1
    refine ⟨d, p, ⟨H1', H1', Same.refl _⟩, H1, prd_len z.1, hp, hpl, sr_of (Same.refl _) (Same.refl _) (fun _ _ _ n => n) r1.h z.1 (fun n m _ h1 _ => z.2 n h1), fun dx H0' H' s1 s2 s3 g hd => ?_⟩
    exact q dx H0' H' (r1.step s1 s3 s2 (fun a o e n => g a o e n)) (a1.trans s1) hd
theorem make_coreX {F : Fm} {I H0 H : Hp} {σ : St} {vs : List V} {Q : VK} {C x dx CE : Addr} {p : Str} {as : List Ar} {E : XK} (r : SR K F I H0 H σ Γ) (c : Prd (arOk K H0 H σ) vs as) (d : ι) (hp : preX d p) (hpl : p.length ≤ 1000) (hm : Mt as (args d)) (hx : H x = none) (hdx : H dx = none) (hne : dx ≠ x)
    (q : ∀ de H0' H', SR K F I H0' H' σ Γ → Same H0 H0' → H0' de = some (exd p) → E (.ref CE) (some de) H') : spIX K C args preX CE (.ref x :: vs) (upd (upd H dx (.own x)) x (.ins C dx [])) Q E := by
  have z := mt_sl (F := ⟨H, H, Same.refl _⟩) (fun _ _ e => e) r.h hm c
  have s0 : Same H (upd (upd H dx (.own x)) x (.ins C dx [])) := fun b o e => by rw [upd_ne (ne_of_none e hx), upd_ne (ne_of_none e hdx)]; exact e
  have up : ∀ v s, slOk K ⟨H, H, Same.refl _⟩ H0 H (some v) s → notOb s = true → ¬ isOwn (some s) → slOk K ⟨H, H, Same.refl _⟩ H0 (upd (upd H dx (.own x)) x (.ins C dx [])) (some v) s := fun v s h h1 h2 => by
    cases s with
    | un => trivial
    | per _ _ => exact h
    | bor _ _ => exact h
    | bl _ _ => exact h
    | own _ _ _ => exact (h2 trivial).elim
    | dp _ _ _ => exact (h2 trivial).elim
    | gn _ => exact (h2 trivial).elim
    | ob _ _ _ _ => cases h1
  have nob : ∀ {as ss}, Mt as ss → ∀ s ∈ ss, notOb s = true := by
    intro as ss h
    induction h with
    | nil => intro s hs; cases hs
    | per _ ih => intro s hs; rcases List.mem_cons.mp hs with rfl | hs; rfl; exact ih s hs
    | pb _ ih => intro s hs; rcases List.mem_cons.mp hs with rfl | hs; rfl; exact ih s hs
    | bor _ ih => intro s hs; rcases List.mem_cons.mp hs with rfl | hs; rfl; exact ih s hs
    | bl _ ih => intro s hs; rcases List.mem_cons.mp hs with rfl | hs; rfl; exact ih s hs
    | pl _ ih => intro s hs; rcases List.mem_cons.mp hs with rfl | hs; rfl; exact ih s hs
  have lift : ∀ {us : List V} {ss : List Sl}, Prd (fun v s => slOk K ⟨H, H, Same.refl _⟩ H0 H (some v) s) us ss → (∀ n : Nat, ¬ isOwn ss[n]?) → (∀ s ∈ ss, notOb s = true) → Prd (fun v s => slOk K ⟨H, H, Same.refl _⟩ H0 (upd (upd H dx (.own x)) x (.ins C dx [])) (some v) s) us ss := by
    intro us ss h
    induction h with
    | nil => intro _ _; exact .nil
    | cons h t ih =>
      intro h1 h2
      exact .cons (up _ _ h (h2 _ List.mem_cons_self) (h1 0)) (ih (fun n => h1 (n + 1)) fun s hs => h2 s (List.mem_cons_of_mem _ hs))
  refine ⟨(x, dx, d), p, ⟨H, H, Same.refl _⟩, H0, by simp [prd_len z.1], hp, hpl, ?_, fun de H0' H' s1 s2 s3 g hd => ?_⟩
  · refine sr_of (vs := .ref x :: vs) s0 (Same.refl _) (fun _ _ _ n => n) (r.h.trans s0) (.cons ⟨rfl, hx, Same.free r.h hx, hdx, Same.free r.h hdx, by rw [upd_ne hne]; exact upd_same, [], upd_same, .nil⟩ (lift z.1 z.2 (nob hm))) fun n m ne h1 h2 => ?_
    cases n with
    | zero => exact h1
    | succ n => exact z.2 n h1
  · exact q de H0' H' (r.step s1 s3 s2 (fun a o e n => g a o e n)) s1 hd

theorem x_makeK {n k : Nat} {dvs : List V} {ds : List Ar} (d : ι) (ha : A K m ta Γ Γ1 as) (hb : A K false tk Γ1 Γ2 bs) (hd : ∀ H0 H σ, Prd (arOk K H0 H σ) dvs ds) (hn : as.length = n) (hk : bs.length = k)
    (hm : Mt (as ++ (bs ++ ds)) (args d)) (hp : preX d p) (hpl : p.length ≤ 1000) : EX K (tMakeKS C n k (spIX K C args preX CE) (fun vs zs => vs ++ (zs ++ dvs)) (WE W) ta tk) Γ Γ2 CE p W := fun F I H0 H σ r q Q =>
  ha F I H0 H σ r _ fun us H1 H1' r1 a1 b1 c1 => hb F I H1 H1' σ r1 _ fun ws H2 H2' r2 a2 b2 c2 => by
    have c1' : Prd (arOk K H2 H2' σ) us as := prd_mono (fun _ _ z => ar_mono a2 (b2 rfl) z) c1
    refine ⟨(prd_len c1).trans hn, (prd_len c2).trans hk, fun y dy hy hdy hne => ?_⟩
    exact make_coreX (vs := us ++ (ws ++ dvs)) r2 (prd_app c1' (prd_app c2 (hd _ _ _))) d hp hpl hm hy hdy hne fun de H0' H' r3 s0 hde => q de H0' H' r3 ((a1.trans a2).trans s0) hde
/-! ### blocks -/
theorem rx_sq (h : Go K t Γ Γ1) (k : RX K u Γ1 Γ' C p W) : RX K (tSeq t u) Γ Γ' C p W := fun F I H0 H σ D r q => h F I H0 H σ _ r fun H1 H1' σ1 a1 r1 => k F I H1 H1' σ1 D r1 fun dx a b c d e f => q dx a b c d (a1.trans e) f
theorem rx_as (h : RX K (tSeq t1 (tSeq t2 u)) Γ Γ' C p W) : RX K (tSeq (tSeq t1 t2) u) Γ Γ' C p W := h
theorem rx_nil (h : RX K u Γ Γ' C p W) : RX K (tSeq tNext u) Γ Γ' C p W := h
theorem rx_if {b : Bool} (h : Tt K m tc Γ Γ1 b) (h1 : b = true → RX K (tSeq t1 u) Γ1 Γ' C p W) (h2 : b = false → RX K (tSeq t2 u) Γ1 Γ' C p W) : RX K (tSeq (tIfS tc t1 t2) u) Γ Γ' C p W := fun F I H0 H σ D r q =>
  h F I H0 H σ r _ fun H1 H1' r1 a1 b1 => by
    cases b with
    | true => rw [if_pos rfl]; exact h1 rfl F I H1 H1' σ D r1 fun dx a b c d e f => q dx a b c d (a1.trans e) f
    | false => rw [if_neg (by decide)]; exact h2 rfl F I H1 H1' σ D r1 fun dx a b c d e f => q dx a b c d (a1.trans e) f
theorem rx_no (h : False) : RX K t Γ Γ' C p W := h.elim
theorem rx_ret (h : EX K te Γ Γ1 C p W) (w : Wk Γ1 Γ') : RX K (tSeq (tRet te) u) Γ Γ' C p W := fun F I H0 H σ D r q => h F I H0 H σ r (fun dx a b c d e => q dx a b σ (wk_sr c w) d e) _
theorem rx_drop (h : EX K te Γ Γ1 C p W) (w : Wk Γ1 Γ') : RX K (tDrop te) Γ Γ' C p W := fun F I H0 H σ D r q => h F I H0 H σ r (fun dx a b c d e => q dx a b σ (wk_sr c w) d e) _
theorem rx_raise (ha : A K m ta Γ Γ1 [ap p]) (hp : p.length ≤ 1000) (w : Wk Γ1 Γ') : RX K (tSeq (fun _ σ H => tMkEx C ta σ H fun cls d H' => W cls d σ H') u) Γ Γ' C p W := fun F I H0 H σ D r q =>
  ha F I H0 H σ r _ fun vs H1 H1' r1 a1 b1 c1 => by
    cases c1 with | cons z1 c1 => cases c1 with | nil =>
    cases (show _ = V.str p from z1)
    refine ⟨p, rfl, hp, fun d hd => ?_⟩
    obtain ⟨r2, s0, _⟩ := r1.alloc (o := exd p) hd
    exact q d _ _ σ (wk_sr r2 w) (a1.trans s0) upd_same
/-! ### try -/
/-- the error that a suite holds -/
@[reducible] def exR (a dx : Addr) : Rp PySem.Str := ⟨fun _ H v p => v = .ref a ∧ H dx = some (exd p), fun s h => ⟨h.1, s _ _ h.2⟩⟩
theorem SR.unset {F : Fm} {I H0 H : Hp} {σ : St} (r : SR K F I H0 H σ Γ) {i : Nat} (hi : i < Γ.length) : SR K F I H0 H (σ.set i none) (Γ.set i .un) := by
  have hσ : i < σ.length := Nat.lt_of_lt_of_le hi r.len
  have up : ∀ {k b}, Ftp H (σ.set i none) (Γ.set i .un) k b → Ftp H σ Γ k b := fun {k b} h => by
    rcases ftp_set h with ⟨rfl, ov, e, f⟩ | ⟨hk, t, ov, e1, e2, f⟩
    · exact f.elim
    · rw [List.getElem?_set_ne (Ne.symm hk)] at e2
      exact ⟨t, ov, e1, e2, f⟩
  refine ⟨r.f, r.i, r.g, r.h, by simpa using r.len, fun n t e => ?_, fun n m a ne h1 h2 => r.dj n m a ne (up h1) (up h2)⟩
  rcases get_set e with ⟨rfl, rfl⟩ | ⟨hn, e⟩
  · exact ⟨none, List.getElem?_set_self hσ, trivial⟩
  · obtain ⟨ov, q1, q2⟩ := r.ok n t e
    exact ⟨ov, by rw [List.getElem?_set_ne (Ne.symm hn)]; exact q1, q2⟩
variable {c : Value} {i : Nat} {tbw : WX → TS} {ts : Addr → Value → Option Addr → TS} {Wout : WX}
theorem exr_set {F : Fm} {I H0 H : Hp} {σ : St} (r : SR K F I H0 H σ Γ) {a dx : Addr} (hd : H0 dx = some (exd p)) (hi : i < Γ.length) : SR K F I H0 H (σ.set i (some (.ref a))) (Γ.set i (.per (exR a dx) p)) :=
  r.set (s := .per (exR a dx) p) ⟨.ref a, rfl, rfl, hd⟩ (fun _ z => z.elim) hi
/-- the body raises, the suite goes on -/
theorem g_tryX (hx : PySem.W.exmOne K (.ref C) c = some true) (hb : ∀ W, RX K (tbw W) Γ Γ1 C p W) (hi : i < Γ1.length) (hs : ∀ a dx, Go K (ts a (.ref C) (some dx)) (Γ1.set i (.per (exR a dx) p)) Γ2) (hi2 : i < Γ2.length) :
    Go K (fun D σ H => tbw (wAs K c i ts Wout D) D σ H) Γ (Γ2.set i .un) := fun F I H0 H σ D r q =>
  hb _ F I H0 H σ D r fun dx H1 H1' σ1 r1 a1 hd => ⟨true, hx, fun _ a _ => hs a dx F I H1 H1' _ _ (exr_set r1 hd hi) fun H2 H2' σ2 a2 r2 => q H2 H2' _ (a1.trans a2) (r2.unset hi2), fun z => nomatch z⟩
/-- .. the suite hands back -/
theorem r_tryX {ρ : Type} {rp : Rs ρ} {rg : ρ → List Sl} {cr : ρ} (hx : PySem.W.exmOne K (.ref C) c = some true) (hb : ∀ W, RX K (tbw W) Γ Γ1 C p W) (hi : i < Γ1.length) (hs : ∀ a dx (u' : TS), R K (tSeq (ts a (.ref C) (some dx)) u') (Γ1.set i (.per (exR a dx) p)) rp rg cr) :
    R K (tSeq (fun D σ H => tbw (wAs K c i ts Wout D) D σ H) u) Γ rp rg cr := fun F I H0 H σ D r q1 q2 =>
  hb _ F I H0 H σ _ r fun dx H1 H1' σ1 r1 a1 hd => ⟨true, hx, fun _ a _ => hs a dx (fun _ σ' H' => u D (σ'.set i none) H') F I H1 H1' _ { nx := fun _ _ => True, rt := D.rt, bk := fun σ' H' => D.bk (σ'.set i none) H', ct := fun σ' H' => D.ct (σ'.set i none) H' } (exr_set r1 hd hi) (fun v a b c d => q1 v a b c (a1.trans d)) (fun _ _ _ _ _ _ => True.intro), fun z => nomatch z⟩
/-! ### the error in its suite -/
def tPartEx (a C : Addr) (cls : Value) (d : Option Addr) (te : TE) : TE := fun σ H Q => te σ H fun x H1 => x = .ref a ∧ cls = .ref C ∧ ∃ (dd : Addr) (v : V), d = some dd ∧ H1 dd = some (.xd [(("part" : Str), v)]) ∧ Q v H1
theorem pe_partEx {X : Cx} {fI a C : Addr} {oe : Obj} {cls : Value} {d : Option Addr} {pn : List (Addr × Obj)} {e : Expr} {te : TE} {pos : Pos} (T : PySem.ExX.ExTxt X.prog X.K X.mg C fI) (hz : Zc cls d oe) (hf : ∃ vs, oe.data = .fields vs) (he : PE (X.suite a ((a, oe) :: pn)) e te)
    (hb : attributeBase e "part" X.env (eval e X.env) = eval e X.env := by rfl) :
    PE (X.suite a ((a, oe) :: pn)) (.Attribute e "part" pos) (tPartEx a C cls d te) := by
  refine ⟨fun pins s σ H Q I h => ?_⟩
  refine attr_of hb (thn (he.run pins s σ H _ I h) fun u s1 hh => ?_)
  obtain ⟨x, H1, I1, rx, ex, ec, dd, v, ed, ea, q⟩ := hh
  subst ex
  obtain rfl : u = Value.ref a := rx
  subst ec
  subst ed
  obtain ⟨ha, _⟩ := I1.pin (a, oe) (List.mem_append_left _ List.mem_cons_self)
  obtain ⟨vs, hd⟩ := hf
  have hx : ObjOk X.prog X.w H1 s1.heap dd (.xd [(("part" : Str), v)]) := I1.hok dd _ ea
  obtain ⟨mA, hns, hr⟩ := hx
  obtain ⟨od, ho, hl⟩ := lookIn_ns hns
  have l : List.lookup ("part" : Str) [(("part" : Str), v)] = some v := by simp [List.lookup]
  obtain ⟨u, hu, ru⟩ := RelO.some_of (v := v) (o := mA "part") (by rw [← l]; exact hr "part")
  have J : PySem.W.InstAt s1.heap a oe C (some od) := ⟨ha, hz.1, by unfold PySem.W.notCls; rw [hd] <;> rfl, by rw [hz.2]; exact ho⟩
  exact PySem.HandSPX.exc_get I1.kIn J T.ga T.gg T.exC (PySem.W.findObj_own T.hdC T.noN rfl (by rw [hl, hu])) (handed_of ru) ⟨v, H1, I1.tok _, ru, q⟩
theorem e_partEx {a dx : Addr} {n : Nat} (hn : Γ[n]? = some (.per (exR a dx) p)) : E K false true (tPartEx a C (.ref C) (some dx) (tVar n)) Γ Γ p := fun F I H0 H σ r Q q => by
  obtain ⟨ov, e1, v, e2, e3, e4⟩ := r.ok n _ hn
  subst e2
  exact ⟨v, e1, e3, rfl, dx, .str p, rfl, r.h _ _ e4, q _ H0 H r (Same.refl _) (fun _ => Same.refl _) rfl⟩
/-- isinstance(e, c), e the error, c a class or a tuple of classes -/
def rIsX (K : PySem.W.Frag) (D a : Addr) (cls : Value) (d : Option Addr) : List V → Hp → VK → Prop := fun xs H Q => cls = .ref D ∧ ∃ (dd : Addr) (v : V), d = some dd ∧ H dd = some (.xd [(("part" : Str), v)]) ∧
  ((∃ (c : V) (cv : Value) (b : Bool), xs = [.ref a, c] ∧ (∀ u, RelV c u → u = cv) ∧ PySem.W.kitOne K (.ref D) cv = some b ∧ Q (.bl b) H) ∨
    ∃ (tp : Addr) (cs : List Addr) (b : Bool), xs = [.ref a, .ref tp] ∧ SqT K H tp (cs.map V.ref) ∧ PySem.W.kitAny K (.ref D) (cs.map Value.ref) = some b ∧ Q (.bl b) H)
theorem vals_refs : ∀ {cs : List Addr} {us : List Value}, Vals (cs.map V.ref) us → us = cs.map Value.ref
  | [], _, .nil => rfl
  | c :: cs, _, .cons h t => by
    cases h
    rw [vals_refs t]; rfl
theorem call_isX {X : Cx} {a D fI : Addr} {oe : Obj} {cls : Value} {d : Option Addr} {pn : List (Addr × Obj)} (T : PySem.ExX.ExTxt X.prog X.K X.mg D fI) (C : ExcC X.K D) (hz : Zc cls d oe) (hf : ∃ vs, oe.data = .fields vs) : CallR (X.suite a ((a, oe) :: pn)) (.builtin "isinstance") (rIsX X.K D a cls d) := by
  intro pins s σ H xs us Q I r h
  obtain ⟨rfl, dd, v, rfl, ea, h⟩ := h
  obtain ⟨hget, _⟩ := I.pin (a, oe) (List.mem_append.mpr (.inl List.mem_cons_self))
  obtain ⟨vs, hv⟩ := hf
  have hx : ObjOk X.prog X.w H s.heap dd (.xd [(("part" : Str), v)]) := I.hok dd _ ea
  obtain ⟨mA, hns, hr⟩ := hx
  obtain ⟨od, ho, hl⟩ := lookIn_ns hns
  have J : PySem.W.InstAt s.heap a oe D (some od) := ⟨hget, hz.1, by unfold PySem.W.notCls; rw [hv] <;> rfl, by rw [hz.2]; exact ho⟩
  have Z : PySem.W.KitX X.K (.ref a) (.ref D) (fun h => PySem.W.InstAt h a oe D (some od)) :=
    { ty := fun _ _ _ I => I.type
      it := fun _ _ Xk I => by
        obtain ⟨cdD, hcD, _⟩ := PySem.W.any_some C.hd
        unfold PySem.W.clsIn at hcD
        split at hcD
        · rename_i c' d' cd' sl' hob
          intro A' Q' E' s' k q
          unfold isType loadHead
          exact wpAny_bind (wpAny_loadPart (k _ _ (Xk _ _ hob)) (wpAny_pure q))
        · cases hcD
      ne := (PySem.W.handS_kitx_exc (x := a) (ox := oe) C.hg C.hk C.hs C.hd C.ha C.hn C.ht C.hm).ne
      ca := fun Xk I k => PySem.W.kx_classE Xk I C.hg C.hk C.hs (PySem.W.findObj_dataE (by obtain ⟨cd, hc, _⟩ := PySem.W.any_some C.hd; rw [hc]; rfl) C.ha C.hn C.ht) C.hm k }
  rcases h with ⟨c, cv, b, rfl, hcv, hk, q⟩ | ⟨tp, cs, b, rfl, hq, hk, q⟩
  · cases r with | cons r1 r2 => cases r2 with | cons r2 r3 => cases r3 with | nil =>
    obtain rfl := r1
    obtain rfl := hcv _ r2
    exact PySem.W.kia_one Z I.kIn J hk (fun z => nomatch z) fun tk => ⟨.bl b, H, I.kept (t' := tk) fun _ _ z => z, rfl, q⟩
  · cases r with | cons r1 r2 => cases r2 with | cons r2 r3 => cases r3 with | nil =>
    obtain rfl := r1
    obtain rfl := r2
    obtain ⟨its, r', ⟨⟨⟨oc, od', odt, osl⟩, hg, hcl, n, hdt⟩, _⟩⟩ := I.tuple hq
    obtain rfl := vals_refs r'
    obtain rfl : oc = _ := hcl
    obtain rfl : odt = _ := hdt
    exact PySem.W.kia_tup Z I.kIn J hg hk (fun z => nomatch z) fun tk => ⟨.bl b, H, I.kept (t' := tk) fun _ _ z => z, rfl, q⟩
end
end FF

set_option Elab.async false
set_option linter.all false
set_option maxRecDepth 100000
set_option maxHeartbeats 2000000
namespace FF
open PySem L2
section
variable {P : Program} {w : World} {K : Kf} {mg : Str → Option Value} {base : Heap}
/-! ### defs that raise -/
structure ClX (P : Program) (w : World) (K : Kf) (mg : Str → Option Value) (base : Heap) (k : Nat) (x : Str) (sp : Sp) : Prop where
  ex : ∃ (f : Addr) (fd : FuncData) (ps : List Str), FnOk P w K mg base (L2.CX P w) k f fd ps sp ∧ mg x = some (.ref f) ∧ PySem.W.keepIn K (.ref f) = true ∧ Binds K fd ps []
structure MkX (P : Program) (w : World) (K : Kf) (mg : Str → Option Value) (base : Heap) (k : Nat) (x : Str) (C : Addr) (n : Nat) (ks : List Str) (gV : List V → List V → List V) (sp : Sp) : Prop where
  ex : ∃ (f : Addr) (fd : FuncData) (ps : List Str) (g : List Value → List Value → List Value), Mk K C f ∧ FnOk P w K mg base (L2.CX P w) k f fd ps sp ∧ mg x = some (.ref C) ∧ KBn K fd ps (n + 1) ks g gV
theorem fn_bodyX {ι : Type} {x qual : Str} {st : Stmt} {f : Addr} {fd : FuncData} {N ps : List Str} {k : Nat} {args : ι → List Sl} {preX : ι → Str → Prop} {C : Addr}
    (Fd : Fun K x qual st f fd) (S : FnScope N ps (defScope st)) (hl : ∀ d, (args d).length = ps.length)
    (hb : ∀ (cdv : Value) (A : Around) (outer : List Env) (s : Shared) (H : Hp) (E : XK), Room k (A.deeper (PyProof.Rows.envOfC qual (defScope st) s.heap.objs.size f cdv)) →
      ∃ t, PSs (cxOf (L2.CX P w) P w K mg base N qual (defScope st) f cdv A outer s H E) (defBody st) t ∧ ∀ d p, preX d p → p.length ≤ 1000 → ∃ Γ', RX K t (args d ++ List.replicate (N.length - ps.length) .un) Γ' C p (fun cls dd _ H => E cls dd H)) :
    FnOk P w K mg base (L2.CX P w) (k + 1) f fd ps (spX K args preX C) := by
  refine Fd.okX S (fun vs H Q E h => ?_) fun cdv A outer s H vs Q E hr h => ?_
  · obtain ⟨d, p, F, I, e, _⟩ := h
    exact e.trans (hl d)
  obtain ⟨d, p, F, I, e, hp, hpl, r0, q⟩ := h
  obtain ⟨t, h1, h2⟩ := hb cdv A outer s H E hr
  refine ⟨t, h1, ?_⟩
  have e1 : vs.length = ps.length := e.trans (hl d)
  have r1 : SR K F I I H (L2.start N vs) (args d ++ List.replicate (N.length - ps.length) .un) := by
    unfold L2.start
    rw [e1]
    exact sr_start r0 e _
  obtain ⟨Γ', h3⟩ := h2 d p hp hpl
  exact h3 F I I H _ _ r1 fun dx H0' H' σ' r2 s1 hd => q dx H0' H' s1 r2.h r2.f r2.g hd
theorem ClX.of {x : Str} {st : Stmt} {f : Addr} {fd : FuncData} {ps : List Str} {k : Nat} {sp : Sp} (Fd : Fun K x x st f fd) (hm : mg x = some (.ref f)) (b : Binds K fd ps []) (F : FnOk P w K mg base (L2.CX P w) k f fd ps sp) : ClX P w K mg base k x sp := ⟨f, fd, ps, F, hm, Fd.kp, b⟩
end
section
variable {X : Cx} {W : WX} {k j n : Nat} {C : Addr} {x : Str} {ks : List Str} {gV : List V → List V → List V} {sp : Sp} {p pos : Pos} {e : Expr} {es : List Expr} {kws : List Keyword} {t tk : TA}
theorem pe_clX (tw : Takes X W) (c : ClX X.prog X.w X.K X.mg X.base k x sp) (hr : Room j X.A) (hk : k ≤ j) (hg : Gl X x) (ha : PA X (e :: es) t)
    (hdb : (x == ("__debug__" : Str)) = false := by decide) (he : starEach (e :: es) X.env = (false, eval e X.env) :: starEach es X.env := by rfl) (hpl : (backTo pos (starEach es X.env)).any (·.1) = false := by rfl) :
    PE X (.Call (.Name x p) (e :: es) [] pos) (tCallS sp (WE W) t) := by
  obtain ⟨f, fd, ps, F, hm, kp, b⟩ := c.ex
  exact pe_callS F (hr.mono hk) hg hm kp b (fun σ => passAt tw σ) ha hdb he hpl
theorem pe_mkX (tw : Takes X W) (c : MkX X.prog X.w X.K X.mg X.base k x C n ks gV sp) (hr : Room j X.A) (hj : k + 1 ≤ j) (hg : Gl X x) (ha : PA X (e :: es) t) (hkw : PK X kws tk)
    (hall : (backToKw pos (keywordEach kws X.env)).all (·.1.isSome) = true := by rfl) (hks : (backToKw pos (keywordEach kws X.env)).filterMap (·.1) = ks := by rfl) (hdb : (x == ("__debug__" : Str)) = false := by decide)
    (he : starEach (e :: es) X.env = (false, eval e X.env) :: starEach es X.env := by rfl) (hpl : ((backTo pos (starEach (e :: es) X.env)).any (·.1) || (backToKw pos (keywordEach kws X.env)).any (·.1.isNone)) = false := by rfl) :
    PE X (.Call (.Name x p) (e :: es) kws pos) (tMakeKS C n ks.length sp gV (WE W) t tk) := by
  obtain ⟨f, fd, ps, g, M, F, hm, hb⟩ := c.ex
  exact pe_makeKS M F (hr.mono hj) hg hm hb (fun σ => passAt tw σ) ha hkw hall hks hdb he hpl
end
/-! ### isinstance of the error that a suite holds -/
section
variable {K : Kf} {Γ : List Sl} {p : PySem.Str} {a dx D : Addr} {n : Nat} {b : Bool}
theorem e_isX1 {c : V} {cv : Value} (hn : Γ[n]? = some (.per (exR a dx) p)) (hcv : ∀ u, RelV c u → u = cv) (hk : PySem.W.kitOne K (.ref D) cv = some b) :
    E K false true (tCB (rIsX K D a (.ref D) (some dx)) (tCons (tVar n) (tCons (tC c) tNil))) Γ Γ b := fun F I H0 H σ r Q q => by
  obtain ⟨ov, e1, v, e2, e3, e4⟩ := r.ok n _ hn
  subst e2; subst e3
  exact ⟨.ref a, e1, rfl, dx, .str p, rfl, r.h _ _ e4, .inl ⟨c, cv, b, rfl, hcv, hk, q _ H0 H r (Same.refl _) (fun _ => Same.refl _) rfl⟩⟩
def tcs : List Addr → TA
  | [] => tNil
  | c :: cs => tCons (tC (.ref c)) (tcs cs)
theorem tcs_run : ∀ {cs : List Addr} {σ : St} {H : Hp} {Q : List V → Hp → Prop}, Q (cs.map V.ref) H → tcs cs σ H Q
  | [], _, _, _, h => h
  | c :: cs, σ, H, Q, h => tcs_run (cs := cs) (Q := fun xs H1 => Q (.ref c :: xs) H1) h
theorem e_isXT (cs : List Addr) (hn : Γ[n]? = some (.per (exR a dx) p)) (hk : PySem.W.kitAny K (.ref D) (cs.map Value.ref) = some b) (hz : cs.length ≤ 1000 := by exact Nat.le_of_ble_eq_true rfl) :
    E K false true (tCB (rIsX K D a (.ref D) (some dx)) (tCons (tVar n) (tCons (tTup (tcs cs)) tNil))) Γ Γ b := fun F I H0 H σ r Q q => by
  obtain ⟨ov, e1, v, e2, e3, e4⟩ := r.ok n _ hn
  subst e2; subst e3
  refine ⟨.ref a, e1, tcs_run ⟨by rw [List.length_map]; exact Nat.le_trans hz (by decide), fun tp hp => ?_⟩⟩
  obtain ⟨r2, s0, s1⟩ := r.alloc (o := .tup (cs.map V.ref)) hp
  exact ⟨rfl, dx, .str p, rfl, s1 _ _ (r.h _ _ e4), .inr ⟨tp, cs, b, rfl, SqT.of upd_same, hk, q _ _ _ r2 s0 (fun _ => s1) rfl⟩⟩
end
/-! ### what the head says of an own error class -/
open PySem.W He
/-- the text of its __init__ -/
abbrev ExW : Type := Option (Str × Str × Arguments × FuncBody × Scope × Addr × List Str × Addr)
def exW (K : Kf) (x : Str) : ExW := match K.lookup (ma K (ga K x) "__init__") with
  | some ⟨_, _, .func fd, _⟩ => some (fd.name, fd.qualname, fd.params, fd.body, fd.scope, fd.globals, fd.closure.map (·.1), fd.builtins)
  | _ => none
structure ExD where
  x : Str
  qual : Str
  msg : Str
  st : Stmt
def ExD.val (d : ExD) : ExW := some ("__init__", d.qual, defArgs d.st, .stmts (defBody d.st), defScope d.st, mainGlobals, ["__class__"], builtinsNs)
def exCls (K : Kf) (C : Addr) : Bool := match K.lookup C with
  | some ⟨.type "type", _, .cls cd, sl⟩ => (match cd.mro, sl.toList with
    | .ref C' :: bm, [_, _, _, _, some (.builtin n), _] => decide (C' = C) && (decide (n = "ValueError.__new__") && (!cd.hasDel && (cd.hasDict && PySem.HandSPX.refsVE bm)))
    | _, _ => false)
  | _ => false
def exFn (K : Kf) (C fI : Addr) (qual msg file : Str) : Bool := match K.lookup fI with
  | some ⟨_, _, .func fd, _⟩ => (match fd.defaults, fd.kwdefaults, fd.code, fd.closure with
    | .none, .none, .ref cda, [(_, cc)] => PySem.W.codeIn K (.ref cda) qual && (decide (msg.length ≤ 1000) && ((match K.lookup cda with
      | some ⟨_, _, .fields vs, _⟩ => (match (vs[2]? : Option Value) with
        | some (Value.str f _) => file == f
        | _ => false)
      | _ => false) && (match K.lookup cc with
        | some ⟨_, _, .cell (some (.ref C')), _⟩ => decide (C' = C)
        | _ => false)))
    | _, _, _, _ => false)
  | _ => false
def exB (file : Str) (K : Kf) (d : ExD) : Bool :=
  let C := ga K d.x
  let fI := ma K C "__init__"
  exCls K C && (decide (findIn K (.ref C) "__setattr__" = some (some (.builtin "object.__setattr__"))) && (decide (findIn K (.ref C) "__getattribute__" = some (some (.builtin "BaseException.__getattribute__"))) && (decide (findIn K (.ref C) "__getattr__" = some none) &&
  (decide (findIn K (.ref C) "part" = some none) && (decide (findIn K (.ref C) "__init__" = some (some (.ref fI))) && (decide (typeIn K (.ref fI) = some (.type "function")) && (keepIn K (.ref C) && (decide (subIn K (.ref C) (.type "BaseException") = some true) &&
  (decide (subIn K (.ref C) (.type "ValueError") = some true) && (decide (typeIn K (.ref C) = some (.type "type")) && (hasDictIn K C && (decide (mroIn K C (.ref C) = some true) && (decide (ks_superIn K C C "__init__" = some (some (.builtin "ValueError.__init__"))) &&
  (decide (nsIn K mainGlobals "super" = some none) && (decide (nsIn K cStatics "thirdparty.any" = some none) && (exFn K C fI d.qual d.msg file && (decide (findIn K (.ref C) "__class__" = some (some (.builtin "object.__class__"))) &&
  (decide (specialIn K (.builtin "object.__class__") "__get__" = some (some (.builtin "getset_descriptor.__get__"))) && (decide (takesIn K (.builtin "object.__class__") = some true) && decide (mroIn K C (.type "object") = some true))))))))))))))))))))
theorem exB_ok {P : Program} {mg : Str → Option Value} {K : Kf} {d : ExD} {file : Str} (h : exB file K d = true) (e : exW K d.x = d.val) (hsup : (P.main.scope.names.lookup ("super" : Str)).isSome = false) (hf : (P.main.file : Str) = file)
    (hA : ∃ p1 p2 q1 q2 q3 q4 q5 q6 q7 q8 q9 q10 q11 q12 q13, defArgs d.st = PySem.ExX.iA p1 p2 ∧ defBody d.st = PySem.ExX.iB d.msg q1 q2 q3 q4 q5 q6 q7 q8 q9 q10 q11 q12 q13 ∧ defScope d.st = PySem.ExX.iS ∧ (q3.endLine == q8.line) = true) :
    PySem.ExX.ExTxt P K mg (ga K d.x) (ma K (ga K d.x) "__init__") ∧ L2.ExcC K (ga K d.x) := by
  unfold exB at h
  simp only [Bool.and_eq_true, decide_eq_true_eq] at h
  obtain ⟨h1, h2, h3, h4, h5, h6, h7, h8, h9, h10, h11, h12, h13, h14, h15, h16, h17, h18, h19, h20, h21⟩ := h
  refine ⟨⟨?_, h2, h3, h4, h5, h6, h7, h8, h9, h10, h11, h12, h13, h14, h15, h16, hsup, ?_⟩, ⟨h3, h4, h9, h12, h18, h19, h20, h21⟩⟩
  · unfold exCls at h1
    split at h1
    · rename_i dd cd sl ho
      split at h1
      · rename_i C' bm k0 k1 k2 k3 n k5 hm hs
        simp only [Bool.and_eq_true, decide_eq_true_eq, Bool.not_eq_true'] at h1
        obtain ⟨rfl, rfl, hdel, hdc, ht⟩ := h1
        obtain ⟨nm, bs, mro, ns, qn, hd, sn, sub, ab, col, del⟩ := cd
        dsimp only at hm hdel hdc
        subst hm hdel hdc
        have hsl : sl = #[k0, k1, k2, k3, some (.builtin "ValueError.__new__"), k5] := by
          obtain ⟨l⟩ := sl
          simp only at hs
          rw [hs]
        subst hsl
        exact ⟨nm, qn, ns, bs, bm, sn, sub, ab, col, dd, k0, k1, k2, k3, k5, ho, ht⟩
      · cases h1
    · cases h1
  · obtain ⟨p1, p2, q1, q2, q3, q4, q5, q6, q7, q8, q9, q10, q11, q12, q13, eA, eB, eS, eq⟩ := hA
    unfold exFn at h17
    unfold exW at e
    split at h17
    · rename_i oc od fd osl ho
      rw [ho] at e
      split at h17
      · rename_i cda k0 cc e1 e2 e3 e4
        simp only [Bool.and_eq_true, decide_eq_true_eq] at h17
        obtain ⟨g1, g2, g3, g4⟩ := h17
        obtain ⟨n1, n2, n3, n4, n5, n6, n7, n8, n9, n10, n11, n12, n13, n14, n15⟩ := fd
        dsimp only at e1 e2 e3 e4
        subst e1 e2 e3 e4
        have e' : (some (n1, n2, n3, n4, n5, n6, [k0], n15) : ExW) = some (("__init__" : Str), d.qual, defArgs d.st, FuncBody.stmts (defBody d.st), defScope d.st, mainGlobals, [("__class__" : Str)], builtinsNs) := e
        simp only [Option.some.injEq, Prod.mk.injEq, List.cons.injEq, and_true] at e'
        obtain ⟨rfl, rfl, rfl, rfl, rfl, rfl, rfl, rfl⟩ := e'
        rw [eA, eB, eS] at ho
        refine ⟨oc, od, n10, n11, n12, n14, osl, _, d.msg, cda, cc, p1, p2, q1, q2, q3, q4, q5, q6, q7, q8, q9, q10, q11, q12, q13, ho, g1, g2, eq, ?_, ?_⟩
        · split at g3
          · rename_i ccl cdd vs ccs hc
            split at g3
            · rename_i f tf hv
              exact ⟨ccl, cdd, vs, ccs, f, tf, hc, hv, by rw [hf]; exact g3⟩
            · cases g3
          · cases g3
        · split at g4
          · rename_i cl cld C' csl hc
            obtain rfl := of_decide_eq_true g4
            exact ⟨cl, cld, csl, hc⟩
          · cases g4
      · cases h17
    · cases h17
/-! ### the hook: defs, more facts, the texts of the errors' __init__ -/
def hookX (n : Nat) (fa : List Fa) (fn : List DefD) (ex : Kf → Bool) (xs : List ExD) : PySem.W.Hook where
  α := (AlD × Bool) × List ExW
  obs := fun s => ((obsD fa fn (frG s.heap.get? (cStatics :: asD s.heap.get? n)), ex (frG s.heap.get? (cStatics :: asD s.heap.get? n))), xs.map fun d => exW (frG s.heap.get? (cStatics :: asD s.heap.get? n)) d.x)
  val := fun _ => ((valD fn, true), xs.map ExD.val)
  says := fun _ h => ∃ K : Kf, K.In h ∧ SaysD fa fn K ∧ ex K = true ∧ (xs.map fun d => exW K d.x) = xs.map ExD.val
  of := fun _ _ e => ⟨_, frG_in, congrArg (fun z : (AlD × Bool) × List ExW => z.1.1) e, congrArg (fun z : (AlD × Bool) × List ExW => z.1.2) e, congrArg (fun z : (AlD × Bool) × List ExW => z.2) e⟩
  keeps := fun _ _ _ ⟨K, hK, c⟩ k => ⟨K, PySem.W.Frag.In.keeps hK k, c⟩
def obsXG (n : Nat) (fa : List Fa) (fn : List DefD) (ex : Kf → Bool) (xs : List ExD) (g : Addr → Option Obj) : (AlD × Bool) × List ExW := ((obsD fa fn (frG g (cStatics :: asD g n)), ex (frG g (cStatics :: asD g n))), xs.map fun d => exW (frG g (cStatics :: asD g n)) d.x)
theorem obsXG_eq {n : Nat} {fa : List Fa} {fn : List DefD} {ex : Kf → Bool} {xs : List ExD} {g : Addr → Option Obj} {s : Shared} (h : ∀ a, g a = s.heap.get? a) : obsXG n fa fn ex xs g = (hookX n fa fn ex xs).obs s := by
  have e : g = s.heap.get? := funext h
  rw [e] <;> rfl
/-! ### more blocks that raise -/
def tTry (K : Kf) (c : Value) (i : Nat) (tb : WX → TS) (ts : Addr → Value → Option Addr → TS) (Wout : WX) : TS := fun D σ H => tb (wAs K c i ts Wout D) D σ H
theorem ps_tryK {X : Cx} {x n : Str} {c : Value} {i : Nat} {body suite : List Stmt} {b₀ : Stmt} {np pos pos' : Pos} {tb : WX → TS} {ts : Addr → Value → Option Addr → TS} {Wout : WX} (hs : X.stack = X.env :: X.outer) (hf : X.env.frame = some X.env.locals) (hN : X.N.Nodup) (hi : X.N[i]? = some n) (hln : X.env.kindOf n = some .local) (hc : Names X x c) (tk : Takes X Wout)
    (hb : ∀ (W : WX) (pn : List (Addr × Obj)) (xe : Value → Shared → Prop), Takes (X.tr pn xe) W → PassesOwn (model X.prog X.w) X.A X.env xe → PSs (X.tr pn xe) body (tb W))
    (hsu : ∀ (a : Addr) (oe : Obj) (cls : Value) (d : Option Addr) (pn : List (Addr × Obj)), Zc cls d oe → (∃ vs, oe.data = .fields vs) → PSs (X.suite a ((a, oe) :: pn)) (b₀ :: suite) (ts a cls d)) :
    PS X (.Try body [.ExceptHandler (some (.Name x np)) (some n) (b₀ :: suite) pos'] [] [] pos) (tTry X.K c i tb ts Wout) := ps_try_as hs hf hN hi hln hc tk hb hsu
section
variable {K : Kf} {m m1 m2 : Bool} {te : TE} {t u t1 t2 : TS} {tc : TT} {Γ Γ1 Γ2 Γ' : List Sl} {C CE : Addr} {p : PySem.Str} {W : WX}
theorem rx_bd {α : Type u} {x : α} {Γx : α → List Sl} (h : Go K t Γ (Γx x)) (k : ∀ y, y = x → RX K u (Γx y) Γ' C p W) : RX K (tSeq t u) Γ Γ' C p W := rx_sq h (k x rfl)
theorem rx_bdI {α : Type u} {x : α} {Γx : α → List Sl} {Iv : α → Prop} (h : Go K t Γ (Γx x) ∧ Iv x) (k : ∀ y, y = x → Iv y → RX K u (Γx y) Γ' C p W) : RX K (tSeq t u) Γ Γ' C p W := rx_sq h.1 (k x rfl h.2)
theorem rx_let {α : Type u} {x : α} (k : ∀ y, y = x → RX K t Γ Γ' C p W) : RX K t Γ Γ' C p W := k x rfl
theorem rx_dropS (h : EX K te Γ Γ1 C p W) (w : Wk Γ1 Γ') : RX K (tSeq (tDrop te) u) Γ Γ' C p W := fun F I H0 H σ D r q => h F I H0 H σ r (fun dx a b c d e => q dx a b σ (wk_sr c w) d e) _
theorem rx_setS {i : Nat} (h : EX K te Γ Γ1 C p W) (w : Wk Γ1 Γ') : RX K (tSeq (tAsg te (gName i)) u) Γ Γ' C p W := fun F I H0 H σ D r q => h F I H0 H σ r (fun dx a b c d e => q dx a b σ (wk_sr c w) d e) _
theorem g_tryXJ {J : Type} (Γj : J → List Sl) (Pe : J → Prop) {x : J} {c : Value} {i : Nat} {tbw : WX → TS} {ts : Addr → Value → Option Addr → TS} {Wout : WX} (hx : PySem.W.exmOne K (.ref C) c = some true) (hb : ∀ W, RX K (tbw W) Γ Γ1 C p W)
    (hs : ∀ a dx, GP K (ts a (.ref C) (some dx)) (Γ1.set i (.per (exR a dx) p)) Γj Pe x) (he : (Γj x).set i .un = Γj x := by rfl) (hi : i < Γ1.length := by exact Nat.le_of_ble_eq_true rfl) (hi2 : i < (Γj x).length := by exact Nat.le_of_ble_eq_true rfl) :
    Go K (tTry K c i tbw ts Wout) Γ (Γj x) ∧ Pe x := ⟨he ▸ g_tryX hx hb hi (fun a dx => (hs a dx).1) hi2, (hs 0 0).2⟩
theorem r_tryXJ {ρ : Type} {rp : Rs ρ} {rg : ρ → List Sl} {cr : ρ} {c : Value} {i : Nat} {tbw : WX → TS} {ts : Addr → Value → Option Addr → TS} {Wout : WX} (hx : PySem.W.exmOne K (.ref C) c = some true) (hb : ∀ W, RX K (tbw W) Γ Γ1 C p W)
    (hs : ∀ a dx (u' : TS), R K (tSeq (ts a (.ref C) (some dx)) u') (Γ1.set i (.per (exR a dx) p)) rp rg cr) (hi : i < Γ1.length := by exact Nat.le_of_ble_eq_true rfl) :
    R K (tSeq (tTry K c i tbw ts Wout) u) Γ rp rg cr := r_tryX hx hb hi hs
end
structure ExK (P : Program) (K : Kf) (mg : Str → Option Value) (C : Addr) : Prop where
  ex : ∃ fI, PySem.ExX.ExTxt P K mg C fI ∧ L2.ExcC K C
theorem pmk_exK {X : Cx} {C : Addr} {x : Str} {a : Expr} {ta : TA} {p pos : Pos} {k : Nat} (T : ExK X.prog X.K X.mg C) (gC : X.mg x = some (.ref C)) (hr : Room k X.A) (ha : PA X [a] ta) (hg : Gl X x) (hdb : (x == ("__debug__" : Str)) = false := by decide)
    (he : starEach (a :: []) X.env = (false, eval a X.env) :: starEach [] X.env := by rfl) (hpl : (backTo pos (starEach [] X.env)).any (·.1) = false := by rfl) : PMk X (.Call (.Name x p) [a] [] pos) (tMkEx C ta) := by
  obtain ⟨fI, T, _⟩ := T.ex
  exact pmk_ex T gC hr ha hg hdb he hpl
theorem pe_partK {X : Cx} {a C : Addr} {oe : Obj} {cls : Value} {d : Option Addr} {pn : List (Addr × Obj)} {e : Expr} {te : TE} {pos : Pos} (T : ExK X.prog X.K X.mg C) (hz : Zc cls d oe) (hf : ∃ vs, oe.data = .fields vs) (he : PE (X.suite a ((a, oe) :: pn)) e te)
    (hb : attributeBase e "part" X.env (eval e X.env) = eval e X.env := by rfl) : PE (X.suite a ((a, oe) :: pn)) (.Attribute e "part" pos) (tPartEx a C cls d te) := by
  obtain ⟨fI, T, _⟩ := T.ex
  exact pe_partEx T hz hf he hb
theorem call_isK {X : Cx} {a D : Addr} {oe : Obj} {cls : Value} {d : Option Addr} {pn : List (Addr × Obj)} (T : ExK X.prog X.K X.mg D) (hz : Zc cls d oe) (hf : ∃ vs, oe.data = .fields vs) : CallR (X.suite a ((a, oe) :: pn)) (.builtin "isinstance") (rIsX X.K D a cls d) := by
  obtain ⟨fI, T, C⟩ := T.ex
  exact call_isX T C hz hf
/-- its kin, by the head -/
theorem kit_ok {K : Kf} {t c : Value} {b : Bool} (h : decide (PySem.W.kitOne K t c = some b) = true) : PySem.W.kitOne K t c = some b := of_decide_eq_true h
theorem kia_ok {K : Kf} {t : Value} {cs : List Value} {b : Bool} (h : decide (PySem.W.kitAny K t cs = some b) = true) : PySem.W.kitAny K t cs = some b := of_decide_eq_true h
/-! ### keywords in any turn -/
section
variable {K : Kf} {m m1 m2 : Bool} {ta tk : TA} {Γ Γ1 Γ2 : List Sl} {ι : Type} {args : ι → List Sl} {as bs cs : List Ar}
theorem x_makeKG {C CE : Addr} {p : PySem.Str} {W : WX} {preX : ι → PySem.Str → Prop} {n k : Nat} {gV : List V → List V → List V} (d : ι) (ha : A K m ta Γ Γ1 as) (hb : A K false tk Γ1 Γ2 bs)
    (har : ∀ H0 H σ us ws, Prd (arOk K H0 H σ) us as → Prd (arOk K H0 H σ) ws bs → Prd (arOk K H0 H σ) (gV us ws) cs) (hn : as.length = n) (hk : bs.length = k)
    (hm : Mt cs (args d)) (hp : preX d p) (hpl : p.length ≤ 1000) (hg : ∀ x us ws, gV (x :: us) ws = x :: gV us ws := by exact fun _ _ _ => rfl) : EX K (tMakeKS C n k (spIX K C args preX CE) gV (WE W) ta tk) Γ Γ2 CE p W := fun F I H0 H σ r q Q =>
  ha F I H0 H σ r _ fun us H1 H1' r1 a1 b1 c1 => hb F I H1 H1' σ r1 _ fun ws H2 H2' r2 a2 b2 c2 => by
    have c1' : Prd (arOk K H2 H2' σ) us as := prd_mono (fun _ _ z => ar_mono a2 (b2 rfl) z) c1
    refine ⟨(prd_len c1).trans hn, (prd_len c2).trans hk, fun y dy hy hdy hne => ?_⟩
    rw [hg]
    exact make_coreX (vs := gV us ws) r2 (har _ _ _ _ _ c1' c2) d hp hpl hm hy hdy hne fun de H0' H' r3 s0 hde => q de H0' H' r3 ((a1.trans a2).trans s0) hde
theorem e_makeKG {α : Type} {C : Addr} {pre : ι → Prop} {fields : ι → List (PySem.Str × Pv)} {fs : α → List (PySem.Str × Pv)} {n k : Nat} {gV : List V → List V → List V} (d : ι) (x : α) (ha : A K m ta Γ Γ1 as) (hb : A K false tk Γ1 Γ2 bs)
    (har : ∀ H0 H σ us ws, Prd (arOk K H0 H σ) us as → Prd (arOk K H0 H σ) ws bs → Prd (arOk K H0 H σ) (gV us ws) cs) (hn : as.length = n) (hk : bs.length = k)
    (hm : Mt cs (args d)) (hp : pre d) (hx : fs x = fields d) (hg : ∀ x us ws, gV (x :: us) ws = x :: gV us ws := by exact fun _ _ _ => rfl) : @E K m true (tMakeK C n k (spI K C args pre fields) gV E0 ta tk) Γ Γ2 α (repOb C fs) x := fun F I H0 H σ r Q q =>
  ha F I H0 H σ r _ fun us H1 H1' r1 a1 b1 c1 => hb F I H1 H1' σ r1 _ fun ws H2 H2' r2 a2 b2 c2 => by
    have c1' : Prd (arOk K H2 H2' σ) us as := prd_mono (fun _ _ z => ar_mono a2 (b2 rfl) z) c1
    refine ⟨(prd_len c1).trans hn, (prd_len c2).trans hk, fun y dy hy hdy hne => ?_⟩
    rw [hg]
    refine make_core (vs := gV us ws) r2 (har _ _ _ _ _ c1' c2) d hp hm hy hdy hne fun v H0' H' vs r3 s0 s1 h1 h2 h3 hv => ⟨hv, ?_⟩
    exact q _ H0' H' r3 ((a1.trans a2).trans s0) (fun z => ((b1 z).trans (b2 rfl)).trans s1) ⟨y, dy, vs, rfl, h1, h2, by rw [hx]; exact h3⟩
end
theorem kbn_binds {K : Kf} {fd : FuncData} {ps : List PySem.Str} {ds : List Value} {dvs : List V} {n : Nat} (b : Binds K fd ps ds) (hd : Vals dvs ds) (hl : n + dvs.length = ps.length) : KBn K fd ps n [] (fun us ws => us ++ (ws ++ ds)) (fun vs zs => vs ++ (zs ++ dvs)) where
  to := fun s us ws h l1 l2 => by
    cases ws with
    | cons _ _ => cases l2
    | nil => exact b s us h (by rw [List.length_append, l1, ← hd.length]; exact hl)
  rel := fun r1 r2 => r1.append (r2.append hd)
end FF

set_option Elab.async false
set_option linter.all false
set_option maxRecDepth 100000
set_option maxHeartbeats 2000000
namespace FF
open PySem L2
/-! ### a text in a text -/
def inStr (i j : PySem.Str) : Bool := !(Builtin.Str.occurrences j i 0 j.length 1).isEmpty
def rInT : R2 := fun x y H Q => ∃ i j, x = .str i ∧ y = .str j ∧ Q (.bl (inStr i j)) H
theorem op_inT {X : Cx} : OpR X (compareOp .In) rInT := op_in_str
section
variable {K : Kf} {m1 m2 p1 p2 : Bool} {ta tb : TE} {Γ Γ1 Γ2 : List Sl}
theorem e_inStr {x y : PySem.Str} (ha : E K m1 p1 ta Γ Γ1 x) (hb : E K m2 p2 tb Γ1 Γ2 y) : E K (m1 || m2) true (tOp rInT ta tb) Γ Γ2 (inStr x y) := fun F I H0 H σ r Q q =>
  ha.sc F I H0 H σ r _ fun v H1 H1' r1 a1 b1 c1 => hb.sc F I H1 H1' σ r1 _ fun w H2 H2' r2' a2 b2 c2 => by
    subst c1; subst c2
    exact ⟨x, y, rfl, rfl, q _ H2 H2' r2' (a1.trans a2) (same_mm b1 b2) rfl⟩
theorem e_len4 {α β γ δ : Type} {m p : Bool} [i : Rp α] [j : Rp β] [k : Rp γ] [l : Rp δ] {x : T4 α β γ δ} (h : E K m p ta Γ Γ1 x) : E K m true (tCB (rLen1 K) (tCons ta tNil)) Γ Γ1 (4 : Int) := fun F I H0 H σ r Q q =>
  h.nowP F I H0 H σ r _ fun v H1 H1' r1 a1 b1 c1 => by
    obtain ⟨a, _, _, _, _, rfl, hs, _⟩ := c1
    exact ⟨a, _, rfl, .inr hs, q _ H1 H1' r1 a1 b1 rfl⟩
end
example : inStr (PySem.Str.ofString "1") (PySem.Str.ofString "0123") = true := by decide +kernel
example : inStr (PySem.Str.ofString "a") (PySem.Str.ofString "0123") = false := by decide +kernel
end FF

set_option Elab.async false
set_option linter.all false
set_option maxRecDepth 100000
set_option maxHeartbeats 2000000
namespace FF
open PySem L2
/-! ### an expression that is never reached; tuple(a lent list); a list of own lists in a test -/
def tNo : TE := fun _ _ _ => False
theorem pe_no {X : Cx} {e : Expr} : PE X e tNo := ⟨fun _ _ _ _ _ _ h => h.elim⟩
section
variable {K : Kf} {Γ Γ2 : List Sl}
theorem e_no {α : Type} [Rp α] {x : α} (h : False) : E K false true tNo Γ Γ x := h.elim
theorem e_tupBl {α : Type} {i : Rp α} {xs : List α} {n : Nat} (hn : Γ[n]? = some (.bl i xs)) : E K false true (tCB (rTuple1 K) (tCons (tVar n) tNil)) Γ Γ (Tu.mk xs) := fun F I H0 H σ r Q q => by
  obtain ⟨a, vs, e1, e2, e3⟩ := bl_at r hn
  refine ⟨.ref a, e1, a, vs, rfl, .inl ⟨(show SqL K H a vs from SqL.of (r.f _ _ (F.sub _ _ e2))), fun l hl => ?_⟩⟩
  obtain ⟨r2, s0, s1⟩ := r.alloc (o := .tup vs) hl
  exact q _ _ _ r2 s0 (fun _ => s1) ⟨l, vs, rfl, SqT.of upd_same, prd_mono (fun _ _ z => i.mono s0 z) e3⟩
theorem t_frzD {β : Type} {i : Rp β} {xss : List (List β)} {n : Nat} {a : Option Addr} {tt : TT} {b : Bool} (hn : Γ[n]? = some (.dp i a xss)) (h : Tt K false tt (Γ.set n (.per (inferInstance : Rp (List (List β))) xss)) Γ2 b) : Tt K false tt Γ Γ b := fun F I H0 H σ r Q q => by
  obtain ⟨c, bs, G, _, s0, _, _, _, r'⟩ := r.dfrzP hn
  exact h F I G H σ r' Q fun H1 H1' r1 a1 b1 => q H0 H1' (r.ext (b1 rfl)) (Same.refl _) (fun _ => b1 rfl)
end
end FF

set_option Elab.async false
set_option linter.all false
set_option maxRecDepth 100000
set_option maxHeartbeats 2000000
/-! a tuple of one of several shapes, told apart by its first word: (text, int, int, int), (text, int, int), (text, int, int, tuple of ints), (text, text, int, int) -/
namespace FF
open PySem L2
abbrev FA := T4 PySem.Str Int Int Int
abbrev FB := T3 PySem.Str Int Int
abbrev FC := T4 PySem.Str Int Int (Tu Int)
abbrev FD := T4 PySem.Str PySem.Str Int Int
inductive Fact
  | a (x : FA)
  | b (x : FB)
  | c (x : FC)
  | d (x : FD)
instance : Inhabited Fact := ⟨.b ⟨"", 0, 0⟩⟩
instance : Rp Fact := ⟨fun K H v f => match f with
    | .a x => rep K H v x
    | .b x => rep K H v x
    | .c x => rep K H v x
    | .d x => rep K H v x,
  fun {K H H' v f} s h => by
    cases f with
    | a x => exact (inferInstance : Rp FA).mono s h
    | b x => exact (inferInstance : Rp FB).mono s h
    | c x => exact (inferInstance : Rp FC).mono s h
    | d x => exact (inferInstance : Rp FD).mono s h⟩
def Fact.w : Fact → PySem.Str
  | .a x => x.a | .b x => x.a | .c x => x.a | .d x => x.a
def Fact.i1 : Fact → Int
  | .a x => x.b | .b x => x.b | .c x => x.b | .d _ => 0
def Fact.s1 : Fact → PySem.Str
  | .d x => x.b | _ => ""
def Fact.i2 : Fact → Int
  | .a x => x.c | .b x => x.c | .c x => x.c | .d x => x.c
def Fact.i3 : Fact → Int
  | .a x => x.d | .d x => x.d | _ => 0
def Fact.z3 : Fact → Tu Int
  | .c x => x.d | _ => ⟨[]⟩
def Fact.k : Fact → Nat
  | .a _ => 0 | .b _ => 1 | .c _ => 2 | .d _ => 3
def Fact.oa : Fact → FA
  | .a x => x | _ => ⟨"", 0, 0, 0⟩
def Fact.od : Fact → FD
  | .d x => x | _ => ⟨"", "", 0, 0⟩
section
variable {K : Kf} {m p : Bool} {te : TE} {Γ Γ1 : List Sl}
theorem e_Fa {x : FA} (h : E K m p te Γ Γ1 x) : E K m p te Γ Γ1 (Fact.a x) := h
theorem e_Fb {x : FB} (h : E K m p te Γ Γ1 x) : E K m p te Γ Γ1 (Fact.b x) := h
theorem e_Fc {x : FC} (h : E K m p te Γ Γ1 x) : E K m p te Γ Γ1 (Fact.c x) := h
theorem e_Fd {x : FD} (h : E K m p te Γ Γ1 x) : E K m p te Γ Γ1 (Fact.d x) := h
theorem e_oa {f : Fact} (h : E K m p te Γ Γ1 f) (hk : f.k = 0) : E K m p te Γ Γ1 f.oa := by
  cases f <;> first | exact h | cases hk
theorem e_od {f : Fact} (h : E K m p te Γ Γ1 f) (hk : f.k = 3) : E K m p te Γ Γ1 f.od := by
  cases f <;> first | exact h | cases hk
theorem e_fw {f : Fact} (h : E K m p te Γ Γ1 f) : E K m p (tOp (rIxT K) te (tC (.int 0))) Γ Γ1 f.w := by
  cases f with
  | a x => exact e_p4a (x := x) h
  | b x => exact e_p3a (x := x) h
  | c x => exact e_p4a (x := x) h
  | d x => exact e_p4a (x := x) h
theorem e_f1 {f : Fact} (h : E K m p te Γ Γ1 f) (hk : f.k ≠ 3) : E K m p (tOp (rIxT K) te (tC (.int 1))) Γ Γ1 f.i1 := by
  cases f with
  | a x => exact e_p4b (x := x) h
  | b x => exact e_p3b (x := x) h
  | c x => exact e_p4b (x := x) h
  | d x => exact absurd rfl hk
theorem e_fs {f : Fact} (h : E K m p te Γ Γ1 f) (hk : f.k = 3) : E K m p (tOp (rIxT K) te (tC (.int 1))) Γ Γ1 f.s1 := by
  cases f <;> first | cases hk; done | exact e_p4b (x := _) h
theorem e_f2 {f : Fact} (h : E K m p te Γ Γ1 f) : E K m p (tOp (rIxT K) te (tC (.int 2))) Γ Γ1 f.i2 := by
  cases f with
  | a x => exact e_p4c (x := x) h
  | b x => exact e_p3c (x := x) h
  | c x => exact e_p4c (x := x) h
  | d x => exact e_p4c (x := x) h
theorem e_f3 {f : Fact} (h : E K m p te Γ Γ1 f) (hk : f.k = 0 ∨ f.k = 3) : E K m p (tOp (rIxT K) te (tC (.int 3))) Γ Γ1 f.i3 := by
  cases f with
  | a x => exact e_p4d (x := x) h
  | b x => exact hk.elim nofun nofun
  | c x => exact hk.elim nofun nofun
  | d x => exact e_p4d (x := x) h
theorem e_fz {f : Fact} (h : E K m p te Γ Γ1 f) (hk : f.k = 2) : E K m p (tOp (rIxT K) te (tC (.int 3))) Γ Γ1 f.z3 := by
  cases f <;> first | cases hk; done | exact e_p4d (x := _) h
end
end FF

set_option Elab.async false
set_option linter.all false
set_option maxRecDepth 100000
set_option maxHeartbeats 2000000
/-! text * int; math.gcd -/
namespace FF
open PySem L2
def sM (x : PySem.Str) (n : Int) : PySem.Str := mkS (List.replicate n.toNat (cds x)).flatten
theorem foldl_arr (x : PySem.Str) : ∀ (k : Nat) (acc : List Nat), (List.replicate k x.cps).foldl (· ++ ·) acc.toArray = (acc ++ (List.replicate k x.cps.toList).flatten).toArray
  | 0, acc => by simp
  | k + 1, acc => by
    rw [List.replicate_succ, List.foldl_cons]
    have e : acc.toArray ++ x.cps = (acc ++ x.cps.toList).toArray := by
      apply Array.ext'
      simp
    rw [e, foldl_arr x k, List.replicate_succ, List.flatten_cons, List.append_assoc]
theorem mul_eq {x : PySem.Str} {n : Int} (h : 0 ≤ n) : Txt.mul x n = sM x n := by
  unfold Txt.mul sM
  by_cases h1 : n < 1
  · have e : n = 0 := by omega
    subst e
    rfl
  · rw [if_neg h1]
    split
    · rename_i hc
      rw [Bool.or_eq_true, beq_iff_eq, beq_iff_eq] at hc
      rcases hc with hc | hc
      · subst hc
        rw [show (1 : Int).toNat = 1 from rfl]
        simp [List.replicate]
        exact (mk_cds x).symm
      · have e : cds x = [] := by
          have := cds_len x
          rw [hc] at this
          exact List.eq_nil_of_length_eq_zero this
        have e2 : x = mkS [] := by rw [← e]; exact (mk_cds x).symm
        rw [e, e2]
        congr 1
        exact (List.eq_nil_iff_forall_not_mem.mpr fun a ha => by
          obtain ⟨l, hl, ha⟩ := List.mem_flatten.mp ha
          rw [List.eq_of_mem_replicate hl] at ha
          cases ha).symm
    · have := foldl_arr x n.toNat []
      show (⟨(List.replicate n.toNat x.cps).foldl (· ++ ·) #[]⟩ : PySem.Str) = ⟨((List.replicate n.toNat x.cps.toList).flatten).toArray⟩
      congr 1
def rMulS : R2 := fun x y H Q => ∃ i n, x = .str i ∧ y = .int n ∧ i.length ≤ 1000 ∧ 0 ≤ n ∧ n ≤ 1000 ∧ Q (.str (sM i n)) H
section
variable {X : Cx}
theorem op_mulS : OpR X (binaryOp .Mult) rMulS := by
  intro pins s σ H x y v u Q I rx ry h
  obtain ⟨i, n, rfl, rfl, h1, h2, h3, q⟩ := h
  obtain ⟨t, rfl⟩ := rx
  obtain ⟨t', rfl⟩ := ry
  exact PySem.SB.mul (PyProof.Rows.mulOk_of 1000 1000 h1 (by omega) (by omega) (by decide) (by decide)) fun t' tk => ⟨.str (sM i n), H, I.tok _, ⟨_, by rw [mul_eq h2]⟩, q⟩
end
section
variable {K : Kf} {m m1 m2 p p1 p2 : Bool} {ta tb : TE} {tq : TA} {Γ Γ1 Γ2 : List Sl}
theorem e_mulS {x : PySem.Str} {n : Int} (ha : E K m1 p1 ta Γ Γ1 x) (hb : E K m2 p2 tb Γ1 Γ2 n) (h : x.length ≤ 1000 ∧ 0 ≤ n ∧ n ≤ 1000) : E K (m1 || m2) true (tOp rMulS ta tb) Γ Γ2 (sM x n) := fun F I H0 H σ r Q q =>
  ha.sc F I H0 H σ r _ fun v H1 H1' r1 a1 b1 c1 => hb.sc F I H1 H1' σ r1 _ fun w H2 H2' r2 a2 b2 c2 => by
    cases (show v = V.str x from c1)
    cases (show w = V.int n from c2)
    exact ⟨x, n, rfl, rfl, h.1, h.2.1, h.2.2, q _ H2 H2' r2 (a1.trans a2) (same_mm b1 b2) rfl⟩
theorem e_gcd {a b : Int} (h : A K m tq Γ Γ1 [ap a, ap b]) : E K m true (tCB rGcd tq) Γ Γ1 (((Nat.gcd a.natAbs b.natAbs : Nat) : Int)) := fun F I H0 H σ r Q q =>
  h F I H0 H σ r _ fun vs H1 H1' r1 a1 b1 c1 => by
    cases c1 with | cons z1 c1 => cases c1 with | cons z2 c1 => cases c1 with | nil =>
    cases (show _ = V.int a from z1)
    cases (show _ = V.int b from z2)
    exact ⟨a, b, rfl, q _ H1 H1' r1 a1 b1 rfl⟩
end
end FF

set_option Elab.async false
set_option linter.all false
set_option maxRecDepth 100000
set_option maxHeartbeats 2000000
/-! a tuple of one's own: some of its items are lists of one's own -/
namespace FF
open PySem L2
/-- an item: it stands for good | a list of one's own -/
inductive Cm : Type 1
  | per {α : Type} (i : Rp α) (x : α)
  | new {α : Type} (i : Rp α) (xs : List α)
def cmOk (K : Kf) (H0 H : Hp) (v : V) : Cm → Prop
  | .per i x => i.rep K H0 v x
  | .new i xs => ∃ b vs, v = .ref b ∧ H b = some (.lst vs) ∧ Prd (i.rep K H0) vs xs
/-- the places of the lists -/
def fp : List V → List Cm → List Addr
  | .ref b :: vs, .new _ _ :: cs => b :: fp vs cs
  | _ :: vs, _ :: cs => fp vs cs
  | _, _ => []
theorem fp_per {α : Type} {i : Rp α} {x : α} {v : V} {vs : List V} {cs : List Cm} : fp (v :: vs) (.per i x :: cs) = fp vs cs := by
  cases v <;> rfl
theorem cm_mono0 {K : Kf} {H0 H0' H : Hp} {v : V} {c : Cm} (s : Same H0 H0') (h : cmOk K H0 H v c) : cmOk K H0' H v c := by
  cases c with
  | per i x => exact i.mono s h
  | new i xs =>
    obtain ⟨b, vs, e, e1, p⟩ := h
    exact ⟨b, vs, e, e1, prd_mono (fun _ _ z => i.mono s z) p⟩
theorem cms_mono {K : Kf} {H0 H H' : Hp} {vs : List V} {cs : List Cm} (p : Prd (cmOk K H0 H) vs cs) (s : ∀ b ∈ fp vs cs, ∀ o, H b = some o → H' b = some o) : Prd (cmOk K H0 H') vs cs := by
  induction p with
  | nil => exact .nil
  | cons h t ih =>
    rename_i v c vs cs
    cases c with
    | per i x => exact .cons h (ih fun b hb => s b (by rw [fp_per]; exact hb))
    | new i xs =>
      obtain ⟨b, us, rfl, e1, p⟩ := h
      exact .cons ⟨b, us, rfl, s b List.mem_cons_self _ e1, p⟩ (ih fun c hc => s c (List.mem_cons_of_mem _ hc))
/-- such a tuple; vs: its items' values -/
def tg (cs : List Cm) (vs : List V) : Gn where
  ok K H0 H v := ∃ a, v = .ref a ∧ SqT K H0 a vs ∧ Prd (cmOk K H0 H) vs cs ∧ (fp vs cs).Nodup
  bs := fp vs cs
  mono0 := fun s ⟨a, e, h, p, n⟩ => ⟨a, e, same_t s h, prd_mono (fun _ _ z => cm_mono0 s z) p, n⟩
  monoH := fun s ⟨a, e, h, p, n⟩ => ⟨a, e, h, cms_mono p s, n⟩
/-- what is new: nobody owns it yet -/
def NewG (K : Kf) (F : Fm) (H0 H : Hp) (σ : St) (Γ : List Sl) (G : Gn) (v : V) : Prop := G.ok K H0 H v ∧ ∀ b ∈ G.bs, F.k b = none ∧ H0 b = none ∧ (∃ vs, H b = some (.lst vs)) ∧ Fre H σ Γ b
/-- None, or a new tuple of these items -/
def PO (K : Kf) (o : Option (List Cm)) (F : Fm) (H0 H : Hp) (σ : St) (Γ : List Sl) (v : V) : Prop := match o with
  | none => v = .non
  | some cs => ∃ vs, NewG K F H0 H σ Γ (tg cs vs) v
def EP (K : Kf) (m : Bool) (te : TE) (Γ Γ' : List Sl) (o : Option (List Cm)) : Prop :=
  ∀ (F : Fm) (I H0 H : Hp) (σ : St), SR K F I H0 H σ Γ → ∀ Q : VK, (∀ v H0' H', SR K F I H0' H' σ Γ' → Same H0 H0' → (m = false → Same H H') → PO K o F H0' H' σ Γ' v → Q v H') → te σ H Q
/-- items, one after another -/
def AC (K : Kf) (m : Bool) (ta : TA) (Γ Γ' : List Sl) (cs : List Cm) : Prop :=
  ∀ (F : Fm) (I H0 H : Hp) (σ : St), SR K F I H0 H σ Γ → ∀ Q : List V → Hp → Prop, (∀ vs H0' H', SR K F I H0' H' σ Γ' → Same H0 H0' → (m = false → Same H H') → Prd (cmOk K H0' H') vs cs → (fp vs cs).Nodup → (∀ b ∈ fp vs cs, F.k b = none ∧ H0' b = none ∧ (∃ us, H' b = some (.lst us)) ∧ Fre H' σ Γ' b) → Q vs H') → ta σ H Q
section
variable {K : Kf} {m m1 m2 m3 : Bool} {te : TE} {ta tk : TA} {tt : TT} {t1 t2 : TE} {Γ Γ1 Γ2 : List Sl} {cs : List Cm} {o : Option (List Cm)}
theorem ac_nil : AC K false tNil Γ Γ [] := fun F I H0 H σ r Q q => q [] H0 H r (Same.refl _) (fun _ => Same.refl _) .nil List.nodup_nil (fun b hb => by cases hb)
theorem ac_per {α : Type} [i : Rp α] {x : α} (h : E K m1 true te Γ Γ1 x) (k : AC K m2 tk Γ1 Γ2 cs) : AC K (m1 || m2) (tCons te tk) Γ Γ2 (.per i x :: cs) := fun F I H0 H σ r Q q =>
  h F I H0 H σ r _ fun v H1 H1' r1 a1 b1 c1 => k F I H1 H1' σ r1 _ fun vs H2 H2' r2 a2 b2 p n f => q (v :: vs) H2 H2' r2 (a1.trans a2) (same_mm b1 b2) (.cons (show i.rep K H2 v x from i.mono a2 (by simpa using c1)) p) (by rw [fp_per]; exact n) (by rw [fp_per]; exact f)
theorem ac_new {α : Type} [i : Rp α] {xs : List α} (h : EN K m1 te Γ Γ1 xs) (k : AC K m2 tk Γ1 Γ2 cs) : AC K (m1 || m2) (tCons te tk) Γ Γ2 (.new i xs :: cs) := fun F I H0 H σ r Q q =>
  h F I H0 H σ r _ fun b us H1 H1' r1 a1 b1 y1 y2 y3 y4 y5 => k (F.plus b (.lst us) y1) I H1 H1' σ (r1.guard y1 y2 y3 y4) _ fun vs H2 H2' r2 a2 b2 p n f => by
    obtain ⟨r3, d1, d2, d3⟩ := r2.unguard (Same.free r1.i y2)
    have off : ∀ c ∈ fp vs cs, F.k c = none ∧ c ≠ b := fun c hc => by
      have z := (f c hc).1
      have ne : c ≠ b := fun e => by
        rw [e, show (F.plus b (.lst us) y1).k b = some (.lst us) from upd_same] at z
        cases z
      exact ⟨by rw [show (F.plus b (.lst us) y1).k c = F.k c from upd_ne ne] at z; exact z, ne⟩
    refine q (.ref b :: vs) H2 H2' r3 (a1.trans a2) (same_mm b1 b2) (.cons ⟨b, us, rfl, d2, prd_mono (fun _ _ z => i.mono a2 z) y5⟩ p) ?_ ?_
    · exact List.nodup_cons.mpr ⟨fun hc => (off b hc).2 rfl, n⟩
    · intro c hc
      rcases List.mem_cons.mp hc with rfl | hc
      · exact ⟨y1, d1, ⟨us, d2⟩, d3⟩
      · exact ⟨(off c hc).1, (f c hc).2⟩
theorem ep_tup (h : AC K m ta Γ Γ1 cs) (hz : cs.length ≤ 1000 := by exact Nat.le_of_ble_eq_true rfl) : EP K m (tTup ta) Γ Γ1 (some cs) := fun F I H0 H σ r Q q =>
  h F I H0 H σ r _ fun vs H1 H1' r1 a1 b1 p n f => by
    refine ⟨by rw [prd_len p]; exact Nat.le_trans hz (by decide), fun d hd => ?_⟩
    obtain ⟨r2, s0, s1⟩ := r1.alloc (o := .tup vs) hd
    refine q _ _ _ r2 (a1.trans s0) (fun z => (b1 z).trans s1) ⟨vs, ⟨d, rfl, SqT.of upd_same, prd_mono (fun _ _ z => cm_mono0 s0 z) (cms_mono p fun b _ o e => s1 b o e), n⟩, fun b hb => ?_⟩
    obtain ⟨f1, f2, ⟨us, f3⟩, f4⟩ := f b hb
    have nb : b ≠ d := fun e => by rw [e, hd] at f3; cases f3
    exact ⟨f1, by rw [upd_ne nb]; exact f2, ⟨us, s1 _ _ f3⟩, fre_same r1 s1 f4⟩
theorem ep_none : EP K false (tC .non) Γ Γ none := fun F I H0 H σ r Q q => q _ H0 H r (Same.refl _) (fun _ => Same.refl _) rfl
/-- a new list, by one of two ways -/
theorem EN.wk {α : Type} [i : Rp α] {xs : List α} (h : EN K m te Γ Γ1 xs) (w : Wk Γ1 Γ2) : EN K m te Γ Γ2 xs := fun F I H0 H σ r Q q => h F I H0 H σ r Q fun a vs H1 H1' r1 a1 b1 c1 c2 c3 c4 c5 => q a vs H1 H1' (wk_sr r1 w) a1 b1 c1 c2 (wk_own w c3) c4 c5
theorem n_if {α : Type} [i : Rp α] {b : Bool} {x y : List α} (h : Tt K m1 tt Γ Γ1 b) (h1 : b = true → EN K m2 t1 Γ1 Γ2 x) (h2 : b = false → EN K m3 t2 Γ1 Γ2 y) : EN K (m1 || (m2 || m3)) (tIf tt t1 t2) Γ Γ2 (if b = true then x else y) := fun F I H0 H σ r Q q => h F I H0 H σ r _ fun H1 H1' r1 a1 b1 => by
  cases b with
  | true => exact h1 rfl F I H1 H1' σ r1 _ fun a vs H2 H2' r2 a2 b2 c1 c2 c3 c4 c5 => q a vs H2 H2' r2 (a1.trans a2) (same_mm b1 fun h => b2 (Bool.or_eq_false_iff.mp h).1) c1 c2 c3 c4 c5
  | false => exact h2 rfl F I H1 H1' σ r1 _ fun a vs H2 H2' r2 a2 b2 c1 c2 c3 c4 c5 => q a vs H2 H2' r2 (a1.trans a2) (same_mm b1 fun h => b2 (Bool.or_eq_false_iff.mp h).2) c1 c2 c3 c4 c5
/-! ### handed back, called, named -/
def NewTR (K : Kf) {ρ : Type} (rc : ρ → Option (List Cm)) (rg : ρ → List Sl) : Rs ρ := fun F H0 H σ v r => PO K (rc r) F H0 H σ (rg r) v
abbrev spT (K : Kf) {ι : Type} (args : ι → List Sl) (pre : ι → Prop) (rc : ι → Option (List Cm)) (out : ι → List Sl) : Sp := spG K args pre out (NewTR K rc out)
theorem PO.wk {F : Fm} {H0 H : Hp} {σ : St} {v : V} (h : PO K o F H0 H σ Γ v) (w : Wk Γ Γ1) : PO K o F H0 H σ Γ1 v := by
  cases o with
  | none => exact h
  | some cs =>
    obtain ⟨vs, h1, h2⟩ := h
    exact ⟨vs, h1, fun b hb => let ⟨a1, a2, a3, a4⟩ := h2 b hb; ⟨a1, a2, a3, wk_own w a4⟩⟩
theorem r_retP {ρ : Type} {u : TS} {rg : ρ → List Sl} {rc : ρ → Option (List Cm)} {r : ρ} (h : EP K m te Γ Γ1 o) (e : o = rc r) (w : Wk Γ1 (rg r)) : R K (tSeq (tRet te) u) Γ (NewTR K rc rg) rg r := fun F I H0 H σ D r q _ => by
  subst e
  exact h F I H0 H σ r _ fun v H1 H1' r1 a1 b1 N => q _ H1 H1' σ a1 (wk_sr r1 w) (N.wk w)
theorem b_retP {S ρ : Type} {u : TS} {Γs : S → List Sl} {rg : ρ → List Sl} {rc : ρ → Option (List Cm)} {r : ρ} (h : EP K m te Γ Γ1 o) (e : o = rc r) (w : Wk Γ1 (rg r)) : B K (tSeq (tRet te) u) Γ Γs (NewTR K rc rg) rg (.rt r) := fun F I H0 H σ D r q => by
  subst e
  exact h F I H0 H σ r _ fun v H1 H1' r1 a1 b1 N => q v H1 H1' σ a1 (wk_sr r1 w) (N.wk w)
theorem r_endP {ρ : Type} {rg : ρ → List Sl} {rc : ρ → Option (List Cm)} {r : ρ} (e : rc r = none) (w : Wk Γ (rg r)) : R K tNext Γ (NewTR K rc rg) rg r := fun F I H0 H σ D q _ n => n H0 H σ (Same.refl _) (wk_sr q w) (by
  show PO K (rc r) F H0 H σ (rg r) .non
  rw [e]; rfl)
section
variable {ι : Type} {args : ι → List Sl} {pre : ι → Prop} {rc : ι → Option (List Cm)} {out : ι → List Sl} {as : List Ar}
theorem ep_call (d : ι) (ha : A K m ta Γ Γ1 as) (hm : Mt as (args d)) (hp : pre d) : EP K m (tCall (spT K args pre rc out) [] E0 ta) Γ Γ1 (rc d) := fun F I H0 H σ r Q q =>
  ha F I H0 H σ r _ fun vs H1 H1' r1 a1 b1 c1 => by
    show spT K args pre rc out (vs ++ []) H1' Q E0
    rw [List.append_nil]
    refine call_core r1 c1 d hp hm fun v H2 H2' σ' r2 s0 s1 _ rv => ?_
    refine q v H2 H2' r2 (a1.trans s0) (fun z => (b1 z).trans s1) ?_
    have rv' : PO K (rc d) ⟨H1', H1', Same.refl _⟩ H2 H2' σ' (out d) v := rv
    revert rv'
    generalize rc d = o
    intro rv'
    cases o with
    | none => exact rv'
    | some cs =>
      obtain ⟨vs, h1, h2⟩ := rv'
      exact ⟨vs, h1, fun b hb => let ⟨x1, x2, x3, _⟩ := h2 b hb; ⟨Same.free r1.f x1, x2, x3, fre_same r1 s1 (own_free r1 x1)⟩⟩
end
theorem r_setG {ρ : Type} {u : TS} {rp : Rs ρ} {rg : ρ → List Sl} {c : ρ} {n : Nat} (h : EP K m te Γ Γ1 o) (e : o = some cs) (k : ∀ vs, R K u (Γ1.set n (.gn (tg cs vs))) rp rg c) (hn : n < Γ1.length := by exact Nat.le_of_ble_eq_true rfl) : R K (tSeq (tAsg te (gName n)) u) Γ rp rg c := fun F I H0 H σ D r q nn => by
  subst e
  exact h F I H0 H σ r _ fun v H1 H1' r1 a1 b1 ⟨vs, N1, N2⟩ => k vs F I H1 H1' _ D (r1.set (i := n) (v := v) (s := .gn (tg cs vs)) ⟨v, rfl, N1, fun b hb => let ⟨x1, x2, x3, _⟩ := N2 b hb; ⟨x1, x2, x3⟩⟩ (fun b hb k _ ho => (N2 b hb).2.2.2 k ho) hn) (fun v a b c d => q v a b c (a1.trans d)) (fun a b c d => nn a b c (a1.trans d))
theorem b_setG {S ρ : Type} {u : TS} {Γs : S → List Sl} {rp : Rs ρ} {rg : ρ → List Sl} {c : Ctl S ρ} {n : Nat} (h : EP K m te Γ Γ1 o) (e : o = some cs) (k : ∀ vs, B K u (Γ1.set n (.gn (tg cs vs))) Γs rp rg c) (hn : n < Γ1.length := by exact Nat.le_of_ble_eq_true rfl) : B K (tSeq (tAsg te (gName n)) u) Γ Γs rp rg c := fun F I H0 H σ D r q => by
  subst e
  exact h F I H0 H σ r _ fun v H1 H1' r1 a1 b1 ⟨vs, N1, N2⟩ => k vs F I H1 H1' _ D (r1.set (i := n) (v := v) (s := .gn (tg cs vs)) ⟨v, rfl, N1, fun b hb => let ⟨x1, x2, x3, _⟩ := N2 b hb; ⟨x1, x2, x3⟩⟩ (fun b hb k _ ho => (N2 b hb).2.2.2 k ho) hn) (q.mono a1)
theorem g_setP {α : Type} [i : Rp α] {n : Nat} (h : EP K m te Γ Γ1 o) (e : o = none) (hn : n < Γ1.length := by exact Nat.le_of_ble_eq_true rfl) : Go K (tAsg te (gName n)) Γ (Γ1.set n (pr (none : Option α))) := fun F I H0 H σ D r q => by
  subst e
  exact h F I H0 H σ r _ fun v H1 H1' r1 a1 b1 c1 => q H1 H1' _ a1 (pr_set r1 (x := (none : Option α)) c1 hn)
/-! ### read -/
def Ck {α : Type} [i : Rp α] (c : Cm) (x : α) : Prop := ∀ (K : Kf) (H0 H : Hp) (v : V), Same H0 H → cmOk K H0 H v c → i.rep K H v x
theorem ck_per {α : Type} [i : Rp α] {x : α} : Ck (.per i x) x := fun K H0 H v s h => i.mono s h
theorem ck_new {α : Type} [i : Rp α] {xs : List α} : Ck (.new i xs) xs := fun K H0 H v s ⟨b, vs, e, e1, p⟩ => ⟨b, vs, e, e1, prd_mono (fun _ _ z => i.mono s z) p⟩
theorem gn_at {F : Fm} {I H0 H : Hp} {σ : St} {n : Nat} {G : Gn} (r : SR K F I H0 H σ Γ) (hn : Γ[n]? = some (.gn G)) : ∃ v, σ[n]? = some (some v) ∧ G.ok K H0 H v ∧ ∀ b ∈ G.bs, F.k b = none ∧ H0 b = none ∧ ∃ vs, H b = some (.lst vs) := by
  obtain ⟨ov, e1, v, e2, h⟩ := r.ok n _ hn
  subst e2
  exact ⟨v, e1, h⟩
theorem e_gn3 {α β γ : Type} [Rp α] [Rp β] [Rp γ] {x : α} {y : β} {z : γ} {c1 c2 c3 : Cm} {vs : List V} {n : Nat} (hn : Γ[n]? = some (.gn (tg [c1, c2, c3] vs))) (h1 : Ck c1 x) (h2 : Ck c2 y) (h3 : Ck c3 z) : E K false false (tVar n) Γ Γ (T3.mk x y z) := fun F I H0 H σ r Q q => by
  obtain ⟨v, e1, ⟨a, rfl, hs, p, _⟩, _⟩ := gn_at r hn
  refine ⟨.ref a, e1, q _ H0 H r (Same.refl _) (fun _ => Same.refl _) ?_⟩
  cases p with | cons p1 p => cases p with | cons p2 p => cases p with | cons p3 p => cases p with | nil =>
  exact ⟨a, _, _, _, rfl, same_t r.h hs, h1 _ _ _ _ r.h p1, h2 _ _ _ _ r.h p2, h3 _ _ _ _ r.h p3⟩
/-! ### changed -/
theorem SR.mutG {F : Fm} {I H0 H : Hp} {σ : St} {n : Nat} {G G' : Gn} {b : Addr} {ws us : List V} (r : SR K F I H0 H σ Γ) (hn : Γ[n]? = some (.gn G)) (hb : b ∈ G.bs) (hH : H b = some (.lst us)) (eb : G'.bs = G.bs) (hok : ∀ v, G.ok K H0 H v → G'.ok K H0 (upd H b (.lst ws)) v) :
    SR K F I H0 (upd H b (.lst ws)) σ (Γ.set n (.gn G')) := by
  obtain ⟨v, e1, g1, g2⟩ := gn_at r hn
  obtain ⟨kb, zb, _⟩ := g2 b hb
  have hl : n < Γ.length := (List.getElem?_eq_some_iff.mp hn).1
  have fb : Ftp H σ Γ n b := ⟨_, _, hn, e1, hb⟩
  have off : ∀ {m c}, m ≠ n → Ftp H σ Γ m c → c ≠ b := fun {m c} hm hc z => by
    subst z
    exact r.dj m n c hm hc fb
  have up : ∀ {k c}, Ftp (upd H b (.lst ws)) σ (Γ.set n (.gn G')) k c → Ftp H σ Γ k c := fun {k c} h => by
    rcases ftp_set h with ⟨rfl, ov', e, f⟩ | ⟨hk, t, ov', e1, e2, f⟩
    · exact ⟨_, _, hn, e, by show c ∈ G.bs; rw [← eb]; exact f⟩
    · obtain ⟨ov2, w1, w2⟩ := r.ok k t e1
      rw [w1] at e2
      cases e2
      exact ⟨t, ov', e1, w1, ft_back w2 (fun d o z1 z2 => by rw [upd_ne (off hk ⟨t, ov', e1, w1, z1⟩)]; exact z2) f⟩
  refine ⟨fun c o e => by rw [upd_ne (ne_of_none e kb)]; exact r.f _ _ e, r.i, r.g, fun c o e => by rw [upd_ne (ne_of_none e zb)]; exact r.h _ _ e, by simpa using r.len, fun m t e => ?_, fun k m c ne h1 h2 => r.dj k m c ne (up h1) (up h2)⟩
  rcases get_set e with ⟨rfl, rfl⟩ | ⟨hm, e⟩
  · refine ⟨_, e1, v, rfl, hok v g1, fun c hc => ?_⟩
    obtain ⟨x1, x2, y, x3⟩ := g2 c (eb ▸ hc)
    refine ⟨x1, x2, ?_⟩
    by_cases z : c = b
    · subst z; exact ⟨ws, upd_same⟩
    · exact ⟨y, by rw [upd_ne z]; exact x3⟩
  · obtain ⟨ov', w1, w2⟩ := r.ok m t e
    refine ⟨ov', w1, ?_⟩
    cases t with
    | un => trivial
    | per _ _ => exact w2
    | bor _ _ => exact w2
    | bl _ _ => exact w2
    | own j' p' xs' =>
      obtain ⟨c, vs', w3, w4, w5, w6, w7, w8⟩ := w2
      exact ⟨c, vs', w3, w4, w5, w6, by rw [upd_ne (off hm ⟨_, _, e, w1, w3⟩)]; exact w7, w8⟩
    | dp j' p' yss => exact dpOk.mono (p' := p') w2 (fun _ _ z => z) (fun _ _ z => z) (fun d o hd z => by rw [upd_ne (off hm ⟨_, _, e, w1, hd⟩)]; exact z) fun _ _ z => z
    | gn G2 => exact gnOk.mono w2 (fun _ _ z => z) (fun _ _ z => z) (fun d o hd z => by rw [upd_ne (off hm ⟨_, _, e, w1, hd⟩)]; exact z) fun _ z => z
    | ob c C dx fs =>
      obtain ⟨w3, w4, w5, w6, w7, w8, vs', w9, w10⟩ := w2
      exact ⟨w3, w4, w5, w6, w7, by rw [upd_ne (ne_of w8 hH (fun z => nomatch z))]; exact w8, vs', by rw [upd_ne (ne_of w9 hH (fun z => nomatch z))]; exact w9, w10⟩
/-- an item that is a list: its place -/
theorem cm_at {H0 H : Hp} {α : Type} {i : Rp α} {xs : List α} : ∀ {vs : List V} {cs : List Cm} {j : Nat}, Prd (cmOk K H0 H) vs cs → cs[j]? = some (.new i xs) → ∃ b us, vs[j]? = some (.ref b) ∧ b ∈ fp vs cs ∧ H b = some (.lst us) ∧ Prd (i.rep K H0) us xs
  | _, _, _, .nil, h => by simp at h
  | _, _, 0, .cons (a := v) (b := c) p t, h => by
    have e : c = .new i xs := by simpa using h
    subst e
    obtain ⟨b, us, rfl, e1, q⟩ := p
    exact ⟨b, us, rfl, List.mem_cons_self, e1, q⟩
  | _, _, j + 1, .cons (a := v) (b := c) p t, h => by
    obtain ⟨b, us, h1, h2, h3⟩ := cm_at (j := j) t (by simpa using h)
    refine ⟨b, us, h1, ?_, h3⟩
    cases c with
    | per i' x => rw [fp_per]; exact h2
    | new i' ys =>
      obtain ⟨d, _, rfl, _⟩ := p
      exact List.mem_cons_of_mem _ h2
theorem cm_set {H0 H : Hp} {α : Type} {i : Rp α} {xs ys : List α} {b : Addr} {ws : List V} (hw : Prd (i.rep K H0) ws ys) : ∀ {vs : List V} {cs : List Cm} {j : Nat}, Prd (cmOk K H0 H) vs cs → (fp vs cs).Nodup → cs[j]? = some (.new i xs) → vs[j]? = some (.ref b) →
    Prd (cmOk K H0 (upd H b (.lst ws))) vs (cs.set j (.new i ys)) ∧ fp vs (cs.set j (.new i ys)) = fp vs cs
  | _, _, _, .nil, _, h, _ => by simp at h
  | _, _, 0, .cons (a := v) (b := c) p t, n, h, hb => by
    have e : c = .new i xs := by simpa using h
    subst e
    have e2 : v = .ref b := by simpa using hb
    subst e2
    rw [show fp (V.ref b :: _) (Cm.new i xs :: _) = b :: fp _ _ from rfl] at n
    obtain ⟨n1, n2⟩ := List.nodup_cons.mp n
    exact ⟨.cons ⟨b, ws, rfl, upd_same, hw⟩ (cms_mono t fun c hc o z => by rw [upd_ne (fun w => by subst w; exact n1 hc)]; exact z), rfl⟩
  | _, _, j + 1, .cons (a := v) (b := c) (l₁ := vs) (l₂ := cs) p t, n, h, hb => by
    have h' : cs[j]? = some (.new i xs) := by simpa using h
    have hb' : vs[j]? = some (.ref b) := by simpa using hb
    obtain ⟨b', us, k1, k2, k3, k4⟩ := cm_at t h'
    rw [hb'] at k1
    cases k1
    cases c with
    | per i' x =>
      rw [fp_per] at n
      obtain ⟨q1, q2⟩ := cm_set hw t n h' hb'
      exact ⟨.cons p q1, by rw [List.set_cons_succ, fp_per, fp_per]; exact q2⟩
    | new i' zs =>
      obtain ⟨d, us', rfl, e1, e2⟩ := p
      rw [show fp (V.ref d :: _) (Cm.new i' zs :: _) = d :: fp _ _ from rfl] at n
      obtain ⟨n1, n2⟩ := List.nodup_cons.mp n
      obtain ⟨q1, q2⟩ := cm_set hw t n2 h' hb'
      have nd : d ≠ b := fun e => n1 (e ▸ k2)
      exact ⟨.cons ⟨d, us', rfl, by rw [upd_ne nd]; exact e1, e2⟩ q1, by rw [List.set_cons_succ]; show d :: fp vs _ = d :: fp vs cs; rw [q2]⟩
/-- t[j].append(x), t[j].clear(), j written -/
theorem g_gapp {α : Type} [i : Rp α] {xs : List α} {x : α} {vs : List V} {n j : Nat} {jz : Int} (ej : jz = (j : Int)) (hn : Γ[n]? = some (.gn (tg cs vs))) (h : E K false true te Γ Γ x) (hc : cs[j]? = some (.new i xs)) (hz : xs.length < 100000) :
    Go K (tDrop (tBM K "list" rAppend (tOp (rIxT K) (tVar n) (tC (.int jz))) (tCons te tNil))) Γ (Γ.set n (.gn (tg (cs.set j (.new i (xs ++ [x]))) vs))) := fun F I H0 H σ D r q => by
  subst ej
  obtain ⟨v0, e1, ⟨a, rfl, hs, p, nd⟩, _⟩ := gn_at r hn
  obtain ⟨b, us, k1, k2, k3, k4⟩ := cm_at p hc
  have hat : atI vs (j : Int) = some (.ref b) := by
    unfold atI ixN
    have := (List.getElem?_eq_some_iff.mp k1).1
    rw [if_pos (by omega), if_pos (by omega)]
    exact k1
  refine ⟨.ref a, e1, a, vs, (j : Int), .ref b, rfl, rfl, same_t r.h hs, hat, Or.inl ⟨rfl, us, SqL.of k3⟩, h F I H0 H σ r _ fun v H3 H3' r3 a3 b3 c3 => ?_⟩
  obtain ⟨v1, f1, ⟨a', f2, hs', p', nd'⟩, f3⟩ := gn_at r3 hn
  obtain ⟨b', us', k1', k2', k3', k4'⟩ := cm_at p' hc
  rw [k1] at k1'
  cases k1'
  refine ⟨b, us', v, rfl, rfl, k3', by rw [prd_len k4']; exact Nat.lt_of_lt_of_le hz (by decide), ?_⟩
  have hw : Prd (i.rep K H3) (us' ++ [v]) (xs ++ [x]) := prd_app k4' (.cons (show i.rep K H3 v x by simpa using c3) .nil)
  obtain ⟨q1, q2⟩ := cm_set hw p' nd' hc k1
  exact q H3 _ σ a3 (r3.mutG hn k2' k3' (by show fp vs _ = fp vs cs; exact q2) fun w ⟨a2, ea, s2, p2, n2⟩ => ⟨a2, ea, s2, (cm_set hw p2 n2 hc k1).1, by rw [q2]; exact n2⟩)
theorem g_gclr {α : Type} [i : Rp α] {xs : List α} {vs : List V} {n j : Nat} {jz : Int} (ej : jz = (j : Int)) (hn : Γ[n]? = some (.gn (tg cs vs))) (hc : cs[j]? = some (.new i xs)) :
    Go K (tDrop (tBM0 K "list" rClear (tOp (rIxT K) (tVar n) (tC (.int jz))))) Γ (Γ.set n (.gn (tg (cs.set j (.new i [])) vs))) := fun F I H0 H σ D r q => by
  subst ej
  obtain ⟨v0, e1, ⟨a, rfl, hs, p, nd⟩, _⟩ := gn_at r hn
  obtain ⟨b, us, k1, k2, k3, k4⟩ := cm_at p hc
  have hat : atI vs (j : Int) = some (.ref b) := by
    unfold atI ixN
    have := (List.getElem?_eq_some_iff.mp k1).1
    rw [if_pos (by omega), if_pos (by omega)]
    exact k1
  refine ⟨.ref a, e1, a, vs, (j : Int), .ref b, rfl, rfl, same_t r.h hs, hat, Or.inl ⟨rfl, us, SqL.of k3⟩, b, us, rfl, rfl, k3, ?_⟩
  have hw : Prd (i.rep K H0) [] ([] : List α) := .nil
  obtain ⟨q1, q2⟩ := cm_set hw p nd hc k1
  exact q H0 _ σ (Same.refl _) (r.mutG hn k2 k3 (by show fp vs _ = fp vs cs; exact q2) fun w ⟨a2, ea, s2, p2, n2⟩ => ⟨a2, ea, s2, (cm_set hw p2 n2 hc k1).1, by rw [q2]; exact n2⟩)
/-- it is given up -/
theorem g_gun {n : Nat} : Go K tNext Γ (Γ.set n .un) := fun F I H0 H σ D r q => q H0 H σ (Same.refl _) (r.weak (by simp) fun k s e => by
    rcases get_set e with ⟨_, z⟩ | ⟨_, z⟩
    · exact .inl z
    · exact .inr z)
end
end FF

set_option Elab.async false
set_option linter.all false
set_option maxRecDepth 100000
set_option maxHeartbeats 2000000
/-! max(xs, default=d); sorted(xs, reverse=True); (a, b) < (c, d); a list whose items are all there -/
namespace FF
open PySem L2
def mxD (d : Int) (ns : List Int) : Int := if ns = [] then d else mx ns
def rMaxD (K : Kf) : List V → List V → Hp → VK → Prop := fun vs zs H Q => ∃ p ns d, vs = [.ref p] ∧ zs = [.int d] ∧ SqL K H p (ns.map V.int) ∧ Q (.int (mxD d ns)) H
section
variable {X : Cx}
theorem cr_maxD' (hc : X.calm = true) (hu : X.A.units + 64 < cLine) : CallRK X (.builtin "max") [Str.ofString "default"] (rMaxD X.K) := by
  intro pins s σ H vs zs us ws Q I r rz h
  obtain ⟨p, ns, d, rfl, rfl, hs, q⟩ := h
  obtain ⟨w1, rfl, t, rfl⟩ : ∃ w1, ws = [w1] ∧ ∃ t, w1 = .int d t := by
    cases rz with | cons z1 rz => cases rz with | nil => exact ⟨_, rfl, z1⟩
  rw [Vals.ref1 r]
  obtain ⟨its, rv, hl, _⟩ := I.list hs
  refine PySem.W.max_list_datum_default (I.ok.hd hc) hl.isList (PySem.W.HoldAll.of_ints (by simpa using rv.ints)) (by show X.A.units + 1 + 0 < _; omega) (fun e h' tk hk => ?_) fun y ys i v h' tk e hi H1 hk => ?_
  · subst e
    exact ⟨.int _, H, I.kept hk, ⟨_, rfl⟩, q⟩
  · subst e
    obtain ⟨t, rfl⟩ := hold_int H1
    refine ⟨.int _, H, I.kept hk, ⟨t, rfl⟩, ?_⟩
    exact q
end
section
variable {K : Kf} {m m1 m2 p p1 p2 : Bool} {ta tb te : TE} {Γ Γ1 Γ2 : List Sl}
theorem e_maxD {xs : List Int} {d : Int} (h : E K m p ta Γ Γ1 xs) (hk : E K m2 p2 tb Γ1 Γ1 d) (m2f : m2 = false) : E K m true (tCKw (rMaxD K) (tCons ta tNil) (tCons tb tNil)) Γ Γ1 (mxD d xs) := fun F I H0 H σ r Q q =>
  h.nowP F I H0 H σ r _ fun v H1 H1' r1 a1 b1 c1 => hk.sc F I H1 H1' σ r1 _ fun w H2 H2' r2 a2 b2 c2 => by
    obtain ⟨a, vs, rfl, hs, hp⟩ := rl c1
    cases (show w = V.int d from c2)
    rw [ints_map hp] at hs
    exact ⟨a, xs, d, rfl, rfl, (b2 m2f).seq hs, q _ H2 H2' r2 (a1.trans a2) (fun z => (b1 z).trans (b2 m2f)) rfl⟩
theorem n_srtRev {xs : List Int} (h : E K m p ta Γ Γ1 xs) : EN K m (tCKw (rSortedKw K true [.bl true]) (tCons ta tNil) (tCons (tC (.bl true)) tNil)) Γ Γ1 (srt xs).reverse := fun F I H0 H σ r Q q =>
  h.nowP F I H0 H σ r _ fun v H1 H1' r1 a1 b1 c1 => by
    obtain ⟨a, vs, rfl, hs, hp⟩ := rl c1
    rw [ints_map hp] at hs
    refine ⟨a, xs, rfl, rfl, hs, fun ns' l h1 h2 hl => ?_⟩
    have e : ns' = (srt xs).reverse := by
      have := srt_uniq (ns := xs) (ns' := ns'.reverse) ((List.reverse_perm _).trans h1) (by rw [List.pairwise_reverse]; exact h2)
      rw [← this, List.reverse_reverse]
    subst e
    obtain ⟨r2, s1, z1, z2, z3⟩ := r1.fresh (vs := (srt xs).reverse.map V.int) hl
    refine q l _ H1 _ r2 a1 (fun z => (b1 z).trans s1) z1 z2 z3 upd_same ?_
    exact map_ints _
theorem e_ltP {x y : Int × Int} (ha : E K m1 true ta Γ Γ1 x) (hb : E K m2 true tb Γ1 Γ2 y) : E K (m1 || m2) true (tOp (rLtT K) ta tb) Γ Γ2 (decide (x.1 < y.1 ∨ x.1 = y.1 ∧ x.2 < y.2)) := fun F I H0 H σ r Q q =>
  ha F I H0 H σ r _ fun v H1 H1' r1 a1 b1 c1 => hb F I H1 H1' σ r1 _ fun w H2 H2' r2 a2 b2 c2 => by
    obtain ⟨a, u1, u2, rfl, hs, e1, e2⟩ := c1
    obtain ⟨b, w1, w2, rfl, hs', f1, f2⟩ := c2
    cases (show u1 = V.int x.1 from e1); cases (show u2 = V.int x.2 from e2)
    cases (show w1 = V.int y.1 from f1); cases (show w2 = V.int y.2 from f2)
    refine ⟨a, b, [x.1, x.2], [y.1, y.2], rfl, rfl, same_t (a2.trans r2.h) hs, same_t r2.h hs', ?_⟩
    have e : HT.lexLt [x.1, x.2] [y.1, y.2] = decide (x.1 < y.1 ∨ x.1 = y.1 ∧ x.2 < y.2) := by
      rw [HT.lexLt_cons, HT.lexLt_cons, HT.lexLt_nil_nil]
      by_cases h1 : x.1 = y.1
      · rw [if_pos h1]
        by_cases h2 : x.2 = y.2
        · rw [if_pos h2]; simp [h1, h2]
        · rw [if_neg h2]; simp [h1]
      · rw [if_neg h1]; simp [h1]
    rw [e]
    exact q _ H2 H2' r2 (a1.trans a2) (same_mm b1 b2) rfl
theorem prd_all {K : Kf} {H : Hp} {α : Type} [i : Rp α] [Inhabited α] : ∀ {vs : List V} {xs : List (Option α)}, Prd ((inferInstance : Rp (Option α)).rep K H) vs xs → (∀ x ∈ xs, x.isSome = true) → Prd (i.rep K H) vs (xs.map FF.og)
  | _, _, .nil, _ => .nil
  | _, _, .cons (b := o) h t, k => by
    refine .cons ?_ (prd_all t fun x hx => k x (List.mem_cons_of_mem _ hx))
    cases o with
    | none => cases k none List.mem_cons_self
    | some y => exact h.2
theorem n_all {α : Type} [i : Rp α] [Inhabited α] {xs : List (Option α)} (h : EN K m te Γ Γ1 xs) (ha : ∀ x ∈ xs, x.isSome = true) : EN K m te Γ Γ1 (xs.map FF.og) := fun F I H0 H σ r Q q =>
  h F I H0 H σ r Q fun a vs H1 H1' r1 a1 b1 c1 c2 c3 c4 c5 => q a vs H1 H1' r1 a1 b1 c1 c2 c3 c4 (by
    exact prd_all c5 ha)
end
end FF
namespace FF
open PySem L2
theorem lt_room {k : Nat} {A : Around} (hr : Room k A) : A.units < cLine := by have := hr.un; omega
@[reducible] def cP {α : Type} [i : Rp α] (x : α) : Cm := .per i x
@[reducible] def cN {α : Type} [i : Rp α] (xs : List α) : Cm := .new i xs
section
variable {K : Kf} {m : Bool} {te : TE} {Γ Γ1 : List Sl} {ρ : Type}
theorem r_bdG {α : Type} {x : α} {cs : α → List Cm} {f : α → ρ} {u : TS} {rp : Rs ρ} {rg : ρ → List Sl} {n : Nat} (h : EP K m te Γ Γ1 (some (cs x))) (k : ∀ y vs, y = x → R K u (Γ1.set n (.gn (tg (cs y) vs))) rp rg (f y)) (hn : n < Γ1.length := by exact Nat.le_of_ble_eq_true rfl) : R K (tSeq (tAsg te (gName n)) u) Γ rp rg (bnd x f) := r_setG h rfl (fun vs => k x vs rfl) hn
theorem b_bdG {S α : Type} {x : α} {cs : α → List Cm} {f : α → Ctl S ρ} {u : TS} {Γs : S → List Sl} {rp : Rs ρ} {rg : ρ → List Sl} {n : Nat} (h : EP K m te Γ Γ1 (some (cs x))) (k : ∀ y vs, y = x → B K u (Γ1.set n (.gn (tg (cs y) vs))) Γs rp rg (f y)) (hn : n < Γ1.length := by exact Nat.le_of_ble_eq_true rfl) : B K (tSeq (tAsg te (gName n)) u) Γ Γs rp rg (bnd x f) := b_setG h rfl (fun vs => k x vs rfl) hn
end
end FF

set_option Elab.async false
set_option linter.all false
set_option maxRecDepth 100000
/-! a call that hands back None or a tuple of one's own, used as an argument -/
namespace FF
open PySem L2
section
variable {K : Kf} {m : Bool} {te : TE} {Γ Γ1 : List Sl}
theorem e_epo3 {α β γ : Type} [i1 : Rp α] [i2 : Rp β] [i3 : Rp γ] {x : Option (T3 α β γ)} {f : T3 α β γ → List Cm} (h : EP K m te Γ Γ1 (x.map f)) (hc : ∀ t, ∃ c1 c2 c3, f t = [c1, c2, c3] ∧ Ck c1 t.a ∧ Ck c2 t.b ∧ Ck c3 t.c) : E K m false te Γ Γ1 x := fun F I H0 H σ r Q q =>
  h F I H0 H σ r _ fun v H1 H1' r1 a1 b1 N => q v H1 H1' r1 a1 b1 (by
    cases x with
    | none => exact N
    | some t =>
      obtain ⟨vs, ⟨a, rfl, hs, p, _⟩, _⟩ := N
      obtain ⟨c1, c2, c3, e, h1, h2, h3⟩ := hc t
      rw [e] at p
      cases p with | cons p1 p => cases p with | cons p2 p => cases p with | cons p3 p => cases p with | nil =>
      exact ⟨(fun z => nomatch z), a, _, _, _, rfl, same_t r1.h hs, h1 _ _ _ _ r1.h p1, h2 _ _ _ _ r1.h p2, h3 _ _ _ _ r1.h p3⟩)
end
end FF

set_option Elab.async false
set_option linter.all false
set_option maxRecDepth 100000
set_option maxHeartbeats 2000000
/-! a walk over an instance whose class has an __iter__ of its own that hands back iter(a tuple) -/
namespace FF
open PySem PySem.Spec PyProof.Rows L2
/-- at it an iterator over the tuple at t, not yet asked -/
def ItT (t it : Addr) : HO := .ext fun h => h.IsTupleIter it t 0
theorem itT_ok {P : Program} {w : World} {H : Hp} {h : Heap} {t it : Addr} (e : h.IsTupleIter it t 0) : ObjOk P w H h it (ItT t it) := ⟨e, (let ⟨o, q, _⟩ := e; ⟨o, q⟩), fun h1 h2 q k => Heap.IsTupleIter.at q fun o e => k o e⟩
theorem call_iterTup {prog : Program} {w : World} {A : Around} {E : Value → Shared → Prop} {s : Shared} {l : Addr} {items : Array Value} {Q : Value → Shared → Prop} (hl : s.heap.IsTuple l items)
    (h : Q (.ref s.heap.objs.size) { s with heap := s.heap.push { cls := .type "tuple_iterator", data := .fields #[.ref l, .int 0 0] } }) : wpAny (model prog w) A (call (.builtin "iter") [.ref l]) Q E s := by
  refine Calls.call_function_entry (by decide +kernel) (by decide +kernel) PySem.W.kdk_entry_iter (PySem.W.kdk_args_iter _) ?_
  unfold Builtin.«iter»
  refine wpAny_bind (m := someArgs "iter" 1 2 _) (wpAny_of_eq (a := [Value.ref l]) (by first | rfl | kernel_rfl!) ?_)
  show wpAny _ _ (pyIter (.ref l) >>= _) _ _ _
  exact wpAny_bind (wpAny_pyIter_tuple hl (wpAny_pure ⟨_, rfl, h⟩))
/-- iter(t), t a tuple; n: what was there is below it -/
def rIterT (K : Kf) (n : Nat) : List V → Hp → VK → Prop := fun xs H Q => ∃ (t : Addr) (zs : List V), xs = [.ref t] ∧ SqT K H t zs ∧ ∀ it, H it = Option.none → n ≤ it → Q (.ref it) (upd H it (ItT t it))
theorem call_iterT {X : Cx} : CallR X (.builtin "iter") (rIterT X.K X.s_0.heap.objs.size) := by
  intro pins s σ H xs us Q I r h
  obtain ⟨l, zs, rfl, hq, q⟩ := h
  obtain ⟨u, rfl, ru⟩ := vals1 r
  cases ru
  obtain ⟨its, rv, pl, hz⟩ := I.tuple hq
  refine call_iterTup (show s.heap.IsTuple l its.toArray from pl) ?_
  exact ⟨.ref s.heap.objs.size, _, I.laid (t' := s.toks) (fun b u e => Heap.get?_push_of_some _ e) (Nat.le_refl _) (itT_ok ⟨_, Heap.get?_push_size _ rfl, rfl, rfl⟩), rfl, q _ (I.hok.fresh (Nat.le_refl _)) I.sz⟩

/-- what such an __iter__ does at a state -/
def IterOk (P : Program) (w : World) (K : Kf) (mg : Str → Option Value) (base : Heap) (k : Nat) (f : Addr) (fd : FuncData) (C : Addr) (fld : Str) : Prop :=
  ∀ (A : Around) (outer : List Env) (s : Shared) (H : Hp) (a dx t : Addr) (fs : List (Str × V)) (zs : List V), Room k A → Env0 P w K mg base A outer s H → BindsTo s fd ⟨[.ref a], []⟩ [("self", .ref a)] → H a = some (.ins C dx fs) → fs.lookup fld = some (.ref t) → SqT K H t zs →
    codeAny (model P w) A (.call (.ref f) ⟨[.ref a], []⟩) (CR CX0 outer P w H s (fun v H' => ∃ it, v = .ref it ∧ H it = Option.none ∧ s.heap.objs.size ≤ it ∧ H' = upd H it (ItT t it)) E0) s
/-- a def of one parameter that is a plain local name: it runs, told of the state at the call -/
theorem iter_ok {P : Program} {w : World} {K : Kf} {mg : Str → Option Value} {base : Heap} {k : Nat} {f : Addr} {fd : FuncData} {C : Addr} {fld qual : Str} {st : Stmt} {N : List Str} (Fd : Fun K "__iter__" qual st f fd) (S : FnScope N ["self"] (defScope st)) (c : Cls K C) (n : NoAttr K C fld)
    (hb : ∀ (cdv : Value) (A : Around) (outer : List Env) (s : Shared) (H : Hp), PSs (cxOf CX0 P w K mg base N qual (defScope st) f cdv A outer s H E0) (defBody st) (tSeq (tRet (tCB (rIterT K s.heap.objs.size) (tCons (tFld K (tVar 0) fld) tNil))) tNext)) : IterOk P w K mg base (k + 1) f fd C fld := by
  intro A outer s H a dx t fs zs hr e0 hbd ha hl hz
  obtain ⟨oc, od, kV, doc, pm, an, cdv, ct, osl, rfl, lk, hcd⟩ := Fd.ex
  have KX : K.In s.heap := e0.mod.kin.keeps fun b o e => (e0.bs b o e).1
  have one : ∀ y ∈ [(("self" : Str), Value.ref a)], (defScope st).names.lookup y.1 = some .local ∨ ((defScope st).names.lookup y.1 = some .cell ∧ ((cellsFrom (s.heap.objs.size + 1) (defScope st).names []).lookup y.1).isSome = true) := fun y hy => by
    rw [List.mem_singleton.mp hy]
    exact (S.par "self" List.mem_cons_self).imp id fun q => ⟨q, PySem.W.cellsFrom_some _ _ _ (.inl q)⟩
  have rv : Vals [V.ref a] [Value.ref a] := .cons rfl .nil
  refine codeAny_call_function hr.depth (KX _ _ lk) rfl S.co S.gen rfl (PySem.W.codeRec_of KX hcd) (hbd _ _ _ _ (wpAny_newFunctionEnv_cells S.kind one fun env he s1 x => ?_))
  subst he
  refine ⟨(e0.mod.nolimit.keeps fun b o e => (e0.bs b o e).1).keeps x.toInCall.keep, codeAny_func ?_⟩
  have I := inv_start (CX := CX0) (E := E0) (cd := cdv) (vs := [V.ref a]) S hr.hd e0 rfl rv x
  have goal : tSeq (tRet (tCB (rIterT K s.heap.objs.size) (tCons (tFld K (tVar 0) fld) tNil))) tNext { nx := fun _ _ => False, rt := fun v H' => ∃ it, v = .ref it ∧ H it = Option.none ∧ s.heap.objs.size ≤ it ∧ H' = upd H it (ItT t it) } (start N [V.ref a]) H :=
    ⟨.ref a, rfl, a, C, dx, fs, .ref t, rfl, ha, c, n, hl, t, zs, rfl, hz, fun it h1 h2 => ⟨it, rfl, h1, h2, rfl⟩⟩
  refine wpAny_mono ((hb cdv A outer s H).run [] s1 _ H _ I goal) (fun fl s' hs => ?_) fun e s' hs => hs
  cases fl with
  | ret u =>
    obtain ⟨v, σ', H', J, r, q⟩ := hs
    exact ⟨v, H', J.os, J.bare, J.base, J.hok, r, q⟩
  | next => exact hs.elim fun _ z => z.elim fun _ z => z.2.elim
  | brk => exact hs.elim fun _ z => z.elim fun _ z => z.2.elim
  | cont => exact hs.elim fun _ z => z.elim fun _ z => z.2.elim

structure ItM (P : Program) (w : World) (K : Kf) (mg : Str → Option Value) (base : Heap) (k : Nat) (C : Addr) (fld : Str) : Prop where
  ex : ∃ (f : Addr) (fd : FuncData), Meth K C "__iter__" f ∧ Binds K fd ["self"] [] ∧ IterOk P w K mg base k f fd C fld
/-- for .. in o, o an instance of the class at C -/
def iOwn (K : Kf) (C : Addr) (fld : Str) (ta : TE) : TI := fun σ H R => ta σ H fun x H1 => ∃ a dx fs t zs, x = .ref a ∧ H1 a = some (.ins C dx fs) ∧ fs.lookup fld = some (.ref t) ∧ SqT K H1 t zs ∧ R (Itt K t) H1
theorem pi_own {X : Cx} {tg e : Expr} {ta : TE} {k j : Nat} {C : Addr} {fld : Str} (c : ItM X.prog X.w X.K X.mg X.base k C fld) (hr : Room j X.A) (hk : k ≤ j) (he : PE X e ta) : PI X tg e (iOwn X.K C fld ta) :=
  ⟨fun pins s σ H R I h => thn (he.run pins s σ H _ I h) fun v s1 ⟨x, H1, I1, r1, a, dx, fs, t, zs, e1, ha, hl, hz, q⟩ => by
    subst e1; cases r1
    obtain ⟨f, fd, hm, b, F⟩ := c.ex
    obtain ⟨mA, J, _⟩ := ins_get I1.hok ha
    obtain ⟨od, J, _⟩ := J.look
    obtain ⟨m, hF⟩ := I1.fr
    refine PySem.W.owit_iter hF I1.ok.mod.kin J hm.at_ hm.fn ?_
    refine wpAny_call (codeAny_mono (F X.A X.stack s1 H1 a dx t fs zs (hr.mono hk) I1.env0 (b s1 [.ref a] I1.kIn rfl) ha hl hz) fun r s' hq => ?_)
    cases r with
    | error e => exact False.elim hq
    | ok fl =>
      cases fl with
      | ret u =>
        obtain ⟨v, H', J2, r, it, e2, hn, hge, e3⟩ := I1.after hq
        subst e2; subst e3; cases r
        have hit : s'.heap.IsTupleIter it t 0 := (J2.hok it _ upd_same).1
        have up : upd H1 it (ItT t it) it = some (.ext fun h => h.IsTupleIter it t 0) := upd_same
        have I2 := ItX.inv_drop J2 up
        have fp := ItX.inv_fp J2 up (Nat.le_trans I1.sz hge)
        rw [ItX.dropH_upd hn] at I2 fp
        unfold PySem.W.OwitIt
        refine wpAny_specialOf (name := Str.ofString "__next__") hit.typeIs PySem.F.slot_tuple_iterator_next.lookup ?_
        exact ⟨it, [it], _, _, H1, rfl, I2, turn_tuple t it, hit, fun b hb => by rw [List.mem_singleton.mp hb]; exact fp, q⟩
      | next => exact False.elim hq
      | brk => exact False.elim hq
      | cont => exact False.elim hq⟩
section
variable {K : Kf} {m : Bool} {Γ Γ1 : List Sl} {ta : TE}
/-- its items are those of the field -/
theorem w_own {α β : Type} [ib : Rp β] {C : Addr} {fs : α → List (Str × Pv)} {x : α} {xs : Tu β} {fld : Str} (h : @E K m true ta Γ Γ1 α (repOb C fs) x) (hl : (fs x).lookup fld = some ⟨(inferInstance : Rp (Tu β)), xs⟩) : Wlk K true m (iOwn K C fld ta) Γ Γ1 ib xs.l := fun F I H0 H σ r R q =>
  h F I H0 H σ r _ fun v H1 H1' r1 a1 b1 c1 => by
    obtain ⟨a, dx, vs, rfl, h1, h2, h3⟩ := c1
    obtain ⟨w, w1, w2⟩ := fs_lookup h3 hl
    obtain ⟨t, zs, rfl, hs, hp⟩ := w2
    exact ⟨a, dx, vs, t, zs, rfl, r1.h _ _ h1, w1, same_t r1.h hs, q (Itt K t) H1 H1' r1 a1 b1 fun k H2 H2' s2 s3 s4 hk => yl_of (itt_go (same_t (s2.trans s3) hs) (prd_mono (fun _ _ z => ib.mono s2 z) hp) hk)⟩
end
end FF

set_option Elab.async false
set_option linter.all false
set_option maxRecDepth 100000
set_option maxHeartbeats 4000000
namespace LW
open PySem FF
/-- a hand: three ints of a list that a draw changes -/
structure Hd where
  a : Int
  b : Int
  c : Int
deriving Inhabited
structure Chart where
  depths : (FF.Tu Int)
  lanes : (FF.Tu (Int × Int))
  tide : (FF.Tu Int)
  harbours : (FF.Tu Int)
  size : Int
  beside : (FF.Tu (FF.Tu Int))
deriving Inhabited
structure Gate where
  hours : (FF.Tu Int)
deriving Inhabited
def p_Gate___init__ (hours : (List Int)) : Gate :=
bnd (FF.Tu.mk (srt hours)) fun hours1 =>
(⟨hours1⟩ : Gate)

def p_right_row_L (numbers : (List Int)) (greatest : Int) : Bool :=
if (!(decide ((1 : Int) ≤ ((numbers.length : Nat) : Int)) && decide (((numbers.length : Nat) : Int) ≤ (12 : Int)))) = true then
false
else
((numbers.map fun x2 => (decide ((0 : Int) ≤ x2) && decide (x2 ≤ greatest))).all id)
def p_lower_first (lane : (Int × Int)) : (Int × Int) :=
((mn [lane.1, lane.2]), (mx [lane.1, lane.2]))
def p_right_lanes_L (lanes : (List (Int × Int))) (size : Int) : Bool :=
bnd (lanes.map fun x1 => (p_lower_first x1)) fun pairs2 =>
if (!((pairs2.map fun x3 => (decide ((0 : Int) ≤ x3.1) && decide (x3.1 < x3.2) && decide (x3.2 < size))).all id)) = true then
false
else
(decide ((((FF.dis pairs2).length : Nat) : Int) = ((pairs2.length : Nat) : Int)))
def p_right_zone_L (places : (List Int)) (size : Int) : Bool :=
if (!((places.map fun x1 => (decide ((0 : Int) ≤ x1) && decide (x1 < size))).all id)) = true then
false
else
(decide ((((FF.dis places).length : Nat) : Int) = ((places.length : Nat) : Int)))
def p_wrong_part_of_chart_LLLL (depths : (List Int)) (lanes : (List (Int × Int))) (tide : (List Int)) (harbours : (List Int)) : (Option PySem.Str) :=
if (!(p_right_row_L depths (99 : Int))) = true then
(some (PySem.Str.ofString "depths"))
else
if (!(p_right_lanes_L lanes ((depths.length : Nat) : Int))) = true then
(some (PySem.Str.ofString "lanes"))
else
if (!(p_right_row_L tide (20 : Int))) = true then
(some (PySem.Str.ofString "tide"))
else
if (!(p_right_zone_L harbours ((depths.length : Nat) : Int))) = true then
(some (PySem.Str.ofString "harbours"))
else
(none : (Option PySem.Str))
def p_places_beside (lanes : (FF.Tu (Int × Int))) (place : Int) : (FF.Tu Int) :=
bnd ((lanes.l.filter fun x1 => (decide (place ∈ [(x1.1, x1.2).1, (x1.1, x1.2).2]))).map fun x1 => ((x1.1 + x1.2) - place)) fun beside2 =>
(FF.Tu.mk (srt beside2))
def p_Chart___init___LLLL (depths : (List Int)) (lanes : (List (Int × Int))) (tide : (List Int)) (harbours : (List Int)) : Chart :=
bnd (p_wrong_part_of_chart_LLLL depths lanes tide harbours) fun part1 =>
if part1.isSome = true then
(default)
else
bnd (FF.Tu.mk depths) fun depths3 =>
bnd (FF.Tu.mk (srtP (lanes.map fun x4 => (p_lower_first x4)))) fun lanes5 =>
bnd (FF.Tu.mk tide) fun tide6 =>
bnd (FF.Tu.mk (srt harbours)) fun harbours7 =>
bnd ((depths3.l.length : Nat) : Int) fun size8 =>
bnd (FF.Tu.mk ((rng 0 size8).map fun x9 => (p_places_beside lanes5 x9))) fun beside10 =>
(⟨depths3, lanes5, tide6, harbours7, size8, beside10⟩ : Chart)
def p_Chart_water (self : Chart) (place : Int) (hour : Int) : Int :=
((gi self.depths.l place) + (gi self.tide.l (hour % ((self.tide.l.length : Nat) : Int))))
def p_tide_gate (chart : Chart) (place : Int) (draught : Int) (last : Int) : Gate :=
(p_Gate___init__ (((rng 0 (last + (1 : Int))).filter fun x1 => (decide ((p_Chart_water chart place x1) ≥ draught))).map fun x1 => x1))
def lhand (script : (FF.Sq Int)) (k : Int) : Hd :=
bnd (0 : Int) fun cell1 =>
bnd (if (decide (k < ((script.l.length : Nat) : Int))) = true then
bnd (gi script.l k) fun cell3 =>
cell3
else
cell1) fun j2 =>
bnd (if (decide (j2 < (0 : Int))) = true then
bnd ((1 : Int) - ((2 : Int) * j2)) fun cell5 =>
cell5
else
j2) fun j4 =>
bnd (0 : Int) fun rest6 =>
bnd (if (decide (j4 ≥ ((10 : Int) ^ (18 : Int).toNat))) = true then
bnd j4 fun rest8 =>
rest8
else
rest6) fun j7 =>
(⟨j7, (((j4 + ((7919 : Int) * k)) + (13 : Int)) % (2147483647 : Int)), (0 : Int)⟩ : Hd)
def lpick (hand : Hd) (size : Int) : Int × Hd :=
if (decide (size < (1 : Int))) = true then
((0 : Int), hand)
else
if (decide (hand.a > (0 : Int))) = true then
bnd (hand.a % size) fun digit3 =>
bnd (hand.a / size) fun y4 =>
(digit3, (⟨y4, hand.b, hand.c⟩ : Hd))
else
bnd (hand.c + (1 : Int)) fun y5 =>
bnd ((((⟨hand.a, hand.b, y5⟩ : Hd).b + ((7919 : Int) * (⟨hand.a, hand.b, y5⟩ : Hd).c)) + (13 : Int)) % (2147483647 : Int)) fun mixed6 =>
bnd ((mixed6 * (mixed6 + (48271 : Int))) % (2147483629 : Int)) fun mixed7 =>
bnd (((mixed7 * (mixed7 + (69621 : Int))) + ((31 : Int) * (⟨hand.a, hand.b, y5⟩ : Hd).c)) % (2147483647 : Int)) fun mixed8 =>
(((mixed8 / (9 : Int)) % size), (⟨hand.a, hand.b, y5⟩ : Hd))
def lint (x : Int) : Bool :=
(true && (!false))
def lsome (hand : Hd) (size : Int) (shareV : Int) : (List Int) × Hd :=
bnd ([] : List Int) fun zone1 =>
bnd ((rng 0 size).foldl (fun (s3 : Hd × (List Int)) (x2 : Int) =>
bnd (lpick s3.1 shareV) fun r5 =>
bnd (if (decide (r5.1 = (0 : Int))) = true then
bnd (s3.2 ++ [x2]) fun zone7 =>
zone7
else
s3.2) fun j6 =>
(r5.2, j6)) (hand, zone1)) fun e4 =>
(e4.2, e4.1)
def lsea (hand : Hd) (most : Int) : (FF.T4 (List Int) (List (Int × Int)) (List Int) (List Int)) × Hd :=
bnd (lpick hand most) fun r1 =>
bnd ((1 : Int) + r1.1) fun size2 =>
bnd (lpick r1.2 (3 : Int)) fun r3 =>
bnd (gi ([(2 : Int), (6 : Int), (100 : Int)] : List Int) r3.1) fun span4 =>
bnd (lpick r3.2 (3 : Int)) fun r5 =>
bnd (gi ([(1 : Int), (4 : Int), (21 : Int)] : List Int) r5.1) fun swell6 =>
bnd ([] : List Int) fun deeps7 =>
bnd ([] : List (Int × Int)) fun joins8 =>
bnd ((rng 0 size2).foldl (fun (s10 : Hd × (List Int) × (List (Int × Int))) (x9 : Int) =>
bnd (lpick s10.1 span4) fun r12 =>
bnd (s10.2.1 ++ [r12.1]) fun deeps13 =>
bnd ((rng 0 x9).foldl (fun (s15 : Hd × (List (Int × Int))) (x14 : Int) =>
bnd (lpick s15.1 (4 : Int)) fun r17 =>
bnd (if (decide (r17.1 > (0 : Int))) = true then
bnd (s15.2 ++ [(x14, x9)]) fun joins19 =>
joins19
else
s15.2) fun j18 =>
(r17.2, j18)) (r12.2, s10.2.2)) fun e16 =>
(e16.1, deeps13, e16.2)) (r5.2, deeps7, joins8)) fun e11 =>
bnd ([(0 : Int)] : List Int) fun flows21 =>
bnd (lpick e11.1 (3 : Int)) fun r22 =>
bnd ((rng 0 r22.1).foldl (fun (s24 : Hd × (List Int)) (x23 : Int) =>
bnd (lpick s24.1 swell6) fun r26 =>
bnd (s24.2 ++ [r26.1]) fun flows27 =>
(r26.2, flows27)) (r22.2, flows21)) fun e25 =>
bnd (lsome e25.1 size2 (4 : Int)) fun r28 =>
((FF.T4.mk e11.2.1 e11.2.2 e25.2 r28.1), r28.2)
def lchart (sea : (FF.T4 (List Int) (List (Int × Int)) (List Int) (List Int))) : Chart := p_Chart___init___LLLL sea.a sea.b sea.c sea.d
def lwater (sea : (FF.T4 (List Int) (List (Int × Int)) (List Int) (List Int))) (place : Int) (when : Int) : Int :=
((gi sea.a place) + (gi sea.c (when % ((sea.c.length : Nat) : Int))))
def ltides (hand : Hd) (sea : (FF.T4 (List Int) (List (Int × Int)) (List Int) (List Int))) : (FF.T4 (List Int) (List (Int × Int)) (List Int) (List Int)) × Hd :=
bnd ((gs sea.c (some (1 : Int)) none) ++ (gs sea.c none (some (1 : Int)))) fun flows1 =>
bnd (lpick hand (3 : Int)) fun r2 =>
bnd (lpick r2.2 (gi ([(1 : Int), (3 : Int), (10 : Int)] : List Int) r2.1)) fun r3 =>
bnd ((rng 0 r3.1).foldl (fun (s5 : Hd × (List Int)) (x4 : Int) =>
bnd (lpick s5.1 (21 : Int)) fun r7 =>
bnd (s5.2 ++ [r7.1]) fun flows8 =>
(r7.2, flows8)) (r3.2, flows1)) fun e6 =>
((FF.T4.mk sea.a sea.b e6.2 sea.d), e6.1)
def lquestion (hand : Hd) (sea : (FF.T4 (List Int) (List (Int × Int)) (List Int) (List Int))) : (FF.T3 Int Int Int) × Hd :=
bnd (lpick hand ((sea.a.length : Nat) : Int)) fun r1 =>
bnd r1.1 fun place2 =>
bnd (lpick r1.2 (3 : Int)) fun r3 =>
bnd (lpick r3.2 (gi ([(5 : Int), (20 : Int), (97 : Int)] : List Int) r3.1)) fun r4 =>
bnd r4.1 fun last5 =>
bnd (lpick r4.2 (last5 + (1 : Int))) fun r6 =>
bnd (lpick r6.2 (3 : Int)) fun r7 =>
bnd (((lwater sea place2 r6.1) + r7.1) - (1 : Int)) fun deep8 =>
((FF.T3.mk place2 (if (if deep8 < (99 : Int) then deep8 else (99 : Int)) > (0 : Int) then (if deep8 < (99 : Int) then deep8 else (99 : Int)) else (0 : Int)) last5), r7.2)
def lgate_holds (gate : Gate) (due : (List Int)) : Bool :=
if ((!true) || ((!true) || (!decide (gate.hours.l = due)))) = true then
false
else
if (decide (((((gate.hours.l.filter fun x2 => (!(lint x2))).map fun x2 => x2).length : Nat) : Int) > (0 : Int))) = true then
false
else
(decide ((gate.hours.l.map fun x4 => x4) = due))
def l_law (script : (FF.Sq Int)) : Bool :=
bnd (lhand script (0 : Int)) fun hand1 =>
bnd (lpick hand1 (8 : Int)) fun r2 =>
bnd (lsea r2.2 (gi ([(6 : Int), (6 : Int), (6 : Int), (6 : Int), (6 : Int), (6 : Int), (6 : Int), (12 : Int)] : List Int) r2.1)) fun r3 =>
bnd r3.1 fun sea4 =>
bnd (ltides (lhand script (1 : Int)) sea4) fun r5 =>
bnd r5.1 fun sea6 =>
bnd (lquestion (lhand script (2 : Int)) sea6) fun r7 =>
bnd (lquestion (lhand script (3 : Int)) sea6) fun r8 =>
bnd ([r7.1, r8.1] : List (FF.T3 Int Int Int)) fun questions9 =>
bnd (lchart sea6) fun chart10 =>
ends (loopL (ρ := Bool) (S := Unit) (fun (s12 : Unit) (x11 : Int) =>
bnd ((gi questions9 x11).a) fun place14 =>
bnd ((gi questions9 x11).b) fun deep15 =>
bnd (((rng 0 ((gi questions9 x11).c + (1 : Int))).filter fun x16 => (decide ((lwater sea6 place14 x16) ≥ deep15))).map fun x16 => x16) fun due17 =>
if (!(lgate_holds (p_tide_gate chart10 place14 deep15 ((gi questions9 x11).c)) due17)) = true then
(.rt false)
else
(.nx ())) () ([(0 : Int), (1 : Int), (0 : Int)] : List Int)) (fun r => r) fun e13 =>
true
end LW

set_option linter.all false
set_option maxRecDepth 100000
namespace LW
open FF
theorem pick_fact (h : Hd) (n : Int) : (n < 1 → (lpick h n).1 = 0) ∧ (1 ≤ n → 0 ≤ (lpick h n).1 ∧ (lpick h n).1 < n) := by
  unfold lpick
  simp only [bnd, decide_eq_true_eq]
  constructor
  · intro hn
    rw [if_pos hn]
  · intro hn
    rw [if_neg (by omega)]
    split
    · exact ⟨Int.emod_nonneg _ (by omega), Int.emod_lt_of_pos _ (by omega)⟩
    · exact ⟨Int.emod_nonneg _ (by omega), Int.emod_lt_of_pos _ (by omega)⟩
abbrev Sea := T4 (List Int) (List (Int × Int)) (List Int) (List Int)
structure SeaOk (s : Sea) : Prop where
  n1 : 1 ≤ s.a.length
  n12 : s.a.length ≤ 12
  dep : ∀ x ∈ s.a, 0 ≤ x ∧ x ≤ 99
  lan : ∀ p ∈ s.b, 0 ≤ p.1 ∧ p.1 < p.2 ∧ p.2 < s.a.length
  lnd : s.b.Nodup
  l66 : s.b.length ≤ 66
  f1 : 1 ≤ s.c.length
  f3 : s.c.length ≤ 3
  flo : ∀ x ∈ s.c, 0 ≤ x ∧ x ≤ 20
  har : ∀ x ∈ s.d, 0 ≤ x ∧ x < s.a.length
  hnd : s.d.Nodup
  h12 : s.d.length ≤ 12
structure SeaW (s : Sea) : Prop where
  n1 : 1 ≤ s.a.length
  n12 : s.a.length ≤ 12
  dep : ∀ x ∈ s.a, 0 ≤ x ∧ x ≤ 99
  lan : ∀ p ∈ s.b, 0 ≤ p.1 ∧ p.1 < p.2 ∧ p.2 < s.a.length
  lnd : s.b.Nodup
  l66 : s.b.length ≤ 66
  f1 : 1 ≤ s.c.length
  f12 : s.c.length ≤ 12
  flo : ∀ x ∈ s.c, 0 ≤ x ∧ x ≤ 20
  har : ∀ x ∈ s.d, 0 ≤ x ∧ x < s.a.length
  hnd : s.d.Nodup
  h12 : s.d.length ≤ 12
theorem SeaOk.w {s : Sea} (h : SeaOk s) : SeaW s := ⟨h.n1, h.n12, h.dep, h.lan, h.lnd, h.l66, h.f1, by have := h.f3; omega, h.flo, h.har, h.hnd, h.h12⟩
structure FlowOk (f : List Int) : Prop where
  f1 : 1 ≤ f.length
  f12 : f.length ≤ 12
  flo : ∀ x ∈ f, 0 ≤ x ∧ x ≤ 20
theorem SeaW.tide {s : Sea} {f : List Int} (h : SeaW s) (hf : FlowOk f) : SeaW ⟨s.a, s.b, f, s.d⟩ := ⟨h.n1, h.n12, h.dep, h.lan, h.lnd, h.l66, hf.f1, hf.f12, hf.flo, h.har, h.hnd, h.h12⟩
theorem c100 {s : Sea} (h : SeaOk s) : s.c.length ≤ 100 := by have := h.f3; omega
theorem lens {s : Sea} (h : SeaOk s) : s.a.length ≤ 1000 ∧ s.a.length ≤ 1000 := by have := h.n12; omega
theorem lenf {f : List Int} (h : FlowOk f) : f.length ≤ 1000 ∧ f.length ≤ 1000 := by have := h.f12; omega
theorem ix_a {s : Sea} (h : SeaOk s) : (0 : Int) ≤ 0 ∧ (0 : Int) < (s.a.length : Int) := by have := h.n1; omega
theorem ix_f {f : List Int} (h : FlowOk f) : (0 : Int) ≤ 0 ∧ (0 : Int) < (f.length : Int) := by have := h.f1; omega
theorem ix_a' {s : Sea} (h : SeaOk s) : -((s.a.length : Nat) : Int) ≤ 0 ∧ (0 : Int) < (s.a.length : Int) := by have := h.n1; omega
theorem ix_f' {f : List Int} (h : FlowOk f) : -((f.length : Nat) : Int) ≤ 0 ∧ (0 : Int) < (f.length : Int) := by have := h.f1; omega
theorem pick_in {h : Hd} {n : Int} (hn : 1 ≤ n) : 0 ≤ (lpick h n).1 ∧ (lpick h n).1 < n := (pick_fact h n).2 hn
theorem pick_le {h : Hd} {n m : Int} (hn : 1 ≤ n) (hm : n ≤ m + 1) : 0 ≤ (lpick h n).1 ∧ (lpick h n).1 ≤ m := by have := pick_in (h := h) hn; omega
theorem gi3 {a b c k m : Int} (h : 0 ≤ k ∧ k < 3) (ha : 1 ≤ a ∧ a ≤ m) (hb : 1 ≤ b ∧ b ≤ m) (hc : 1 ≤ c ∧ c ≤ m) : 1 ≤ gi [a, b, c] k ∧ gi [a, b, c] k ≤ m := by
  have e : k = 0 ∨ k = 1 ∨ k = 2 := by omega
  rcases e with rfl | rfl | rfl
  · exact ha
  · exact hb
  · exact hc
theorem some_fact (h : Hd) (n sh : Int) (hn : 0 ≤ n) : (∀ x ∈ (lsome h n sh).1, 0 ≤ x ∧ x < n) ∧ (lsome h n sh).1.Nodup ∧ ((lsome h n sh).1.length : Int) ≤ n := by
  have key := fold_inv (fun k (s : Hd × List Int) => (∀ x ∈ s.2, 0 ≤ x ∧ x < k ∧ x < n) ∧ s.2.Nodup ∧ s.2.length ≤ k) (s0 := (h, ([] : List Int))) (xs := rng 0 n)
    (f := fun s3 x2 => bnd (lpick s3.1 sh) fun r5 => bnd (if (decide (r5.1 = (0 : Int))) = true then bnd (s3.2 ++ [x2]) fun zone7 => zone7 else s3.2) fun j6 => (r5.2, j6)) ⟨fun _ h => (List.not_mem_nil h).elim, List.nodup_nil, Nat.le_refl _⟩ (fun k s x hx hI => by
      obtain ⟨e, hl⟩ := rng_n hx
      obtain ⟨i1, i2, i3⟩ := hI
      simp only [bnd]
      by_cases c : (decide ((lpick s.1 sh).1 = 0)) = true
      · rw [if_pos c]
        refine ⟨fun y hy => ?_, ?_, by simp; omega⟩
        · rcases List.mem_append.mp hy with hy | hy
          · have := i1 y hy; omega
          · rw [List.mem_singleton.mp hy]; omega
        · refine List.nodup_append.mpr ⟨i2, by simp, fun a ha b hb e => ?_⟩
          have := i1 a ha
          rw [List.mem_singleton.mp hb] at e
          omega
      · rw [if_neg c]
        exact ⟨fun y hy => by have := i1 y hy; omega, i2, by omega⟩)
  have hz := rng_size n hn
  obtain ⟨k1, k2, k3⟩ := key
  refine ⟨fun x hx => ?_, k2, ?_⟩
  · have := k1 x hx; omega
  · have k3' : ((lsome h n sh).1.length : Int) ≤ ((rng 0 n).length : Int) := by exact_mod_cast k3
    omega
def tri : Nat → Nat
  | 0 => 0
  | k + 1 => tri k + k
theorem tri12 : ∀ k, k < 13 → tri k ≤ 66 := by decide
abbrev innerF (x9 : Int) : Hd × List (Int × Int) → Int → Hd × List (Int × Int) := fun s15 x14 => bnd (lpick s15.1 (4 : Int)) fun r17 => bnd (if (decide (r17.1 > (0 : Int))) = true then bnd (s15.2 ++ [(x14, x9)]) fun joins19 => joins19 else s15.2) fun j18 => (r17.2, j18)
abbrev outerF (span4 : Int) : Hd × List Int × List (Int × Int) → Int → Hd × List Int × List (Int × Int) := fun s10 x9 => bnd (lpick s10.1 span4) fun r12 => bnd (s10.2.1 ++ [r12.1]) fun deeps13 => bnd ((rng 0 x9).foldl (innerF x9) (r12.2, s10.2.2)) fun e16 => (e16.1, deeps13, e16.2)
theorem inner_fact (k : Nat) (h : Hd) (J : List (Int × Int)) (hJ : ∀ p ∈ J, 0 ≤ p.1 ∧ p.1 < p.2 ∧ p.2 < k) (hd : J.Nodup) :
    (∀ p ∈ ((rng 0 k).foldl (innerF k) (h, J)).2, 0 ≤ p.1 ∧ p.1 < p.2 ∧ p.2 < (k : Int) + 1) ∧ ((rng 0 k).foldl (innerF k) (h, J)).2.Nodup ∧ ((rng 0 k).foldl (innerF k) (h, J)).2.length ≤ J.length + k := by
  have key := fold_inv (fun n (s : Hd × List (Int × Int)) => (∀ p ∈ s.2, p ∈ J ∨ (p.2 = k ∧ 0 ≤ p.1 ∧ p.1 < n ∧ p.1 < k)) ∧ s.2.Nodup ∧ s.2.length ≤ J.length + n) (s0 := (h, J)) (xs := rng 0 k) (f := innerF k) ⟨fun p hp => .inl hp, hd, Nat.le_refl _⟩ (fun n s x hx hI => by
    obtain ⟨e, hl⟩ := rng_n hx
    obtain ⟨i1, i2, i3⟩ := hI
    simp only [innerF, bnd]
    by_cases c : (decide ((lpick s.1 4).1 > 0)) = true
    · rw [if_pos c]
      refine ⟨fun y hy => ?_, ?_, by simp; omega⟩
      · rcases List.mem_append.mp hy with hy | hy
        · rcases i1 y hy with z | z
          · exact .inl z
          · exact .inr ⟨z.1, z.2.1, by omega, z.2.2.2⟩
        · rw [List.mem_singleton.mp hy]
          exact .inr ⟨rfl, by show 0 ≤ x; omega, by show x < _; omega, hl⟩
      · refine List.nodup_append.mpr ⟨i2, by simp, fun a ha b hb e2 => ?_⟩
        rw [List.mem_singleton.mp hb] at e2
        rcases i1 a ha with z | z
        · have := (hJ a z).2.2
          rw [e2] at this
          exact absurd this (Int.lt_irrefl _)
        · have z1 := z.2.2.1
          rw [e2] at z1
          have z2 : x < n := z1
          omega
    · rw [if_neg c]
      refine ⟨fun y hy => ?_, i2, by omega⟩
      rcases i1 y hy with z | z
      · exact .inl z
      · exact .inr ⟨z.1, z.2.1, by omega, z.2.2.2⟩)
  have hz := rng_size (k : Int) (by omega)
  obtain ⟨k1, k2, k3⟩ := key
  refine ⟨fun p hp => ?_, k2, by omega⟩
  rcases k1 p hp with z | z
  · have := hJ p z; omega
  · have := z; omega
theorem outer_fact (sp : Int) (hs : 1 ≤ sp ∧ sp ≤ 100) (m : Nat) (h : Hd) : let e := (rng 0 m).foldl (outerF sp) (h, [], [])
    e.2.1.length = m ∧ (∀ x ∈ e.2.1, 0 ≤ x ∧ x ≤ 99) ∧ (∀ p ∈ e.2.2, 0 ≤ p.1 ∧ p.1 < p.2 ∧ p.2 < (m : Int)) ∧ e.2.2.Nodup ∧ e.2.2.length ≤ tri m := by
  have key := fold_inv (fun n (e : Hd × List Int × List (Int × Int)) => e.2.1.length = n ∧ (∀ x ∈ e.2.1, 0 ≤ x ∧ x ≤ 99) ∧ (∀ p ∈ e.2.2, 0 ≤ p.1 ∧ p.1 < p.2 ∧ p.2 < (n : Int)) ∧ e.2.2.Nodup ∧ e.2.2.length ≤ tri n) (s0 := (h, ([] : List Int), ([] : List (Int × Int)))) (xs := rng 0 m) (f := outerF sp)
    ⟨rfl, fun _ h => (List.not_mem_nil h).elim, fun _ h => (List.not_mem_nil h).elim, List.nodup_nil, Nat.le_refl _⟩ (fun n s x hx hI => by
      obtain ⟨e, hl⟩ := rng_n hx
      have e' : x = (n : Int) := by omega
      subst e'
      obtain ⟨i1, i2, i3, i4, i5⟩ := hI
      obtain ⟨j1, j2, j3⟩ := inner_fact n (lpick s.1 sp).2 s.2.2 i3 i4
      have pk := pick_le (h := s.1) (m := 99) hs.1 (by omega)
      simp only [outerF, bnd]
      refine ⟨by simp [i1], fun y hy => ?_, fun p hp => ?_, j2, ?_⟩
      · rcases List.mem_append.mp hy with hy | hy
        · exact i2 y hy
        · rw [List.mem_singleton.mp hy]; exact pk
      · have := j1 p hp; omega
      · show _ ≤ tri n + n
        exact Nat.le_trans j3 (Nat.add_le_add_right i5 n))
  have hz : (rng 0 (m : Int)).length = m := by rw [rng_len]; omega
  rw [hz] at key
  exact key
theorem swell_fact (sw : Int) (hs : sw ≤ 21) (h1 : 1 ≤ sw) (m : Int) (hm : 0 ≤ m) (h : Hd) : let e := (rng 0 m).foldl (fun (s24 : Hd × List Int) (x23 : Int) => bnd (lpick s24.1 sw) fun r26 => bnd (s24.2 ++ [r26.1]) fun flows27 => (r26.2, flows27)) (h, [0])
    (e.2.length : Int) = m + 1 ∧ ∀ x ∈ e.2, 0 ≤ x ∧ x ≤ 20 := by
  have key := fold_inv (fun n (e : Hd × List Int) => e.2.length = n + 1 ∧ ∀ x ∈ e.2, 0 ≤ x ∧ x ≤ 20) (s0 := (h, ([0] : List Int))) (xs := rng 0 m) (f := fun (s24 : Hd × List Int) (x23 : Int) => bnd (lpick s24.1 sw) fun r26 => bnd (s24.2 ++ [r26.1]) fun flows27 => (r26.2, flows27))
    ⟨rfl, fun x hx => by rw [List.mem_singleton.mp hx]; decide⟩ (fun n s x hx hI => by
      obtain ⟨i1, i2⟩ := hI
      have pk := pick_le (h := s.1) (m := 20) h1 (by omega)
      simp only [bnd]
      refine ⟨by simp [i1], fun y hy => ?_⟩
      rcases List.mem_append.mp hy with hy | hy
      · exact i2 y hy
      · rw [List.mem_singleton.mp hy]; exact pk)
  have hz := rng_size m hm
  refine ⟨?_, key.2⟩
  have := key.1
  omega
theorem bnd_ind {α β : Type} {P : β → Prop} {x : α} {f : α → β} (h : ∀ y, y = x → P (f y)) : P (bnd x f) := h x rfl
theorem sea_fact (h : Hd) (most : Int) (hm : 1 ≤ most ∧ most ≤ 12) : SeaOk (lsea h most).1 := by
  unfold lsea
  refine bnd_ind (P := fun r : Sea × Hd => SeaOk r.1) fun r1 e1 => bnd_ind (P := fun r : Sea × Hd => SeaOk r.1) fun n e2 => bnd_ind (P := fun r : Sea × Hd => SeaOk r.1) fun r3 e3 => bnd_ind (P := fun r : Sea × Hd => SeaOk r.1) fun sp e4 => bnd_ind (P := fun r : Sea × Hd => SeaOk r.1) fun r5 e5 => bnd_ind (P := fun r : Sea × Hd => SeaOk r.1) fun sw e6 => ?_
  refine bnd_ind (P := fun r : Sea × Hd => SeaOk r.1) fun d0 e7 => bnd_ind (P := fun r : Sea × Hd => SeaOk r.1) fun j0 e8 => bnd_ind (P := fun r : Sea × Hd => SeaOk r.1) fun e e9 => bnd_ind (P := fun r : Sea × Hd => SeaOk r.1) fun f0 e10 => bnd_ind (P := fun r : Sea × Hd => SeaOk r.1) fun r22 e11 => bnd_ind (P := fun r : Sea × Hd => SeaOk r.1) fun e25 e12 => bnd_ind (P := fun r : Sea × Hd => SeaOk r.1) fun r28 e13 => ?_
  have p1 := pick_in (h := h) hm.1
  rw [← e1] at p1
  have p3 := pick_in (h := r1.2) (n := 3) (by decide)
  rw [← e3] at p3
  have p5 := pick_in (h := r3.2) (n := 3) (by decide)
  rw [← e5] at p5
  have s1 := gi3 (a := 2) (b := 6) (c := 100) (m := 100) p3 (by decide) (by decide) (by decide)
  have s2 := gi3 (a := 1) (b := 4) (c := 21) (m := 21) p5 (by decide) (by decide) (by decide)
  rw [← e4] at s1
  rw [← e6] at s2
  obtain ⟨m, hm2⟩ : ∃ m : Nat, n = (m : Int) := ⟨n.toNat, by omega⟩
  subst e7 e8 e10 hm2
  have o := outer_fact sp s1 m r5.2
  have o' : e = (rng 0 (m : Int)).foldl (outerF sp) (r5.2, [], []) := e9
  obtain ⟨o1, o2, o3, o4, o5⟩ := o
  rw [← o'] at o1 o2 o3 o4 o5
  have p7 := pick_in (h := e.1) (n := 3) (by decide)
  rw [← e11] at p7
  have w := swell_fact sw s2.2 s2.1 r22.1 p7.1 r22.2
  have w' : _ ∧ _ := w
  rw [← e12] at w'
  obtain ⟨w1, w2⟩ := w'
  have z := some_fact e25.1 (m : Int) 4 (by omega)
  rw [← e13] at z
  obtain ⟨z1, z2, z3⟩ := z
  have m13 : m < 13 := by omega
  have t := tri12 m m13
  have o1' : e.2.1.length = m := o1
  refine ⟨by show 1 ≤ e.2.1.length; omega, by show e.2.1.length ≤ 12; omega, o2, fun p hp => ?_, o4, by show e.2.2.length ≤ 66; omega, by show 1 ≤ e25.2.length; omega, by show e25.2.length ≤ 3; omega, w2, fun x hx => ?_, z2, by show r28.1.length ≤ 12; omega⟩
  · show 0 ≤ p.1 ∧ p.1 < p.2 ∧ p.2 < (e.2.1.length : Int)
    rw [o1']
    exact o3 p hp
  · show 0 ≤ x ∧ x < (e.2.1.length : Int)
    rw [o1']
    exact z1 x hx
theorem gs_tail {α : Type} (xs : List α) : gs xs (some 1) none = xs.drop 1 := by
  unfold gs
  simp only [show ¬ (1 : Int) < 0 by decide, if_false, show (1 : Int).toNat = 1 by decide]
  cases xs with
  | nil => rfl
  | cons x xs =>
    rw [show min 1 (x :: xs).length = 1 by simp]
    exact List.take_of_length_le (by simp)
theorem gs_head {α : Type} (xs : List α) : gs xs none (some 1) = xs.take 1 := by
  unfold gs
  simp only [show ¬ (1 : Int) < 0 by decide, if_false, show (1 : Int).toNat = 1 by decide]
  cases xs with
  | nil => rfl
  | cons x xs =>
    rw [show min 1 (x :: xs).length = 1 by simp]
    rfl
theorem comp_pick (n m : Int) (hn : 1 ≤ n) (hm : n ≤ m + 1) : ∀ (xs : List Int) (h : Hd), (compL (fun _ _ => true) (fun (s5 : Hd) (_ : Int) => bnd (lpick s5 n) fun r8 => (r8.1, r8.2)) h xs).1.length = xs.length ∧ ∀ x ∈ (compL (fun _ _ => true) (fun (s5 : Hd) (_ : Int) => bnd (lpick s5 n) fun r8 => (r8.1, r8.2)) h xs).1, 0 ≤ x ∧ x ≤ m
  | [], h => ⟨rfl, fun x hx => (List.not_mem_nil hx).elim⟩
  | y :: ys, h => by
    obtain ⟨i1, i2⟩ := comp_pick n m hn hm ys (lpick h n).2
    have pk := pick_le (h := h) hn hm
    unfold compL
    rw [if_pos rfl]
    refine ⟨congrArg Nat.succ i1, fun x hx => ?_⟩
    rcases List.mem_cons.mp hx with rfl | hx
    · exact pk
    · exact i2 x hx
theorem row_ok {xs : List Int} {g : Int} (h1 : 1 ≤ xs.length) (h2 : xs.length ≤ 12) (h : ∀ x ∈ xs, 0 ≤ x ∧ x ≤ g) : p_right_row_L xs g = true := by
  unfold p_right_row_L
  have e : (!(decide ((1 : Int) ≤ ((xs.length : Nat) : Int)) && decide (((xs.length : Nat) : Int) ≤ (12 : Int)))) = false := by
    rw [decide_eq_true (by omega : (1 : Int) ≤ (xs.length : Int)), decide_eq_true (by omega : (xs.length : Int) ≤ 12)]; rfl
  rw [e, if_neg (by decide)]
  rw [List.all_map, List.all_eq_true]
  intro x hx
  have := h x hx
  simp [this.1, this.2]
theorem low_first {p : Int × Int} (h : p.1 < p.2) : p_lower_first p = p := by
  unfold p_lower_first mn mx
  simp only [List.foldl_cons, List.foldl_nil]
  rw [if_neg (by simp; omega), if_pos (by simpa using h)]
theorem lanes_id {ps : List (Int × Int)} {n : Int} (h : ∀ p ∈ ps, 0 ≤ p.1 ∧ p.1 < p.2 ∧ p.2 < n) : ps.map p_lower_first = ps := by
  have e := List.map_congr_left (f := p_lower_first) (g := id) (l := ps) fun p hp => low_first (h p hp).2.1
  rw [e, List.map_id]
theorem lanes_ok {ps : List (Int × Int)} {n : Int} (h : ∀ p ∈ ps, 0 ≤ p.1 ∧ p.1 < p.2 ∧ p.2 < n) (hd : ps.Nodup) : p_right_lanes_L ps n = true := by
  unfold p_right_lanes_L
  show (if _ then _ else _) = true
  have e : (ps.map fun x1 => p_lower_first x1) = ps := lanes_id h
  rw [e]
  have a : ((ps.map fun x3 => (decide ((0 : Int) ≤ x3.1) && decide (x3.1 < x3.2) && decide (x3.2 < n))).all id) = true := by
    rw [List.all_map, List.all_eq_true]
    intro x hx
    have := h x hx
    simp [this.1, this.2.1, this.2.2]
  rw [a, if_neg (by decide), dis_full.mpr hd]
  simp
theorem harb_ok {xs : List Int} {n : Int} (h : ∀ x ∈ xs, 0 ≤ x ∧ x < n) (hd : xs.Nodup) : p_right_zone_L xs n = true := by
  unfold p_right_zone_L
  have a : ((xs.map fun x1 => (decide ((0 : Int) ≤ x1) && decide (x1 < n))).all id) = true := by
    rw [List.all_map, List.all_eq_true]
    intro x hx
    have := h x hx
    simp [this.1, this.2]
  rw [a, if_neg (by decide), dis_full.mpr hd]
  simp
theorem wrong_LLLL {s : Sea} (hs : SeaW s) : p_wrong_part_of_chart_LLLL s.a s.b s.c s.d = none := by
  unfold p_wrong_part_of_chart_LLLL
  rw [row_ok hs.n1 hs.n12 hs.dep, lanes_ok hs.lan hs.lnd, row_ok hs.f1 hs.f12 hs.flo, harb_ok hs.har hs.hnd]
  rfl
theorem made_LLLL {d : List Int} {l : List (Int × Int)} {t h : List Int} (e : p_wrong_part_of_chart_LLLL d l t h = none) : p_Chart___init___LLLL d l t h = ⟨⟨d⟩, ⟨srtP (l.map p_lower_first)⟩, ⟨t⟩, ⟨srt h⟩, d.length, ⟨(rng 0 d.length).map (p_places_beside ⟨srtP (l.map p_lower_first)⟩)⟩⟩ := by
  unfold p_Chart___init___LLLL
  simp [bnd, e]
theorem gi_map_rng {β : Type} [Inhabited β] (f : Int → β) {n k : Int} (h0 : 0 ≤ k) (h1 : k < n) : gi ((rng 0 n).map f) k = f k := by
  rw [gi_nat h0, List.getD_eq_getElem?_getD, List.getElem?_map, rng_get (by omega)]
  show f (0 + (k.toNat : Int)) = f k
  rw [show (0 : Int) + (k.toNat : Int) = k by omega]
theorem mem_srt {x : Int} {ns : List Int} : x ∈ srt ns ↔ x ∈ ns := (srt_perm ns).mem_iff
theorem mem_srtP {x : Int × Int} {ns : List (Int × Int)} : x ∈ srtP ns ↔ x ∈ ns := (srtP_perm ns).mem_iff
def Joined (b : List (Int × Int)) (k p : Int) : Prop := ∃ q ∈ b, (q.1 = k ∧ q.2 = p) ∨ (q.2 = k ∧ q.1 = p)
theorem mem_beside {lanes : List (Int × Int)} {k p : Int} : p ∈ (p_places_beside ⟨lanes⟩ k).l ↔ Joined lanes k p := by
  unfold p_places_beside
  show p ∈ srt _ ↔ _
  rw [mem_srt]
  simp only [List.mem_map, List.mem_filter, decide_eq_true_eq, List.mem_cons, List.not_mem_nil, or_false]
  constructor
  · rintro ⟨q, ⟨h1, h2⟩, rfl⟩
    refine ⟨q, h1, ?_⟩
    rcases h2 with h2 | h2
    · exact .inl ⟨h2.symm, by omega⟩
    · exact .inr ⟨h2.symm, by omega⟩
  · rintro ⟨q, h1, h2⟩
    refine ⟨q, ⟨h1, ?_⟩, ?_⟩
    · rcases h2 with h2 | h2
      · exact .inl h2.1.symm
      · exact .inr h2.1.symm
    · rcases h2 with h2 | h2
      · omega
      · omega
theorem beside_len {lanes : List (Int × Int)} {k : Int} : (p_places_beside ⟨lanes⟩ k).l.length ≤ lanes.length := by
  unfold p_places_beside
  show (srt _).length ≤ _
  rw [srt_len, List.length_map]
  exact List.length_filter_le _ _
structure OfSea (c : Chart) (s : Sea) : Prop where
  w : SeaW s
  e : c = ⟨⟨s.a⟩, ⟨srtP s.b⟩, ⟨s.c⟩, ⟨srt s.d⟩, s.a.length, ⟨(rng 0 s.a.length).map (p_places_beside ⟨srtP s.b⟩)⟩⟩
theorem ofSea {s : Sea} (h : SeaW s) : OfSea (p_Chart___init___LLLL s.a s.b s.c s.d) s := ⟨h, by
  rw [made_LLLL (wrong_LLLL h), lanes_id h.lan]⟩
section
variable {c : Chart} {s : Sea}
theorem OfSea.size (h : OfSea c s) : c.size = s.a.length := by rw [h.e]
theorem OfSea.dl (h : OfSea c s) : c.depths.l.length = s.a.length := by rw [h.e]
theorem OfSea.z (h : OfSea c s) : c.size = c.depths.l.length := by rw [h.e]
theorem OfSea.zb (h : OfSea c s) : c.beside.l.length = c.depths.l.length := by
  rw [h.e]
  show ((rng 0 (s.a.length : Int)).map (p_places_beside ⟨srtP s.b⟩)).length = s.a.length
  rw [List.length_map, rng_len]; omega
theorem OfSea.z12 (h : OfSea c s) : c.depths.l.length ≤ 12 := by rw [h.dl]; exact h.w.n12
theorem OfSea.zt (h : OfSea c s) : 0 < c.tide.l.length := by rw [h.e]; exact h.w.f1
theorem SeaW.in {b k p : Int} (h : SeaW s) (j : Joined s.b k p) : (0 ≤ p ∧ p < s.a.length) ∧ (0 ≤ k ∧ k < s.a.length) := by
  obtain ⟨q, hq, z⟩ := j
  have := h.lan q hq
  omega
end
def Zone (c : Chart) (xs : List Int) : Prop := ∀ x ∈ xs, 0 ≤ x ∧ x < c.size
theorem fold_filter {α : Type} (P : α → Bool) : ∀ (xs acc : List α), xs.foldl (fun s x => if P x = true then s ++ [x] else s) acc = acc ++ xs.filter P
  | [], acc => by simp
  | x :: xs, acc => by
    rw [List.foldl_cons, fold_filter P xs]
    by_cases h : P x = true
    · rw [if_pos h, List.filter_cons, if_pos h, List.append_assoc]; rfl
    · rw [if_neg h, List.filter_cons, if_neg h]
theorem of_zone {c : Chart} {xs : List Int} {x : Int} {n : Nat} (h : Zone c xs) (hx : x ∈ xs) (e : c.size = n) : 0 ≤ x ∧ x < n := by
  have := h x hx
  omega
theorem of_zone' {c : Chart} {xs : List Int} {x : Int} {n : Nat} (h : Zone c xs) (hx : x ∈ xs) (e : c.size = n) : -(n : Int) ≤ x ∧ x < n := by
  have := h x hx
  omega
structure LanesOk (js : List (Int × Int)) (n : Int) : Prop where
  lan : ∀ p ∈ js, 0 ≤ p.1 ∧ p.1 < p.2 ∧ p.2 < n
  lnd : js.Nodup
  l66 : js.length ≤ 66
theorem lanes_of {s : Sea} (h : SeaOk s) : LanesOk s.b s.a.length := ⟨h.lan, h.lnd, h.l66⟩
theorem LanesOk.sub {js ks : List (Int × Int)} {n : Int} (h : LanesOk js n) (s : ks.Sublist js) : LanesOk ks n := ⟨fun p hp => h.lan p (s.subset hp), s.nodup h.lnd, Nat.le_trans s.length_le h.l66⟩
theorem compT_sub {S α : Type} (t : S → α → Bool × S) : ∀ (xs : List α) (s : S), (compT t (fun (s : S) x => (x, s)) s xs).1.Sublist xs
  | [], s => .slnil
  | x :: xs, s => by
    show (if (t s x).1 = true then _ else _ : List α × S).1.Sublist _
    split
    · exact (compT_sub t xs _).cons₂ x
    · exact (compT_sub t xs _).cons x
theorem er_len {α : Type} {xs : List α} {k : Int} (h : 0 ≤ k ∧ k < xs.length) : (xs.eraseIdx k.toNat).length + 1 = xs.length := by
  rw [List.length_eraseIdx, if_pos (by omega)]; omega
theorem erase_perm {xs : List Int} {k : Int} (h : 0 ≤ k ∧ k < xs.length) : (gi xs k :: xs.eraseIdx k.toNat).Perm xs := by
  have hk : k.toNat < xs.length := by omega
  rw [gi_nat h.1, List.getD_eq_getElem?_getD, List.getElem?_eq_getElem hk]
  show (xs[k.toNat] :: xs.eraseIdx k.toNat).Perm xs
  have e : xs = xs.take k.toNat ++ xs[k.toNat] :: xs.drop (k.toNat + 1) := by
    rw [← List.drop_eq_getElem_cons hk, List.take_append_drop]
  rw [List.eraseIdx_eq_take_drop_succ]
  refine List.Perm.trans ?_ (List.Perm.of_eq e.symm)
  exact (List.perm_middle).symm
theorem perm_size {xs : List Int} {n : Int} (h : xs.Perm (rng 0 n)) (hn : 0 ≤ n) : (xs.length : Int) = n := by rw [h.length_eq, rng_len]; omega
theorem rng_nodup (a n : Int) : (rng a n).Nodup := by
  unfold rng
  exact List.pairwise_map.mpr (List.nodup_range.imp fun {x y} h z => h (by omega))
theorem gi_inj {xs : List Int} (h : xs.Nodup) {i j : Int} (hi : 0 ≤ i ∧ i < xs.length) (hj : 0 ≤ j ∧ j < xs.length) (e : gi xs i = gi xs j) : i = j := by
  rw [gi_nat hi.1, gi_nat hj.1, List.getD_eq_getElem?_getD, List.getD_eq_getElem?_getD, List.getElem?_eq_getElem (by omega), List.getElem?_eq_getElem (by omega)] at e
  have := (List.getElem_inj h).mp (show xs[i.toNat] = xs[j.toNat] from e)
  omega
theorem ls_len {α : Type} (xs : List α) (k : Int) (x : α) : (ls xs k x).length = xs.length := by
  unfold ls
  split <;> simp
theorem fold_len {α β : Type} (f : List β → α → List β) (h : ∀ s x, (f s x).length = s.length) : ∀ (xs : List α) (s : List β), (xs.foldl f s).length = s.length
  | [], _ => rfl
  | x :: xs, s => by rw [List.foldl_cons, fold_len f h xs, h]
theorem gi44 {k : Int} (h : 0 ≤ k ∧ k < 4) : 1 ≤ gi [(6 : Int), (6 : Int), (6 : Int), (12 : Int)] k ∧ gi [(6 : Int), (6 : Int), (6 : Int), (12 : Int)] k ≤ 12 := by
  have e : k = 0 ∨ k = 1 ∨ k = 2 ∨ k = 3 := by omega
  rcases e with rfl | rfl | rfl | rfl <;> decide
def ZoneS (s : Sea) (xs : List Int) : Prop := ∀ x ∈ xs, 0 ≤ x ∧ x < s.a.length
theorem of_zoneS {s : Sea} {xs : List Int} {x : Int} {n : Nat} (h : ZoneS s xs) (hx : x ∈ xs) (e : n = s.a.length) : 0 ≤ x ∧ x < n := by
  have := h x hx
  omega
theorem of_zoneS' {s : Sea} {xs : List Int} {x : Int} {n : Nat} (h : ZoneS s xs) (hx : x ∈ xs) (e : n = s.a.length) : -(n : Int) ≤ x ∧ x < n := by
  have := h x hx
  omega
theorem filt_zone {s : Sea} {P : Int → Bool} {n : Int} (hn : n = s.a.length) : ZoneS s (((rng 0 n).filter P).map fun x => x) := fun x hx => by
  rw [List.map_id'] at hx
  have := mem_rng.mp (List.mem_filter.mp hx).1
  omega
theorem zs_one {s : Sea} {x : Int} (h : 0 ≤ x ∧ x < s.a.length) : ZoneS s [x] := fun y hy => by rw [List.mem_singleton.mp hy]; exact h
theorem zs_nil {s : Sea} : ZoneS s [] := fun y hy => by cases hy
def nones (xs : List (Option Int)) : Nat := xs.countP (·.isNone)
theorem nones_set (v : Int) : ∀ (xs : List (Option Int)) (n : Nat), nones (xs.set n (some v)) ≤ nones xs ∧ (xs[n]? = some none → nones (xs.set n (some v)) < nones xs)
  | [], n => ⟨Nat.le_refl _, fun h => by simp at h⟩
  | x :: xs, 0 => by
    unfold nones
    rw [List.set_cons_zero, List.countP_cons, List.countP_cons]
    refine ⟨by simp, fun h => ?_⟩
    cases (Option.some.inj h)
    simp
  | x :: xs, n + 1 => by
    obtain ⟨i1, i2⟩ := nones_set v xs n
    unfold nones at i1 i2 ⊢
    rw [List.set_cons_succ, List.countP_cons, List.countP_cons]
    refine ⟨by omega, fun h => ?_⟩
    have := i2 (by simpa using h)
    omega
theorem gi_none {xs : List (Option Int)} {p : Int} (h : 0 ≤ p ∧ p < xs.length) (e : gi xs p = none) : xs[p.toNat]? = some none := by
  rw [gi_nat h.1, List.getD_eq_getElem?_getD, List.getElem?_eq_getElem (by omega)] at e
  rw [List.getElem?_eq_getElem (by omega)]
  exact congrArg some e
theorem nones_ls (xs : List (Option Int)) (p : Int) (v : Int) (hp : 0 ≤ p) : nones (ls xs p (some v)) ≤ nones xs ∧ (p < xs.length → gi xs p = none → nones (ls xs p (some v)) < nones xs) := by
  unfold ls
  rw [if_pos hp]
  exact ⟨(nones_set v xs _).1, fun h e => (nones_set v xs _).2 (gi_none ⟨hp, h⟩ e)⟩
theorem nones_fold (v : Int) : ∀ (es : List Int) (xs : List (Option Int)), (∀ p ∈ es, 0 ≤ p) → nones (es.foldl (fun s x => ls s x (some v)) xs) ≤ nones xs
  | [], xs, _ => Nat.le_refl _
  | e :: es, xs, h => by
    rw [List.foldl_cons]
    exact Nat.le_trans (nones_fold v es _ fun p hp => h p (List.mem_cons_of_mem _ hp)) (nones_ls xs e v (h e List.mem_cons_self)).1
theorem nones_repl (n : Nat) : nones (List.replicate n none) ≤ n := by
  unfold nones
  exact Nat.le_trans List.countP_le_length (by simp)
theorem nones_pos {xs : List (Option Int)} {p : Int} (h : 0 ≤ p ∧ p < xs.length) (e : gi xs p = none) : 0 < nones xs := by
  have := (nones_ls xs p 0 h.1).2 h.2 e
  omega
def LInv (c : Chart) (counts : List (Option Int)) (edge : List Int) : Prop := counts.length = c.depths.l.length ∧ ∀ p ∈ edge, 0 ≤ p ∧ p < c.size ∧ gi counts p = none
theorem gi_repl {n : Nat} {k : Int} : gi (List.replicate n (none : Option Int)) k = none := by
  unfold gi
  split
  · simp [List.getD_eq_getElem?_getD, List.getElem?_replicate]; split <;> rfl
  · simp [List.getD_eq_getElem?_getD, List.getElem?_replicate]; split <;> rfl
theorem lanes_init {c : Chart} {g : Int} {b : Bool} (hg : 0 ≤ g ∧ g < c.size) (hz : c.size = c.depths.l.length) : LInv c (List.replicate c.size.toNat none) (if b = true then [g] else []) := ⟨by simp; omega, fun p hp => by
  split at hp
  · rw [List.mem_singleton.mp hp]; exact ⟨hg.1, hg.2, gi_repl⟩
  · cases hp⟩
theorem linv_ix {c : Chart} {cs : List (Option Int)} {es : List Int} {x : Int} {n : Nat} (h : LInv c cs es) (hx : x ∈ es) (e : c.size = n) : 0 ≤ x ∧ x < n := by
  have := h.2 x hx
  omega
theorem lanes_zero' {c : Chart} {cs : List (Option Int)} {es : List Int} (hz : c.size = c.depths.l.length) (h : LInv c cs es) (h0 : nones cs = 0) : (!es.isEmpty) = false := by
  cases es with
  | nil => rfl
  | cons p es =>
    obtain ⟨h1, h2, h3⟩ := h.2 p List.mem_cons_self
    have := nones_pos (xs := cs) (p := p) ⟨h1, by rw [h.1]; omega⟩ h3
    omega
theorem while_inv {S : Type} {c : S → Bool} {f : S → S} (I : S → Prop) (h : ∀ s, I s → c s = true → I (f s)) : ∀ n s, I s → I (whileL c f n s)
  | 0, s, hs => hs
  | n + 1, s, hs => by
    unfold whileL
    split
    · rename_i hc
      exact while_inv I h n _ (h s hs hc)
    · exact hs
theorem loop_inv {α S ρ : Type} (I : S → Prop) {f : S → α → Ctl S ρ} (h : ∀ s x, I s → match f s x with | .nx t => I t | .ct t => I t | .bk t => I t | .rt _ => False) : ∀ (xs : List α) (s : S), I s → ∃ t, loopL f s xs = .inr t ∧ I t
  | [], s, hs => ⟨s, rfl, hs⟩
  | x :: xs, s, hs => by
    have hx := h s x hs
    unfold loopL
    split
    · rename_i t e; rw [e] at hx; exact loop_inv I h xs t hx
    · rename_i t e; rw [e] at hx; exact loop_inv I h xs t hx
    · rename_i t e; rw [e] at hx; exact ⟨t, rfl, hx⟩
    · rename_i t e; rw [e] at hx; exact hx.elim
theorem mk_sea9 {s : Sea} {js : List (Int × Int)} {f : List Int} (h : SeaOk s) (hj : LanesOk js s.a.length) (hf : FlowOk f) : SeaW ⟨s.a, js, f, s.d⟩ := ⟨h.n1, h.n12, h.dep, hj.lan, hj.lnd, hj.l66, hf.f1, hf.f12, hf.flo, h.har, h.hnd, h.h12⟩
theorem chart_pre1 {s : Sea} (w : SeaW s) : s.a.length ≤ 100 ∧ s.b.length ≤ 66 ∧ s.c.length ≤ 100 ∧ s.d.length ≤ 100 ∧ p_wrong_part_of_chart_LLLL s.a s.b s.c s.d = none := ⟨by have := w.n12; omega, w.l66, by have := w.f12; omega, by have := w.h12; omega, wrong_LLLL w⟩
theorem loop_any2 {α : Type} (a b : α → Bool) : ∀ xs : List α, ends (loopL (ρ := Bool) (S := Unit) (fun _ x => if a x = true then .rt true else if b x = true then .rt true else .nx ()) () xs) (fun r => r) (fun _ => false) = xs.any fun x => a x || b x
  | [] => rfl
  | x :: xs => by
    unfold loopL
    by_cases ha : a x = true
    · simp [ha, ends]
    · by_cases hb : b x = true
      · simp [ha, hb, ends]
      · have := loop_any2 a b xs
        rw [if_neg ha, if_neg hb, List.any_cons, show (a x) = false by simpa using ha, show (b x) = false by simpa using hb]
        exact this
theorem rng_cons {lo hi : Int} (h : lo < hi) : rng lo hi = lo :: rng (lo + 1) hi := by
  apply List.ext_getElem?
  intro i
  cases i with
  | zero => rw [rng_get (by omega)]; simp
  | succ i =>
    rw [List.getElem?_cons_succ]
    by_cases z : i + 1 < (hi - lo).toNat
    · rw [rng_get z, rng_get (by omega)]
      simp; omega
    · rw [List.getElem?_eq_none (by rw [rng_len]; omega), List.getElem?_eq_none (by rw [rng_len]; omega)]
theorem rng_none (n : Nat) : (rng 0 (n : Int)).map (fun _ => (none : Option Int)) = List.replicate n none := by
  rw [List.map_const', rng_len]
  congr 1
theorem rng_none' (n : Nat) : (rng 0 (n : Int)).map (fun _ => (none : Option Int)) = List.replicate n none := rng_none n
def Walk (b : List (Int × Int)) (W : Int → Prop) : Nat → Int → Int → Prop
  | 0, x, y => x = y ∧ W x
  | k + 1, x, y => ∃ z, Walk b W k x z ∧ Joined b z y ∧ W y
theorem Joined.symm {b : List (Int × Int)} {x y : Int} (h : Joined b x y) : Joined b y x := by
  obtain ⟨q, hq, z⟩ := h
  exact ⟨q, hq, z.elim (fun z => .inr ⟨z.2, z.1⟩) fun z => .inl ⟨z.2, z.1⟩⟩
theorem Walk.wet {b : List (Int × Int)} {W : Int → Prop} : ∀ {k : Nat} {x y : Int}, Walk b W k x y → W x ∧ W y
  | 0, x, y, h => ⟨h.2, h.1 ▸ h.2⟩
  | k + 1, x, y, ⟨z, h1, _, h3⟩ => ⟨(Walk.wet h1).1, h3⟩
theorem Walk.cons {b : List (Int × Int)} {W : Int → Prop} : ∀ {k : Nat} {x y z : Int}, Joined b x y → W x → Walk b W k y z → Walk b W (k + 1) x z
  | 0, x, y, z, j, w, h => ⟨x, ⟨rfl, w⟩, h.1 ▸ j, h.1 ▸ h.2⟩
  | k + 1, x, y, z, j, w, ⟨u, h1, h2, h3⟩ => ⟨u, Walk.cons j w h1, h2, h3⟩
theorem Walk.symm {b : List (Int × Int)} {W : Int → Prop} : ∀ {k : Nat} {x y : Int}, Walk b W k x y → Walk b W k y x
  | 0, x, y, h => ⟨h.1.symm, h.1 ▸ h.2⟩
  | k + 1, x, y, ⟨z, h1, h2, h3⟩ => Walk.cons h2.symm h3 (Walk.symm h1)
def Far (b : List (Int × Int)) (W : Int → Prop) (k : Nat) (x y : Int) : Prop := Walk b W k x y ∧ ∀ m, m < k → ¬ Walk b W m x y
theorem Far.symm {b : List (Int × Int)} {W : Int → Prop} {k : Nat} {x y : Int} (h : Far b W k x y) : Far b W k y x := ⟨h.1.symm, fun m hm w => h.2 m hm w.symm⟩
theorem Far.uniq {b : List (Int × Int)} {W : Int → Prop} {k l : Nat} {x y : Int} (h : Far b W k x y) (g : Far b W l x y) : k = l := by
  rcases Nat.lt_trichotomy k l with z | z | z
  · exact absurd h.1 (g.2 k z)
  · exact z
  · exact absurd g.1 (h.2 l z)
theorem far_of {b : List (Int × Int)} {W : Int → Prop} {x y : Int} : ∀ {k : Nat}, Walk b W k x y → ∃ m, m ≤ k ∧ Far b W m x y := by
  intro k
  induction k using Nat.strongRecOn with
  | ind k ih =>
    intro h
    by_cases z : ∃ m, m < k ∧ Walk b W m x y
    · obtain ⟨m, hm, w⟩ := z
      obtain ⟨j, hj, f⟩ := ih m hm w
      exact ⟨j, by omega, f⟩
    · exact ⟨k, Nat.le_refl _, h, fun m hm w => z ⟨m, hm, w⟩⟩
theorem Far.pred {b : List (Int × Int)} {W : Int → Prop} {k : Nat} {x y : Int} (h : Far b W (k + 1) x y) : ∃ z, Far b W k x z ∧ Joined b z y := by
  obtain ⟨⟨z, h1, h2, h3⟩, h4⟩ := h
  refine ⟨z, ⟨h1, fun m hm w => h4 (m + 1) (by omega) ⟨z, w, h2, h3⟩⟩, h2⟩
def Tells (b : List (Int × Int)) (W : Int → Prop) (n : Nat) (g : Int) (xs : List (Option Int)) : Prop :=
  ∀ p : Int, 0 ≤ p ∧ p < n → (∀ v, gi xs p = some v → 0 ≤ v ∧ Far b W v.toNat g p) ∧ (gi xs p = none → ∀ k, ¬ Walk b W k g p)
theorem tells_eq {b : List (Int × Int)} {W : Int → Prop} {n : Nat} {g p : Int} {xs ys : List (Option Int)} (h : Tells b W n g xs) (k : Tells b W n p ys) (hg : 0 ≤ g ∧ g < n) (hp : 0 ≤ p ∧ p < n) : gi xs p = gi ys g := by
  obtain ⟨h1, h2⟩ := h p hp
  obtain ⟨k1, k2⟩ := k g hg
  cases e : gi xs p with
  | none =>
    cases f : gi ys g with
    | none => rfl
    | some v => exact absurd (k1 v f).2.1.symm (h2 e _)
  | some u =>
    cases f : gi ys g with
    | none => exact absurd (h1 u e).2.1.symm (k2 f _)
    | some v =>
      have a := h1 u e
      have c := k1 v f
      have := a.2.uniq c.2.symm
      rw [show u = v by omega]
theorem tells_same {b : List (Int × Int)} {W : Int → Prop} {n : Nat} {g p : Int} {xs ys : List (Option Int)} (h : Tells b W n g xs) (k : Tells b W n g ys) (hp : 0 ≤ p ∧ p < n) : gi xs p = gi ys p := by
  obtain ⟨h1, h2⟩ := h p hp
  obtain ⟨k1, k2⟩ := k p hp
  cases e : gi xs p with
  | none =>
    cases f : gi ys p with
    | none => rfl
    | some v => exact absurd (k1 v f).2.1 (h2 e _)
  | some u =>
    cases f : gi ys p with
    | none => exact absurd (h1 u e).2.1 (k2 f _)
    | some v =>
      have a := h1 u e
      have c := k1 v f
      have := a.2.uniq c.2
      rw [show u = v by omega]
structure Lev (b : List (Int × Int)) (W : Int → Prop) (n : Nat) (g : Int) (cs : List (Option Int)) (l : Nat) (es : List Int) : Prop where
  len : cs.length = n
  told : ∀ p : Int, 0 ≤ p ∧ p < n → ∀ v, gi cs p = some v → 0 ≤ v ∧ v < l ∧ Far b W v.toNat g p
  all : ∀ p : Int, 0 ≤ p ∧ p < n → ∀ k, k < l → Far b W k g p → gi cs p = some (k : Int)
  edge : ∀ p : Int, p ∈ es ↔ ((0 ≤ p ∧ p < n) ∧ Far b W l g p)
theorem ls_at {xs : List (Option Int)} {x p : Int} {v : Option Int} (hx : 0 ≤ x ∧ x < xs.length) (hp : 0 ≤ p) : gi (ls xs x v) p = if p = x then v else gi xs p := by
  by_cases h : p = x
  · subst h
    rw [if_pos rfl]
    unfold ls
    rw [if_pos hx.1, gi_nat hp, List.getD_eq_getElem?_getD, List.getElem?_set_self (by omega)]
    rfl
  · rw [if_neg h]
    unfold ls
    rw [if_pos hx.1, gi_nat hp, gi_nat hp, List.getD_eq_getElem?_getD, List.getD_eq_getElem?_getD, List.getElem?_set_ne (by omega)]
theorem fold_at (v : Option Int) {p : Int} (hp : 0 ≤ p) : ∀ (es : List Int) (xs : List (Option Int)), (∀ e ∈ es, 0 ≤ e ∧ e < xs.length) → gi (es.foldl (fun s x => ls s x v) xs) p = if p ∈ es then v else gi xs p
  | [], xs, _ => by simp
  | e :: es, xs, h => by
    rw [List.foldl_cons, fold_at v hp es _ fun q hq => by rw [ls_len]; exact h q (List.mem_cons_of_mem _ hq), ls_at (h e List.mem_cons_self) hp]
    by_cases z : p ∈ es
    · rw [if_pos z, if_pos (List.mem_cons_of_mem _ z)]
    · rw [if_neg z]
      by_cases y : p = e
      · rw [if_pos y, if_pos (by rw [y]; exact List.mem_cons_self)]
      · rw [if_neg y, if_neg (by simp [y, z])]
theorem Lev.step {s : Sea} {W : Int → Prop} {g : Int} {cs e : List (Option Int)} {l : Nat} {es ds : List Int} (hs : SeaW s) (h : Lev s.b W s.a.length g cs l es) (he : e = es.foldl (fun s x => ls s x (some (l : Int))) cs)
    (hd : ∀ p : Int, p ∈ ds ↔ ((0 ≤ p ∧ p < s.a.length) ∧ W p ∧ gi e p = none ∧ ∃ q ∈ es, Joined s.b p q)) : Lev s.b W s.a.length g e (l + 1) ds := by
  have at_ : ∀ p : Int, 0 ≤ p → gi e p = if p ∈ es then some (l : Int) else gi cs p := fun p hp => by
    rw [he]
    exact fold_at _ hp es cs fun q hq => by
      have := ((h.edge q).mp hq).1
      rw [h.len]; omega
  have told : ∀ p : Int, 0 ≤ p ∧ p < s.a.length → ∀ v, gi e p = some v → 0 ≤ v ∧ v < ((l + 1 : Nat) : Int) ∧ Far s.b W v.toNat g p := fun p hp v hv => by
    rw [at_ p hp.1] at hv
    by_cases z : p ∈ es
    · rw [if_pos z] at hv
      cases hv
      exact ⟨by omega, by omega, ((h.edge p).mp z).2⟩
    · rw [if_neg z] at hv
      have := h.told p hp v hv
      exact ⟨this.1, by omega, this.2.2⟩
  have all : ∀ p : Int, 0 ≤ p ∧ p < s.a.length → ∀ k, k < l + 1 → Far s.b W k g p → gi e p = some (k : Int) := fun p hp k hk f => by
    rw [at_ p hp.1]
    by_cases z : p ∈ es
    · rw [if_pos z]
      rw [f.uniq ((h.edge p).mp z).2]
    · rw [if_neg z]
      refine h.all p hp k ?_ f
      by_cases y : k = l
      · subst y
        exact absurd ((h.edge p).mpr ⟨hp, f⟩) z
      · omega
  refine ⟨?_, told, all, fun p => ?_⟩
  · rw [he]
    exact (fold_len _ (fun t y => ls_len _ _ _) _ _).trans h.len
  · rw [hd]
    constructor
    · rintro ⟨hp, w, hn, q, hq, j⟩
      have fq := ((h.edge q).mp hq).2
      refine ⟨hp, ⟨q, fq.1, j.symm, w⟩, fun m hm wm => ?_⟩
      obtain ⟨k, hk, f⟩ := far_of wm
      have := all p hp k (by omega) f
      rw [hn] at this
      cases this
    · rintro ⟨hp, f⟩
      obtain ⟨q, fq, j⟩ := f.pred
      have hq := (hs.in (b := 0) j).2
      refine ⟨hp, f.1.wet.2, ?_, q, (h.edge q).mpr ⟨hq, fq⟩, j.symm⟩
      cases e2 : gi e p with
      | none => rfl
      | some v =>
        have := told p hp v e2
        have := this.2.2.uniq f
        omega
theorem Lev.end {b : List (Int × Int)} {W : Int → Prop} {n : Nat} {g : Int} {cs : List (Option Int)} {l : Nat} (hb : ∀ x y, Joined b x y → (0 ≤ x ∧ x < n) ∧ (0 ≤ y ∧ y < n)) (hg : 0 ≤ g ∧ g < n) (h : Lev b W n g cs l []) : Tells b W n g cs := by
  have inr : ∀ k x, Walk b W k g x → 0 ≤ x ∧ x < n := fun k x w => by
    cases k with
    | zero => rw [← w.1]; exact hg
    | succ k => obtain ⟨z, _, j, _⟩ := w; exact (hb _ _ j).2
  have no : ∀ k, l ≤ k → ∀ p, ¬ Far b W k g p := by
    intro k
    induction k with
    | zero =>
      intro hl p f
      have e : l = 0 := by omega
      subst e
      exact absurd ((h.edge p).mpr ⟨inr _ _ f.1, f⟩) (List.not_mem_nil)
    | succ k ih =>
      intro hl p f
      by_cases z : l = k + 1
      · subst z
        exact absurd ((h.edge p).mpr ⟨inr _ _ f.1, f⟩) (List.not_mem_nil)
      · obtain ⟨q, fq, _⟩ := f.pred
        exact ih (by omega) q fq
  refine fun p hp => ⟨fun v hv => ⟨(h.told p hp v hv).1, (h.told p hp v hv).2.2⟩, fun hn k w => ?_⟩
  obtain ⟨m, hm, f⟩ := far_of w
  by_cases z : m < l
  · have := h.all p hp m z f
    rw [hn] at this
    cases this
  · exact no m (by omega) p f
theorem lev_zero {b : List (Int × Int)} {W : Int → Prop} {n : Nat} {g : Int} (hg : 0 ≤ g ∧ g < n) {es : List Int} (he : ∀ p, p ∈ es ↔ (p = g ∧ W g)) : Lev b W n g (List.replicate n none) 0 es := by
  refine ⟨by simp, fun p hp v hv => ?_, fun p hp k hk => absurd hk (Nat.not_lt_zero _), fun p => ?_⟩
  · rw [gi_repl] at hv; cases hv
  · rw [he]
    constructor
    · rintro ⟨rfl, w⟩
      exact ⟨hg, ⟨rfl, w⟩, fun m hm => absurd hm (Nat.not_lt_zero _)⟩
    · rintro ⟨_, ⟨e, w⟩, _⟩
      exact ⟨e.symm, w⟩
theorem gi_map {α β : Type} [Inhabited α] [Inhabited β] (f : α → β) {xs : List α} {k : Int} (h : 0 ≤ k ∧ k < xs.length) : gi (xs.map f) k = f (gi xs k) := by
  rw [gi_nat h.1, gi_nat h.1, List.getD_eq_getElem?_getD, List.getD_eq_getElem?_getD, List.getElem?_map, List.getElem?_eq_getElem (by omega)]
  rfl
theorem while_ends {S : Type} {c : S → Bool} {f : S → S} (I : S → Prop) (μ : S → Nat) (h : ∀ s, I s → c s = true → I (f s) ∧ μ (f s) < μ s) (hz : ∀ s, I s → μ s = 0 → c s = false) : ∀ n s, μ s ≤ n → I s → I (whileL c f n s) ∧ c (whileL c f n s) = false
  | 0, s, hn, hs => ⟨hs, hz s hs (by omega)⟩
  | n + 1, s, hn, hs => by
    unfold whileL
    split
    · rename_i hc
      obtain ⟨h1, h2⟩ := h s hs hc
      exact while_ends I μ h hz n _ (by omega) h1
    · rename_i hc
      exact ⟨hs, by simpa using hc⟩
theorem Lev.linv {c : Chart} {s : Sea} {W : Int → Prop} {g : Int} {cs : List (Option Int)} {l : Nat} {es : List Int} (hc : OfSea c s) (h : Lev s.b W s.a.length g cs l es) : LInv c cs es := by
  refine ⟨by rw [h.len, hc.dl], fun p hp => ?_⟩
  obtain ⟨h1, f⟩ := (h.edge p).mp hp
  refine ⟨h1.1, by rw [hc.size]; exact h1.2, ?_⟩
  cases e : gi cs p with
  | none => rfl
  | some v =>
    have := h.told p h1 v e
    have := this.2.2.uniq f
    omega
theorem loop_ind {α S ρ : Type} {f : S → α → Ctl S ρ} (Q : S → Prop) : ∀ (xs : List α) (I : Nat → S → Prop) (s : S), (∀ k t x, xs[k]? = some x → I k t → match f t x with | .nx u => I (k + 1) u | .ct u => I (k + 1) u | .bk u => Q u | .rt _ => False) → I 0 s → ∃ t, loopL f s xs = .inr t ∧ (Q t ∨ I xs.length t)
  | [], I, s, _, h0 => ⟨s, rfl, .inr h0⟩
  | x :: xs, I, s, h, h0 => by
    have hx := h 0 s x rfl h0
    have rest : ∀ u, I 1 u → ∃ t, loopL f u xs = .inr t ∧ (Q t ∨ I (xs.length + 1) t) := fun u hu => loop_ind Q xs (fun k => I (k + 1)) u (fun k t y hy hI => h (k + 1) t y (by simpa using hy) hI) hu
    unfold loopL
    split
    · rename_i t e; rw [e] at hx; exact rest t hx
    · rename_i t e; rw [e] at hx; exact rest t hx
    · rename_i t e; rw [e] at hx; exact ⟨t, rfl, .inl hx⟩
    · rename_i t e; rw [e] at hx; exact hx.elim
theorem far_list {b : List (Int × Int)} {W : Int → Prop} {n : Nat} (hb : ∀ x y, Joined b x y → (0 ≤ x ∧ x < n) ∧ (0 ≤ y ∧ y < n)) {g : Int} (hg : 0 ≤ g ∧ g < n) : ∀ {k : Nat} {p : Int}, Far b W k g p → ∃ l : List Int, l.length = k + 1 ∧ l.Nodup ∧ ∀ x ∈ l, (0 ≤ x ∧ x < n) ∧ ∃ j, j ≤ k ∧ Far b W j g x
  | 0, p, h => ⟨[g], rfl, List.pairwise_singleton _ _, fun x hx => by
      rw [List.mem_singleton.mp hx]
      exact ⟨hg, 0, Nat.le_refl _, by have := h.1.1; exact this ▸ h⟩⟩
  | k + 1, p, h => by
    obtain ⟨z, hz, hj⟩ := h.pred
    obtain ⟨l, h1, h2, h3⟩ := far_list hb hg hz
    refine ⟨p :: l, by simp [h1], List.nodup_cons.mpr ⟨fun hp => ?_, h2⟩, fun x hx => ?_⟩
    · obtain ⟨_, j, hj, f⟩ := h3 p hp
      have := f.uniq h
      omega
    · rcases List.mem_cons.mp hx with rfl | hx
      · exact ⟨(hb _ _ hj).2, k + 1, Nat.le_refl _, h⟩
      · obtain ⟨h4, j, h5, h6⟩ := h3 x hx
        exact ⟨h4, j, by omega, h6⟩
theorem far_lt {b : List (Int × Int)} {W : Int → Prop} {n : Nat} (hb : ∀ x y, Joined b x y → (0 ≤ x ∧ x < n) ∧ (0 ≤ y ∧ y < n)) {g : Int} (hg : 0 ≤ g ∧ g < n) {k : Nat} {p : Int} (h : Far b W k g p) : k < n := by
  obtain ⟨l, h1, h2, h3⟩ := far_list hb hg h
  have := List.Nodup.length_le_of_subset h2 (l₂ := rng 0 n) fun x hx => mem_rng.mpr (h3 x hx).1
  rw [rng_len] at this
  omega
theorem sea_in {s : Sea} (w : SeaW s) : ∀ x y, Joined s.b x y → (0 ≤ x ∧ x < s.a.length) ∧ (0 ≤ y ∧ y < s.a.length) := fun x y j => ⟨(w.in (b := 0) j).2, (w.in (b := 0) j).1⟩
theorem tells_near {s : Sea} (w : SeaW s) {W : Int → Prop} {g p v : Int} {cs : List (Option Int)} (hg : 0 ≤ g ∧ g < s.a.length) (t : Tells s.b W s.a.length g cs) (hp : 0 ≤ p ∧ p < s.a.length) (e : gi cs p = some v) : 0 ≤ v ∧ v < s.a.length ∧ (1 ≤ v → ∃ z : Int, (0 ≤ z ∧ z < s.a.length) ∧ Joined s.b p z ∧ gi cs z = some (v - 1)) := by
  obtain ⟨h0, f⟩ := (t p hp).1 v e
  have hl := far_lt (sea_in w) hg f
  refine ⟨h0, by omega, fun h1 => ?_⟩
  have e2 : v.toNat = (v - 1).toNat + 1 := by omega
  rw [e2] at f
  obtain ⟨z, fz, j⟩ := f.pred
  have hz := (sea_in w _ _ j).1
  refine ⟨z, hz, j.symm, ?_⟩
  cases q : gi cs z with
  | none => exact absurd fz.1 ((t z hz).2 q _)
  | some u =>
    obtain ⟨hu, fu⟩ := (t z hz).1 u q
    have := fu.uniq fz
    rw [show u = v - 1 by omega]
def WayPre (c : Chart) (start goal : Int) (deep : List Bool) : Prop := ∃ (s : Sea) (wet : List Bool), OfSea c s ∧ (∀ p : Int, 0 ≤ p ∧ p < s.a.length → gi deep p = gi wet p) ∧ (0 ≤ start ∧ start < s.a.length) ∧ (0 ≤ goal ∧ goal < s.a.length) ∧ deep.length = c.depths.l.length
section
variable {c : Chart} {st g : Int} {deep : List Bool} {cs : List (Option Int)}
def WInv (cs : List (Option Int)) (N : Int) (n : Nat) (s : List Int) : Prop := s.length = n + 1 ∧ (0 ≤ gi s (-1) ∧ gi s (-1) < cs.length) ∧ gi cs (gi s (-1)) = some (N - n)
theorem gi_last {s : List Int} {x : Int} : gi (s ++ [x]) (-1) = x := by
  unfold gi
  rw [if_neg (by decide)]
  have e : ((-1 : Int) + ((s ++ [x]).length : Int)).toNat = s.length := by rw [List.length_append, List.length_singleton]; omega
  rw [e]
  simp
theorem og_some {α : Type} [Inhabited α] {o : Option α} (h : o.isSome = true) : o = some (og o) := by
  cases o with
  | none => cases h
  | some x => rfl
theorem winv0 {N : Int} (h0 : 0 ≤ st ∧ st < cs.length) (hs : (gi cs st).isSome = true) (hN : N = og (gi cs st)) : WInv cs N 0 [st] := by
  refine ⟨rfl, ?_, ?_⟩
  · show 0 ≤ gi ([] ++ [st]) (-1) ∧ _
    rw [gi_last]; exact h0
  · show gi cs (gi ([] ++ [st]) (-1)) = _
    rw [gi_last, og_some hs, hN]
    simp
theorem rev_at {N x : Int} {n : Nat} (h : (rng 0 N).reverse[n]? = some x) : x = N - 1 - n ∧ (n : Int) < N := by
  have hl : n < (rng 0 N).reverse.length := (List.getElem?_eq_some_iff.mp h).1
  rw [List.length_reverse, rng_len] at hl
  rw [List.getElem?_reverse (by rw [rng_len]; exact hl), rng_len, rng_get (by omega)] at h
  have := Option.some.inj h
  omega
end
theorem gs_last {s : List Int} (h : 1 ≤ s.length) : gs s (some (-1)) none = [gi s (-1)] := by
  unfold gs gi
  simp only [if_neg (show ¬ ((0 : Int) ≤ -1) by decide), if_pos (show ((-1 : Int) < 0) by decide)]
  have e : ((-1 : Int) + (s.length : Int)).toNat = s.length - 1 := by omega
  rw [e]
  have e2 : s.length - (s.length - 1) = 1 := by omega
  have hlt : s.length - 1 < s.length := by omega
  rw [e2, List.getD_eq_getElem?_getD, List.getElem?_eq_getElem hlt, List.drop_eq_getElem_cons hlt, List.take_succ_cons, List.take_zero]
  rfl
section
variable {s : Sea} {W : Int → Prop} {g st : Int} {cs : List (Option Int)}
theorem lw_N (w : SeaW s) (hg : 0 ≤ g ∧ g < s.a.length) (hst : 0 ≤ st ∧ st < s.a.length) (t : Tells s.b W s.a.length g cs) (hs : (gi cs st).isSome = true) : 0 ≤ og (gi cs st) ∧ og (gi cs st) < 12 := by
  have := tells_near w hg t hst (og_some hs)
  have h12 := w.n12
  omega
end
def lsm : Option (List Int) → Nat
  | none => 0
  | some l => l.length
theorem lw_N' {s : Sea} {W : Int → Prop} {g st : Int} {cs : List (Option Int)} (t : Tells s.b W s.a.length g cs) (hs : (gi cs st).isSome = true) (w : SeaW s) (hg : 0 ≤ g ∧ g < s.a.length) (hst : 0 ≤ st ∧ st < s.a.length) : 0 ≤ og (gi cs st) ∧ og (gi cs st) < 12 := lw_N w hg hst t hs
theorem grow_len {α : Type} {f : List Int → α → List Int} (hf : ∀ s x, (f s x).length ≤ s.length + 1) : ∀ (xs : List α) (s : List Int), (xs.foldl f s).length ≤ s.length + xs.length
  | [], s => Nat.le_refl _
  | x :: xs, s => by
    have h1 := grow_len hf xs (f s x)
    have h2 := hf s x
    simp only [List.foldl_cons, List.length_cons]
    omega
theorem len66 {n : Nat} (h : n ≤ 66) : n ≤ 100000 := by omega
theorem lsm_og {o : Option (List Int)} (h : lsm o ≤ 1000) : (og o).length ≤ 1000 := by
  cases o with
  | none => exact Nat.zero_le _
  | some d => exact h
theorem OfSea.ts {c : Chart} {s : Sea} (h : OfSea c s) : c.tide.l ≠ [] := fun e => by
  have := h.zt
  rw [e] at this
  exact absurd this (by decide)
theorem filt_len {n : Int} {P : Int → Bool} {k : Nat} (h : n ≤ k) : (((rng 0 n).filter P).map fun x => x).length ≤ k := by
  rw [List.length_map]
  have h1 := List.length_filter_le P (rng 0 n)
  rw [rng_len] at h1
  omega
abbrev Told := Option (FF.T3 Int (List Int) (List Int))
def ToldOk (s : Sea) (o : Told) : Prop := ∀ t, o = some t → (t.b.length ≤ 1000 ∧ ∀ p ∈ t.b, 0 ≤ p ∧ p < s.a.length) ∧ (t.c.length ≤ 1000 ∧ ∀ p ∈ t.c, 0 ≤ p ∧ p < s.a.length)
theorem told_way {s : Sea} {o : Told} (h : ToldOk s o) (e : o.isSome = true) : (og o).b.length ≤ 1000 ∧ ∀ p ∈ (og o).b, 0 ≤ p ∧ p < s.a.length := (h _ (og_some e)).1
theorem told_cut {s : Sea} {o : Told} (h : ToldOk s o) (e : o.isSome = true) : (og o).c.length ≤ 1000 ∧ ∀ p ∈ (og o).c, 0 ≤ p ∧ p < s.a.length := (h _ (og_some e)).2
theorem told_none {s : Sea} : ToldOk s none := fun t e => nomatch e
theorem way_preB {c : Chart} {s : Sea} (hc : OfSea c s) {a b d : Int} {lows : List Int} (ha : 0 ≤ a ∧ a < s.a.length) (hb : 0 ≤ b ∧ b < s.a.length) (hl : lows.length = s.a.length) : WayPre c a b (lows.map fun x => decide (x ≥ d)) := ⟨s, _, hc, fun p hp => rfl, ha, hb, by rw [List.length_map, hl, hc.dl]⟩
theorem len_ix0 {α : Type} {xs : List α} (h : decide ((xs.length : Int) = 0) = false) : -((xs.length : Nat) : Int) ≤ 0 ∧ (0 : Int) < (xs.length : Nat) := by
  have := of_decide_eq_false h
  omega
theorem len_ix1 {α : Type} {xs : List α} (h : decide ((xs.length : Int) = 0) = false) : -((xs.length : Nat) : Int) ≤ -1 ∧ (-1 : Int) < (xs.length : Nat) := by
  have := of_decide_eq_false h
  omega
theorem low_pre {s : Sea} {told : List Int} {x : Int} (h1 : 1 ≤ s.c.length) (h2 : s.c.length ≤ 12) (hin : ∀ p ∈ told, 0 ≤ p ∧ p < s.a.length) (hx : 0 ≤ x ∧ x < told.length) : (0 < s.c.length ∧ s.c.length ≤ 1000) ∧ 0 ≤ gi told x ∧ gi told x < s.a.length := ⟨⟨h1, by omega⟩, hin _ (gi_mem' hx.1 hx.2)⟩
theorem low_preS {s : Sea} {x : Int} (w : SeaW s) (hx : 0 ≤ x ∧ x < s.a.length) : (0 < s.c.length ∧ s.c.length ≤ 1000) ∧ 0 ≤ x ∧ x < s.a.length := ⟨⟨w.f1, by have := w.f12; omega⟩, hx⟩
theorem low_ok {c : Chart} {x : Int} (hx : x ∈ rng 0 c.size) (z : c.size = c.depths.l.length) (t : c.tide.l ≠ []) : 0 ≤ x ∧ x < c.depths.l.length ∧ c.tide.l ≠ [] := by
  have := mem_rng.mp hx
  exact ⟨this.1, by omega, t⟩
theorem told_pb {s : Sea} {o : Told} {X : Prop} (w : SeaW s) (h : ToldOk s o) (e : o.isSome = true ∧ X) : SeaW s ∧ (og o).b.length ≤ 1000 ∧ ∀ p ∈ (og o).b, 0 ≤ p ∧ p < s.a.length := ⟨w, told_way h e.1⟩
theorem told_pc {s : Sea} {o : Told} {X : Prop} (w : SeaW s) (h : ToldOk s o) (e : o.isSome = true ∧ X) : SeaW s ∧ (og o).c.length ≤ 1000 ∧ ∀ p ∈ (og o).c, 0 ≤ p ∧ p < s.a.length := ⟨w, told_cut h e.1⟩
theorem told_eta {s : Sea} {o : Told} {t : FF.T3 Int (List Int) (List Int)} (h : ToldOk s o) (e : o = some t) : ToldOk s (some ⟨t.a, t.b, t.c⟩) := by rw [e] at h; exact h
theorem widest_pre {c : Chart} {s : Sea} {a b : Int} (hc : OfSea c s) (ha : 0 ≤ a ∧ a < s.a.length) (hb : 0 ≤ b ∧ b < s.a.length) : ∃ s, OfSea c s ∧ (0 ≤ a ∧ a < s.a.length) ∧ (0 ≤ b ∧ b < s.a.length) := ⟨s, hc, ha, hb⟩
theorem told_room {s : Sea} {o : Told} {t : FF.T3 Int (List Int) (List Int)} (h : ToldOk s o) (e : o = some t) : t.b.length < 100000 := by
  have := (h t e).1.1
  omega
theorem gi_end {α : Type} [Inhabited α] {t : List α} {n : Nat} (h : t.length = n + 1) : gi t (-1) = gi t (n : Int) := by
  unfold gi
  rw [if_neg (by decide), if_pos (by omega), show ((-1 : Int) + (t.length : Int)).toNat = n by omega, show ((n : Int)).toNat = n by omega]
theorem gi_app_lt {α : Type} [Inhabited α] {xs ys : List α} {k : Nat} (h : k < xs.length) : gi (xs ++ ys) (k : Int) = gi xs (k : Int) := by
  rw [gi_nat (by omega), gi_nat (by omega), List.getD_eq_getElem?_getD, List.getD_eq_getElem?_getD, List.getElem?_append_left (by simpa using h)]
theorem gi_app_eq {α : Type} [Inhabited α] {xs : List α} {x : α} {n : Nat} (h : xs.length = n) : gi (xs ++ [x]) (n : Int) = x := by
  subst h
  rw [gi_nat (by omega), List.getD_eq_getElem?_getD]
  simp
structure WayIs (s : Sea) (W : Int → Prop) (a b : Int) (N : Nat) (l : List Int) : Prop where
  len : l.length = N + 1
  h0 : gi l 0 = a
  hl : gi l (N : Int) = b
  at' : ∀ i : Nat, i ≤ N → (0 ≤ gi l (i : Int) ∧ gi l (i : Int) < s.a.length) ∧ Far s.b W (N - i) b (gi l (i : Int))
  st : ∀ i : Nat, i < N → Joined s.b (gi l (i : Int)) (gi l ((i + 1 : Nat) : Int))
theorem Walk.monoR {b : List (Int × Int)} {n : Nat} (hb : ∀ x y, Joined b x y → (0 ≤ x ∧ x < (n : Int)) ∧ (0 ≤ y ∧ y < (n : Int))) {W V : Int → Prop} (h : ∀ p : Int, 0 ≤ p ∧ p < (n : Int) → W p → V p) : ∀ {k : Nat} {x y : Int}, (0 ≤ x ∧ x < (n : Int)) → Walk b W k x y → Walk b V k x y
  | 0, x, y, hx, e => ⟨e.1, h _ hx e.2⟩
  | k + 1, x, y, hx, ⟨z, h1, h2, h3⟩ => ⟨z, Walk.monoR hb h hx h1, h2, h _ (hb _ _ h2).2 h3⟩
def lowOf (s : Sea) (p : Int) : Int := gi s.a p + mn s.c
theorem loop_first {α ρ : Type} {g : Unit → α → Ctl Unit (Option ρ)} (f : α → Option ρ) (hg : ∀ x, g () x = match f x with | none => .nx () | some r => .rt (some r)) : ∀ xs : List α, ends (loopL g () xs) (fun r => r) (fun _ => none) = xs.findSome? f
  | [] => rfl
  | x :: xs => by
    have ih := loop_first f hg xs
    rw [List.findSome?_cons]
    unfold loopL
    rw [hg x]
    cases f x with
    | none => exact ih
    | some r => rfl
structure WideIs (s : Sea) (a b : Int) (t : FF.T3 Int (List Int) (List Int)) : Prop where
  way : ∃ N : Nat, WayIs s (fun p => t.a ≤ lowOf s p) a b N t.b
  cut : t.c = if a = b then [a] else (rng 0 (s.a.length : Int)).filter fun p => decide (lowOf s p ≤ t.a)
  no : ∀ k, ¬ Walk s.b (fun p => t.a < lowOf s p) k a b
theorem WayIs.mono {s : Sea} {W V : Int → Prop} {a b : Int} {N : Nat} {l : List Int} (w : SeaW s) (hb : 0 ≤ b ∧ b < s.a.length) (h : ∀ p : Int, 0 ≤ p ∧ p < s.a.length → (W p ↔ V p)) (q : WayIs s W a b N l) : WayIs s V a b N l := ⟨q.len, q.h0, q.hl, fun i hi => by
  obtain ⟨q1, q2, q3⟩ := q.at' i hi
  exact ⟨q1, Walk.monoR (sea_in w) (fun p hp => (h p hp).mp) hb q2, fun m hm z => q3 m hm (Walk.monoR (sea_in w) (fun p hp => (h p hp).mpr) hb z)⟩, q.st⟩
theorem WayIs.in {s : Sea} {W : Int → Prop} {a b : Int} {N : Nat} {l : List Int} (q : WayIs s W a b N l) : ∀ p ∈ l, 0 ≤ p ∧ p < s.a.length := fun p hp => by
  obtain ⟨i, hi, rfl⟩ := List.getElem_of_mem hp
  have := (q.at' i (by have := q.len; omega)).1
  rwa [gi_nat (by omega), List.getD_eq_getElem?_getD, show ((i : Int)).toNat = i by omega, List.getElem?_eq_getElem hi] at this
theorem WayIs.small {s : Sea} {W : Int → Prop} {a b : Int} {N : Nat} {l : List Int} (w : SeaW s) (hb : 0 ≤ b ∧ b < s.a.length) (q : WayIs s W a b N l) : N < s.a.length := by
  have := (q.at' 0 (Nat.zero_le _)).2
  exact far_lt (sea_in w) hb this
section
variable {c : Chart} {s : Sea}
end
theorem gi8 {k : Int} (h : 0 ≤ k ∧ k < 8) : 1 ≤ gi [(6 : Int), (6 : Int), (6 : Int), (6 : Int), (6 : Int), (6 : Int), (6 : Int), (12 : Int)] k ∧ gi [(6 : Int), (6 : Int), (6 : Int), (6 : Int), (6 : Int), (6 : Int), (6 : Int), (12 : Int)] k ≤ 12 := by
  have e : k = 0 ∨ k = 1 ∨ k = 2 ∨ k = 3 ∨ k = 4 ∨ k = 5 ∨ k = 6 ∨ k = 7 := by omega
  rcases e with rfl | rfl | rfl | rfl | rfl | rfl | rfl | rfl <;> decide
theorem gi8w {k : Int} (h : 0 ≤ k ∧ k < 8) : 0 ≤ gi [(6 : Int), (6 : Int), (6 : Int), (6 : Int), (6 : Int), (6 : Int), (6 : Int), (12 : Int)] k ∧ gi [(6 : Int), (6 : Int), (6 : Int), (6 : Int), (6 : Int), (6 : Int), (6 : Int), (12 : Int)] k ≤ 12 := by
  have := gi8 h
  omega
theorem far_in {x : Int} (h : x ∈ ([(2 : Int), (0 : Int), (3 : Int), (1 : Int)] : List Int)) : 0 ≤ x ∧ x ≤ 3 := by
  simp only [List.mem_cons, List.not_mem_nil, or_false] at h
  omega
theorem thin_sea {s : Sea} {js : List (Int × Int)} (h : SeaOk s) (hj : LanesOk js s.a.length) : SeaW ⟨s.a, js, s.c, s.d⟩ := ⟨h.n1, h.n12, h.dep, hj.lan, hj.lnd, hj.l66, h.f1, by have := h.f3; show s.c.length ≤ 12; omega, h.flo, h.har, h.hnd, h.h12⟩
theorem tides_fact (h : Hd) (s : Sea) : SeaOk s → SeaW (ltides h s).1 ∧ (ltides h s).1.a = s.a := fun hs => by
  unfold ltides
  refine bnd_ind (P := fun r : Sea × Hd => SeaW r.1 ∧ r.1.a = s.a) fun fl ef => bnd_ind (P := fun r : Sea × Hd => SeaW r.1 ∧ r.1.a = s.a) fun r2 e2 => bnd_ind (P := fun r : Sea × Hd => SeaW r.1 ∧ r.1.a = s.a) fun r3 e3 => bnd_ind (P := fun r : Sea × Hd => SeaW r.1 ∧ r.1.a = s.a) fun e6 ee => ?_
  have p2 := pick_in (h := h) (n := 3) (by decide)
  rw [← e2] at p2
  have g3 := gi3 (a := 1) (b := 3) (c := 10) (m := 10) p2 (by decide) (by decide) (by decide)
  have p3 := pick_in (h := r2.2) (n := gi ([(1 : Int), (3 : Int), (10 : Int)] : List Int) r2.1) g3.1
  rw [← e3] at p3
  have f1 := hs.f1
  have f3 := hs.f3
  have F0 : (1 ≤ fl.length ∧ fl.length ≤ 3) ∧ ∀ x ∈ fl, 0 ≤ x ∧ x ≤ 20 := by
    rw [ef, gs_tail, gs_head]
    refine ⟨⟨by simp; omega, by simp; omega⟩, fun x hx => hs.flo x ?_⟩
    rcases List.mem_append.mp hx with hx | hx
    · exact List.mem_of_mem_drop hx
    · exact List.mem_of_mem_take hx
  have I := fold_inv (fun n (e : Hd × List Int) => (1 ≤ e.2.length ∧ e.2.length ≤ 3 + n) ∧ ∀ x ∈ e.2, 0 ≤ x ∧ x ≤ 20) (s0 := (r3.2, fl)) (xs := rng 0 r3.1)
    (f := fun (s5 : Hd × (List Int)) (x4 : Int) => bnd (lpick s5.1 (21 : Int)) fun r7 => bnd (s5.2 ++ [r7.1]) fun flows8 => (r7.2, flows8))
    ⟨⟨F0.1.1, by show fl.length ≤ 3 + 0; omega⟩, F0.2⟩ (fun n e x hx hi => by
      refine bnd_ind (P := fun e : Hd × List Int => (1 ≤ e.2.length ∧ e.2.length ≤ 3 + (n + 1)) ∧ ∀ x ∈ e.2, 0 ≤ x ∧ x ≤ 20) fun r7 e7 => ?_
      have p7 := pick_le (h := e.1) (n := 21) (m := 20) (by decide) (by decide)
      rw [← e7] at p7
      refine ⟨⟨by show 1 ≤ (e.2 ++ [r7.1]).length; simp, by show (e.2 ++ [r7.1]).length ≤ _; have := hi.1.2; simp; omega⟩, fun x hx => ?_⟩
      rcases List.mem_append.mp (show x ∈ e.2 ++ [r7.1] from hx) with hx | hx
      · exact hi.2 x hx
      · rw [List.mem_singleton.mp hx]; exact p7)
  rw [rng_len, ← ee] at I
  exact ⟨hs.w.tide ⟨I.1.1, by have := I.1.2; omega, I.2⟩, rfl⟩
structure QOk (s : Sea) (q : FF.T3 Int Int Int) : Prop where
  a : 0 ≤ q.a ∧ q.a < s.a.length
  c : 0 ≤ q.c ∧ q.c ≤ 96
theorem quest_fact (h : Hd) (s : Sea) : SeaW s → QOk s (lquestion h s).1 := fun w => by
  have n1 := w.n1
  unfold lquestion
  refine bnd_ind (P := fun r : FF.T3 Int Int Int × Hd => QOk s r.1) fun r1 e1 => bnd_ind (P := fun r : FF.T3 Int Int Int × Hd => QOk s r.1) fun p2 e2 => bnd_ind (P := fun r : FF.T3 Int Int Int × Hd => QOk s r.1) fun r3 e3 => bnd_ind (P := fun r : FF.T3 Int Int Int × Hd => QOk s r.1) fun r4 e4 => bnd_ind (P := fun r : FF.T3 Int Int Int × Hd => QOk s r.1) fun l5 e5 => bnd_ind (P := fun r : FF.T3 Int Int Int × Hd => QOk s r.1) fun r6 e6 => bnd_ind (P := fun r : FF.T3 Int Int Int × Hd => QOk s r.1) fun r7 e7 => bnd_ind (P := fun r : FF.T3 Int Int Int × Hd => QOk s r.1) fun d8 e8 => ?_
  have q1 := pick_in (h := h) (n := (s.a.length : Int)) (by omega)
  rw [← e1, ← e2] at q1
  have q3 := pick_in (h := r1.2) (n := 3) (by decide)
  rw [← e3] at q3
  have g3 := gi3 (a := 5) (b := 20) (c := 97) (m := 97) q3 (by decide) (by decide) (by decide)
  have q4 := pick_in (h := r3.2) (n := gi ([(5 : Int), (20 : Int), (97 : Int)] : List Int) r3.1) g3.1
  rw [← e4, ← e5] at q4
  exact ⟨q1, by show 0 ≤ l5; omega, by show l5 ≤ 96; omega⟩
theorem two_q {s : Sea} {p q : FF.T3 Int Int Int} (hp : QOk s p) (hq : QOk s q) : ∀ k : Int, 0 ≤ k ∧ k < 2 → QOk s (gi [p, q] k) := fun k hk => by
  have : k = 0 ∨ k = 1 := by omega
  rcases this with rfl | rfl
  · exact hp
  · exact hq
theorem mem010 {x : Int} (h : x ∈ ([(0 : Int), (1 : Int), (0 : Int)] : List Int)) : 0 ≤ x ∧ x < 2 := by
  simp at h
  omega
theorem made_gate (xs : List Int) : p_Gate___init__ xs = ⟨⟨srt xs⟩⟩ := rfl
theorem gate_len {c : Chart} {p d l : Int} (h : l ≤ 100) : (p_tide_gate c p d l).hours.l.length ≤ 1000 := by
  unfold p_tide_gate
  rw [made_gate]
  show (srt _).length ≤ 1000
  rw [srt_len]
  exact filt_len (by omega)
end LW

set_option linter.all false
set_option maxRecDepth 100000
namespace LW
open FF
theorem rng_up (a n : Int) : (rng a n).Pairwise (· < ·) := by
  unfold rng
  exact List.pairwise_map.mpr (List.pairwise_lt_range.imp fun {x y} h => by omega)
theorem water_eq {c : Chart} {s : Sea} (h : OfSea c s) (p w : Int) : p_Chart_water c p w = lwater s p w := by
  unfold p_Chart_water lwater
  rw [h.e]
theorem gate_eq {c : Chart} {s : Sea} (h : OfSea c s) (p d l : Int) : (p_tide_gate c p d l).hours.l = ((rng 0 (l + 1)).filter fun x => decide (lwater s p x ≥ d)).map fun x => x := by
  unfold p_tide_gate
  rw [made_gate]
  show srt _ = _
  have e : (fun x1 : Int => decide (p_Chart_water c p x1 ≥ d)) = fun x => decide (lwater s p x ≥ d) := funext fun x => by rw [water_eq h]
  rw [e, List.map_id']
  exact (srt_uniq (List.Perm.refl _) (((rng_up 0 (l + 1)).filter _).imp fun {x y} h => Int.le_of_lt h)).symm
theorem holds_true {g : Gate} {due : List Int} (e : g.hours.l = due) : lgate_holds g due = true := by
  unfold lgate_holds
  rw [if_neg (by simp [e]), if_neg (by simp [lint]), e, List.map_id', decide_eq_true rfl]
theorem law_true (ns : List Int) (h : ns.length ≤ 63) : l_law ⟨ns⟩ = true := by
  have ind : ∀ {α : Type} {x : α} {f : α → Bool}, (∀ y, y = x → f y = true) → bnd x f = true := fun h => h _ rfl
  unfold l_law
  refine ind fun hand1 e1 => ind fun r2 e2 => ind fun r3 e3 => ind fun sea4 e4 => ind fun r5 e5 => ind fun sea6 e6 => ind fun r7 e7 => ind fun r8 e8 => ind fun qs e9 => ind fun chart e10 => ?_
  have p2 : 0 ≤ r2.1 ∧ r2.1 < 8 := by rw [e2]; exact pick_in (by decide)
  have s4 : SeaOk sea4 := by rw [e4, e3]; exact sea_fact _ _ (gi8 p2)
  have w6 : SeaW sea6 := by rw [e6, e5]; exact (tides_fact _ _ s4).1
  have oc : OfSea chart sea6 := by rw [e10]; exact ofSea w6
  rw [loop_all (fun x hx => ?_)]
  · rfl
  · simp only [bnd]
    rw [holds_true (gate_eq oc _ _ _)]
    rfl
end LW

set_option Elab.async false
set_option linter.all false
set_option maxRecDepth 100000
set_option maxHeartbeats 4000000
namespace LW
open PySem L2 FF
def top (i : Nat) : Stmt := PySem.Challenge.pw_fogfleet_k40_tide_gate.main.body.getD i (.Pass ⟨0, 0, 0, 0⟩)
class HasC where
  c_Chart : Addr
  c_Gate : Addr
  d_Chart_tide : Addr
  d_Chart_harbours : Addr
variable [HasC]
@[reducible] def fs_Chart (x : Chart) : List (PySem.Str × Pv) := [("depths", pv' (α := (FF.Tu Int)) x.depths), ("lanes", pv' (α := (FF.Tu (Int × Int))) x.lanes), ("tide", pv' (α := (FF.Tu Int)) x.tide), ("harbours", pv' (α := (FF.Tu Int)) x.harbours), ("size", pv' (α := Int) x.size), ("_beside", pv' (α := (FF.Tu (FF.Tu Int))) x.beside)]
@[reducible] instance : Rp Chart := repOb HasC.c_Chart fs_Chart
@[reducible] def fs_Gate (x : Gate) : List (PySem.Str × Pv) := [("hours", pv' (α := (FF.Tu Int)) x.hours)]
@[reducible] instance : Rp Gate := repOb HasC.c_Gate fs_Gate
local macro_rules | `(tactic| walk_at "never") => `(tactic| first | omega | (simp_all; done) | (simp_all; omega))
local macro_rules | `(tactic| walk_at "side") => `(tactic| first | omega | decide | trivial | (simp; omega) | (simp_all; done) | (simp_all; omega) | (subst_vars; simp only [List.length_map, rng_len, srtP_len, srt_len]; omega) | exact Nat.le_trans (Nat.add_le_add (gs_len _ _ _) (gs_len _ _ _)) (by omega) | exact ⟨Int.le_trans (by omega) (Int.emod_nonneg _ (by omega)), Int.emod_lt_of_pos _ (by omega)⟩)
local macro_rules | `(tactic| walk_at "step") => `(tactic| first | omega | (subst_vars; simp only [bnd] at *; ((repeat' split) <;> first | omega | trivial | (simp; omega) | (simp_all; done) | (simp_all; omega))))

local macro_rules | `(tactic| walk_at "side") => `(tactic| first | omega | exact True.intro | assumption | exact Int.le_trans (show _ ≤ (97 : Int) by omega) (by decide) | exact Int.le_trans (gi3 (m := 10) (by assumption) (by decide) (by decide) (by decide)).2 (by decide) | exact Int.le_trans (gi3 (m := 97) (by assumption) (by decide) (by decide) (by decide)).2 (by decide) | (have g9 := gi3 (a := 1) (b := 3) (c := 10) (k := _) (m := 10) (by assumption) (by decide) (by decide) (by decide); omega) | exact c100 (by assumption) | exact ⟨gate_len (by omega), by assumption⟩ | exact filt_len (by omega) | omega | exact True.intro | assumption | (have hxr := rng_mem (by assumption); omega) | (rw [rng_len]; omega) | (and_intros <;> first | omega | assumption) | exact gi8w (by omega) | exact chart_pre1 (by assumption) | (simp; omega) | (simp_all; done) | (simp_all; omega) | (subst_vars; simp only [List.length_map, rng_len, srtP_len, srt_len]; omega) | exact Nat.le_trans (Nat.add_le_add (gs_len _ _ _) (gs_len _ _ _)) (by omega) | exact ⟨Int.le_trans (by omega) (Int.emod_nonneg _ (by omega)), Int.emod_lt_of_pos _ (by omega)⟩)
local macro_rules | `(tactic| walk_at "step") => `(tactic| first | omega | assumption | (dsimp only; and_intros <;> first | omega | assumption) | (subst_vars; simp only [bnd] at *; ((repeat' split) <;> first | omega | trivial | (simp; omega) | (simp_all; done) | (simp_all; omega))))
local macro_rules | `(tactic| walk_at "ok") => `(tactic| first | assumption)
local macro_rules | `(tactic| walk_at "never") => `(tactic| first | omega | (simp_all; done))
abbrev s_p_Gate___init__ : Stmt := (inClass (top 2) 0)
abbrev N_p_Gate___init__ : List Str := ["self", "hours"]
theorem sc_p_Gate___init__ : FnScope N_p_Gate___init__ ["self", "hours"] (defScope s_p_Gate___init__) := ⟨rfl, rfl, rfl, by decide +kernel, rfl, by decide +kernel, by decide +kernel⟩
abbrev sp_p_Gate___init__ (K : Kf) : Sp := spI K HasC.c_Gate (ι := (List Int)) (fun d => [pr (α := (List Int)) d]) (fun d => d.length ≤ 1000) (fun d => fs_Gate (p_Gate___init__ d))
structure T_p_Gate___init__ (P : Program) (w : World) (K : Kf) (mg : Str → Option Value) (base : Heap) : Prop where
  b_sorted : mg "sorted" = none
  b_tuple : mg "tuple" = none
  cls_Gate : Cls K HasC.c_Gate
  na_Gate_hours : NoAttr K HasC.c_Gate "hours"
theorem ok_p_Gate___init__ {P : Program} {w : World} {K : Kf} {mg : Str → Option Value} {base : Heap} {fa : Addr} {fd : FuncData} (Fd : Fun K "__init__" "Gate.__init__" s_p_Gate___init__ fa fd) (T : T_p_Gate___init__ P w K mg base) : FnOk P w K mg base CX0 1 fa fd ["self", "hours"] (sp_p_Gate___init__ K) := by
  have nd := sc_p_Gate___init__.nd
  refine fn_body (ρ := Gate) (fun _ => PerR K (fun _ => ())) (fun d r => [.ob d.1 HasC.c_Gate d.2.1 (fs_Gate r)]) (fun d => p_Gate___init__ d.2.2) Fd sc_p_Gate___init__ (fun _ => rfl) (fun _ => rfl) (fun _ _ _ _ _ _ h => h) fun cdv AA outer s H EE hr => ?_
  refine ⟨_, (pss_cons (ps_fld (pv 0) (pe_callTy (show CallR _ (.type "tuple") (rTuple1 K) from cr_tuple1) (by rfl) T.b_tuple (by decide +kernel) (pa_cons (pe_callB (show CallR _ (.builtin "sorted") (rSrt K) from cr_srt) (by rfl) T.b_sorted (by decide +kernel) (pa_cons (pv 1) pa_nil)) pa_nil)) rfl)
pss_nil), ?_⟩
  rintro ⟨a, dx, hours⟩ hp
  have hp : hours.length ≤ 1000 := hp
  show R K _ [.ob a HasC.c_Gate dx ([] : List (PySem.Str × Pv)), pr (α := (List Int)) hours] _ _ (p_Gate___init__ hours)
  unfold p_Gate___init__
  refine r_bd (Γx := fun hours1 => [.ob a HasC.c_Gate dx (([] : List (PySem.Str × Pv)) ++ ([("hours", pv' (α := (FF.Tu Int)) hours1)] : List (PySem.Str × Pv))), pr (α := (List Int)) hours]) (g_fld (n := 0) (e_tup (EN.e (n_srtL (e_var (n := 1) rfl)))) rfl T.cls_Gate T.na_Gate_hours (by rfl)) fun hours1 hhours1 => ?_
  exact r_end (fun _ => rfl) (wk_eq wk_nil)
abbrev s_p_Gate___iter__ : Stmt := (inClass (top 2) 1)
abbrev N_p_Gate___iter__ : List Str := ["self"]
theorem sc_p_Gate___iter__ : FnScope N_p_Gate___iter__ ["self"] (defScope s_p_Gate___iter__) := ⟨rfl, rfl, rfl, by decide +kernel, rfl, by decide +kernel, by decide +kernel⟩
structure T_p_Gate___iter__ (P : Program) (w : World) (K : Kf) (mg : Str → Option Value) (base : Heap) : Prop where
  cls_Gate : Cls K HasC.c_Gate
  na_Gate_hours : NoAttr K HasC.c_Gate "hours"
  b_iter : mg "iter" = none
theorem ok_p_Gate___iter__ {P : Program} {w : World} {K : Kf} {mg : Str → Option Value} {base : Heap} {fa : Addr} {fd : FuncData} (Fd : Fun K "__iter__" "Gate.__iter__" s_p_Gate___iter__ fa fd) (T : T_p_Gate___iter__ P w K mg base) : IterOk P w K mg base 1 fa fd HasC.c_Gate "hours" := by
  have nd := sc_p_Gate___iter__.nd
  exact iter_ok Fd sc_p_Gate___iter__ T.cls_Gate T.na_Gate_hours fun cdv AA outer s H => (pss_cons (ps_ret (pe_callB call_iterT (by rfl) T.b_iter (by decide +kernel) (pa_cons (pe_fld (pv 0) rfl) pa_nil))) pss_nil)
abbrev s_p_right_row_L : Stmt := (top 13)
abbrev N_p_right_row_L : List Str := ["numbers", "greatest", "number"]
theorem sc_p_right_row_L : FnScope N_p_right_row_L ["numbers", "greatest"] (defScope s_p_right_row_L) := ⟨rfl, rfl, rfl, by decide +kernel, rfl, by decide +kernel, by decide +kernel⟩
abbrev sp_p_right_row_L (K : Kf) : Sp := spF K (ι := (List Int) × Int) (fun d => [bw (α := (List Int)) d.1, pr (α := Int) d.2]) (fun d => d.1.length ≤ 100) (fun d => (p_right_row_L d.1 d.2)) (fun d => [])
structure T_p_right_row_L (P : Program) (w : World) (K : Kf) (mg : Str → Option Value) (base : Heap) : Prop where
  b_len : mg "len" = none
  g_LONGEST_ROW : ∃ u, mg "LONGEST_ROW" = some u ∧ RelV (.int 12) u
  b_all : mg "all" = none
theorem ok_p_right_row_L {P : Program} {w : World} {K : Kf} {mg : Str → Option Value} {base : Heap} {fa : Addr} {fd : FuncData} (Fd : Fun K "right_row" "right_row" s_p_right_row_L fa fd) (T : T_p_right_row_L P w K mg base) : FnOk P w K mg base CX0 1 fa fd ["numbers", "greatest"] (sp_p_right_row_L K) := by
  have nd := sc_p_right_row_L.nd
  refine fn_body (ρ := Bool) (fun _ => PerR K (fun r => r)) (fun _ _ => []) (fun d => p_right_row_L d.1 d.2) Fd sc_p_right_row_L (fun _ => rfl) (fun _ => rfl) (fun _ _ _ _ _ _ h => h) fun cdv AA outer s H EE hr => ?_
  refine ⟨_, (pss_cons (ps_if (pt_not (pt_chain op_le op_le pe_int (pe_callB (show CallR _ (.builtin "len") (rLen1 K) from cr_len1) (by rfl) T.b_len PySem.boot_len (pa_cons (pv 0) pa_nil)) (pe_gX rfl T.g_LONGEST_ROW))) (pss_cons (ps_ret pe_bl)
pss_nil) pss_nil)
(pss_cons (ps_ret (pe_callB (show CallR _ (.builtin "all") (rAll K) from cr_all rfl) (by rfl) T.b_all (by decide +kernel) (pa_cons (pe_lc (own := [("number", 2)]) (g := gName 2) (tt := tYes) rfl nd (pi_list (pv 0)) (blkOk_by (N := N_p_right_row_L) (sc := defScope s_p_right_row_L) (by decide +kernel)) (fun _ _ _ _ _ => (pg_name (i := 2) nd rfl (by first | exact Or.inl rfl | exact Or.inr rfl))) (fun _ _ _ _ _ => pts_nil) (fun _ _ _ _ _ => (pe_chain op_le op_le pe_int (pv 2) (pv 1)))) pa_nil)))
pss_nil)), ?_⟩
  rintro ⟨numbers, greatest⟩ hp
  have hp : numbers.length ≤ 100 := hp
  show R K _ [bw (α := (List Int)) numbers, pr (α := Int) greatest, .un] _ _ (p_right_row_L numbers greatest)
  unfold p_right_row_L
  refine r_if (t_not (t_test (e_chain e_int (e_len (e_varB (n := 0) rfl)) e_int))) (fun hb1 => ?_) (fun hb1 => ?_)
  · try simp only [decide_eq_true_eq, decide_eq_false_iff_not, Bool.and_eq_true, Bool.or_eq_true, Bool.not_eq_true', Bool.not_eq_false', Bool.and_eq_false_iff, Bool.or_eq_false_iff, Int.not_lt, Int.not_le, gt_iff_lt, ge_iff_le] at hb1
    try (simp at hb1; show _)
    refine r_as ?_
    exact r_ret e_bl rfl wk_nil
  · try simp only [decide_eq_true_eq, decide_eq_false_iff_not, Bool.and_eq_true, Bool.or_eq_true, Bool.not_eq_true', Bool.not_eq_false', Bool.and_eq_false_iff, Bool.or_eq_false_iff, Int.not_lt, Int.not_le, gt_iff_lt, ge_iff_le] at hb1
    try (simp at hb1; show _)
    refine r_nil ?_
    exact r_ret (e_all (EN.e (n_lc (f := fun (x2 : Int) => (decide ((0 : Int) ≤ x2) && decide (x2 ≤ greatest))) (fun (x2 : Int) => [bw (α := (List Int)) numbers, pr (α := Int) greatest, pr (α := Int) x2]) (w_listB (n := 0) rfl) (free_one rfl) (by walk_at "side") (fun _ => tgc_nameS) (fun x2 hx => (e_chain e_int (e_var (n := 2) rfl) (e_var (n := 1) rfl))) (fun _ => (wk_eq (wk_eq (wk_un wk_nil))))))) rfl wk_nil
theorem k_p_right_row_L {K : Kf} {m : Bool} {ta : TA} {Γ Γ1 : List Sl} {as : List Ar} {d : (List Int) × Int} (ha : A K m ta Γ Γ1 as) (hm : Mt as [bw (α := (List Int)) d.1, pr (α := Int) d.2]) (hp : d.1.length ≤ 100) : E K m true (tCall (sp_p_right_row_L K) [] E0 ta) Γ Γ1 (p_right_row_L d.1 d.2) := e_call d ha hm hp
abbrev s_p_lower_first : Stmt := (top 14)
abbrev N_p_lower_first : List Str := ["lane"]
theorem sc_p_lower_first : FnScope N_p_lower_first ["lane"] (defScope s_p_lower_first) := ⟨rfl, rfl, rfl, by decide +kernel, rfl, by decide +kernel, by decide +kernel⟩
abbrev sp_p_lower_first (K : Kf) : Sp := spF K (ι := (Int × Int)) (fun d => [bw (α := (Int × Int)) d]) (fun d => True) (fun d => (p_lower_first d)) (fun d => [])
structure T_p_lower_first (P : Program) (w : World) (K : Kf) (mg : Str → Option Value) (base : Heap) : Prop where
  b_min : mg "min" = none
  b_max : mg "max" = none
theorem ok_p_lower_first {P : Program} {w : World} {K : Kf} {mg : Str → Option Value} {base : Heap} {fa : Addr} {fd : FuncData} (Fd : Fun K "lower_first" "lower_first" s_p_lower_first fa fd) (T : T_p_lower_first P w K mg base) : FnOk P w K mg base CX0 1 fa fd ["lane"] (sp_p_lower_first K) := by
  have nd := sc_p_lower_first.nd
  refine fn_body (ρ := (Int × Int)) (fun _ => PerR K (fun r => r)) (fun _ _ => []) (fun d => p_lower_first d) Fd sc_p_lower_first (fun _ => rfl) (fun _ => rfl) (fun _ _ _ _ _ _ h => h) fun cdv AA outer s H EE hr => ?_
  refine ⟨_, (pss_cons (ps_ret (pe_tup (pa_cons (pe_callB (show CallR _ (.builtin "min") (rMin1 K) from cr_min1 rfl hr.units) (by rfl) T.b_min (by decide +kernel) (pa_cons (pv 0) pa_nil)) (pa_cons (pe_callB (show CallR _ (.builtin "max") (rMax1 K) from cr_max1 rfl hr.units) (by rfl) T.b_max (by decide +kernel) (pa_cons (pv 0) pa_nil)) pa_nil))))
pss_nil), ?_⟩
  intro lane hp
  show R K _ [bw (α := (Int × Int)) lane] _ _ (p_lower_first lane)
  unfold p_lower_first
  exact r_ret (e_t2 (a_per (e_minP (e_varB (n := 0) rfl) (by show [lane.1, lane.2] ≠ []; walk_at "side")) (a_per (e_maxP (e_varB (n := 0) rfl) (by show [lane.1, lane.2] ≠ []; walk_at "side")) a_nil))) rfl wk_nil
theorem k_p_lower_first {K : Kf} {m : Bool} {ta : TA} {Γ Γ1 : List Sl} {as : List Ar} {d : (Int × Int)} (ha : A K m ta Γ Γ1 as) (hm : Mt as [bw (α := (Int × Int)) d]) : E K m true (tCall (sp_p_lower_first K) [] E0 ta) Γ Γ1 (p_lower_first d) := e_call d ha hm trivial
abbrev s_p_right_lanes_L : Stmt := (top 15)
abbrev N_p_right_lanes_L : List Str := ["lanes", "size", "pairs", "lane", "low", "high"]
theorem sc_p_right_lanes_L : FnScope N_p_right_lanes_L ["lanes", "size"] (defScope s_p_right_lanes_L) := ⟨rfl, rfl, rfl, by decide +kernel, rfl, by decide +kernel, by decide +kernel⟩
abbrev sp_p_right_lanes_L (K : Kf) : Sp := spF K (ι := (List (Int × Int)) × Int) (fun d => [bw (α := (List (Int × Int))) d.1, pr (α := Int) d.2]) (fun d => d.1.length ≤ 66) (fun d => (p_right_lanes_L d.1 d.2)) (fun d => [])
structure T_p_right_lanes_L (P : Program) (w : World) (K : Kf) (mg : Str → Option Value) (base : Heap) : Prop where
  c_lower_first : Cl P w K mg base 1 "lower_first" (sp_p_lower_first K)
  b_all : mg "all" = none
  b_len : mg "len" = none
  b_set : mg "set" = none
theorem ok_p_right_lanes_L {P : Program} {w : World} {K : Kf} {mg : Str → Option Value} {base : Heap} {fa : Addr} {fd : FuncData} (Fd : Fun K "right_lanes" "right_lanes" s_p_right_lanes_L fa fd) (T : T_p_right_lanes_L P w K mg base) : FnOk P w K mg base CX0 2 fa fd ["lanes", "size"] (sp_p_right_lanes_L K) := by
  have nd := sc_p_right_lanes_L.nd
  refine fn_body (ρ := Bool) (fun _ => PerR K (fun r => r)) (fun _ _ => []) (fun d => p_right_lanes_L d.1 d.2) Fd sc_p_right_lanes_L (fun _ => rfl) (fun _ => rfl) (fun _ _ _ _ _ _ h => h) fun cdv AA outer s H EE hr => ?_
  refine ⟨_, (pss_cons (ps_setLc (i := 2) (own := [("lane", 3)]) (g := gName 3) (tt := tYes) rfl nd rfl rfl (sw_true rfl rfl rfl (by decide +kernel)) (pi_list (pv 0)) (blkOk_by (N := N_p_right_lanes_L) (sc := defScope s_p_right_lanes_L) (by decide +kernel)) (fun _ _ _ _ _ => (pg_name (i := 3) nd rfl (by first | exact Or.inl rfl | exact Or.inr rfl))) (fun _ _ _ _ _ => pts_nil) (fun _ _ _ _ _ => (pe_cl T.c_lower_first hr (by decide) (by rfl) (pa_cons (pv 3) pa_nil))))
(pss_cons (ps_if (pt_not (pt_val (pe_callB (show CallR _ (.builtin "all") (rAll K) from cr_all rfl) (by rfl) T.b_all (by decide +kernel) (pa_cons (pe_lc (own := [("low", 4), ("high", 5)]) (g := gTup K 2 (gCons (gName 4) (gCons (gName 5) gNil))) (tt := tYes) rfl nd (pi_list (pv 2)) (blkOk_by (N := N_p_right_lanes_L) (sc := defScope s_p_right_lanes_L) (by decide +kernel)) (fun _ _ _ _ _ => (pg_tup rfl (pgs_cons (pg_name (i := 4) nd rfl (by first | exact Or.inl rfl | exact Or.inr rfl)) (pgs_cons (pg_name (i := 5) nd rfl (by first | exact Or.inl rfl | exact Or.inr rfl)) pgs_nil)))) (fun _ _ _ _ _ => pts_nil) (fun _ _ _ _ _ => (pe_chain3 op_le op_lt op_lt pe_int (pv 4) (pv 5) (pv 1)))) pa_nil)))) (pss_cons (ps_ret pe_bl)
pss_nil) pss_nil)
(pss_cons (ps_ret (pe_cmpR op_eq (pe_lenSetP (by rfl) T.b_len (by rfl) T.b_set (pv 2) rfl hr.units) (pe_callB (show CallR _ (.builtin "len") (rLen1 K) from cr_len1) (by rfl) T.b_len PySem.boot_len (pa_cons (pv 2) pa_nil)) (nomark _)))
pss_nil))), ?_⟩
  rintro ⟨lanes, size⟩ hp
  have hp : lanes.length ≤ 66 := hp
  show R K _ [bw (α := (List (Int × Int))) lanes, pr (α := Int) size, .un, .un, .un, .un] _ _ (p_right_lanes_L lanes size)
  unfold p_right_lanes_L
  refine r_bd (Γx := fun pairs2 => [bw (α := (List (Int × Int))) lanes, pr (α := Int) size, pr (α := (List (Int × Int))) pairs2, .un, .un, .un]) (g_set (EN.e (n_lc (f := fun (x1 : (Int × Int)) => (p_lower_first x1)) (fun (x1 : (Int × Int)) => [bw (α := (List (Int × Int))) lanes, pr (α := Int) size, .un, bw (α := (Int × Int)) x1, .un, .un]) (w_listB (n := 0) rfl) (free_one rfl) (by walk_at "side") (fun _ => tgc_nameB) (fun x1 hx => (k_p_lower_first (d := x1) (a_bor (e_varB (n := 3) rfl) a_nil) (.bor .nil))) (fun _ => (wk_eq (wk_eq (wk_un (wk_un (wk_un (wk_un wk_nil)))))))))) fun pairs2 hpairs2 => ?_
  refine r_if (t_not (t_B (e_all (EN.e (n_lc (f := fun (x3 : (Int × Int)) => (decide ((0 : Int) ≤ x3.1) && decide (x3.1 < x3.2) && decide (x3.2 < size))) (fun (x3 : (Int × Int)) => [bw (α := (List (Int × Int))) lanes, pr (α := Int) size, pr (α := (List (Int × Int))) pairs2, .un, pr (α := Int) x3.1, pr (α := Int) x3.2]) (w_list (e_var (n := 2) rfl)) (free_two rfl rfl) (by walk_at "side") (fun _ => tgc_two) (fun x3 hx => (e_chain3 e_int (e_var (n := 4) rfl) (e_var (n := 5) rfl) (e_var (n := 1) rfl))) (fun _ => (wk_eq (wk_eq (wk_eq (wk_un (wk_un (wk_un wk_nil)))))))))))) (fun hb4 => ?_) (fun hb4 => ?_)
  · try simp only [decide_eq_true_eq, decide_eq_false_iff_not, Bool.and_eq_true, Bool.or_eq_true, Bool.not_eq_true', Bool.not_eq_false', Bool.and_eq_false_iff, Bool.or_eq_false_iff, Int.not_lt, Int.not_le, gt_iff_lt, ge_iff_le] at hb4
    try (simp at hb4; show _)
    refine r_as ?_
    exact r_ret e_bl rfl wk_nil
  · try simp only [decide_eq_true_eq, decide_eq_false_iff_not, Bool.and_eq_true, Bool.or_eq_true, Bool.not_eq_true', Bool.not_eq_false', Bool.and_eq_false_iff, Bool.or_eq_false_iff, Int.not_lt, Int.not_le, gt_iff_lt, ge_iff_le] at hb4
    try (simp at hb4; show _)
    refine r_nil ?_
    exact r_ret (e_eq (e_lenSetP (e_var (n := 2) rfl) (by show pairs2.length ≤ 76; walk_at "side")) (e_len (e_var (n := 2) rfl))) rfl wk_nil
theorem k_p_right_lanes_L {K : Kf} {m : Bool} {ta : TA} {Γ Γ1 : List Sl} {as : List Ar} {d : (List (Int × Int)) × Int} (ha : A K m ta Γ Γ1 as) (hm : Mt as [bw (α := (List (Int × Int))) d.1, pr (α := Int) d.2]) (hp : d.1.length ≤ 66) : E K m true (tCall (sp_p_right_lanes_L K) [] E0 ta) Γ Γ1 (p_right_lanes_L d.1 d.2) := e_call d ha hm hp
abbrev s_p_right_zone_L : Stmt := (top 8)
abbrev N_p_right_zone_L : List Str := ["places", "size", "place"]
theorem sc_p_right_zone_L : FnScope N_p_right_zone_L ["places", "size"] (defScope s_p_right_zone_L) := ⟨rfl, rfl, rfl, by decide +kernel, rfl, by decide +kernel, by decide +kernel⟩
abbrev sp_p_right_zone_L (K : Kf) : Sp := spF K (ι := (List Int) × Int) (fun d => [bw (α := (List Int)) d.1, pr (α := Int) d.2]) (fun d => d.1.length ≤ 100) (fun d => (p_right_zone_L d.1 d.2)) (fun d => [])
structure T_p_right_zone_L (P : Program) (w : World) (K : Kf) (mg : Str → Option Value) (base : Heap) : Prop where
  b_all : mg "all" = none
  b_len : mg "len" = none
  b_set : mg "set" = none
theorem ok_p_right_zone_L {P : Program} {w : World} {K : Kf} {mg : Str → Option Value} {base : Heap} {fa : Addr} {fd : FuncData} (Fd : Fun K "right_zone" "right_zone" s_p_right_zone_L fa fd) (T : T_p_right_zone_L P w K mg base) : FnOk P w K mg base CX0 1 fa fd ["places", "size"] (sp_p_right_zone_L K) := by
  have nd := sc_p_right_zone_L.nd
  refine fn_body (ρ := Bool) (fun _ => PerR K (fun r => r)) (fun _ _ => []) (fun d => p_right_zone_L d.1 d.2) Fd sc_p_right_zone_L (fun _ => rfl) (fun _ => rfl) (fun _ _ _ _ _ _ h => h) fun cdv AA outer s H EE hr => ?_
  refine ⟨_, (pss_cons (ps_if (pt_not (pt_val (pe_callB (show CallR _ (.builtin "all") (rAll K) from cr_all rfl) (by rfl) T.b_all (by decide +kernel) (pa_cons (pe_lc (own := [("place", 2)]) (g := gName 2) (tt := tYes) rfl nd (pi_list (pv 0)) (blkOk_by (N := N_p_right_zone_L) (sc := defScope s_p_right_zone_L) (by decide +kernel)) (fun _ _ _ _ _ => (pg_name (i := 2) nd rfl (by first | exact Or.inl rfl | exact Or.inr rfl))) (fun _ _ _ _ _ => pts_nil) (fun _ _ _ _ _ => (pe_chain op_le op_lt pe_int (pv 2) (pv 1)))) pa_nil)))) (pss_cons (ps_ret pe_bl)
pss_nil) pss_nil)
(pss_cons (ps_ret (pe_cmpR op_eq (pe_lenSetI (by rfl) T.b_len (by rfl) T.b_set (pv 0) rfl hr.units) (pe_callB (show CallR _ (.builtin "len") (rLen1 K) from cr_len1) (by rfl) T.b_len PySem.boot_len (pa_cons (pv 0) pa_nil)) (nomark _)))
pss_nil)), ?_⟩
  rintro ⟨places, size⟩ hp
  have hp : places.length ≤ 100 := hp
  show R K _ [bw (α := (List Int)) places, pr (α := Int) size, .un] _ _ (p_right_zone_L places size)
  unfold p_right_zone_L
  refine r_if (t_not (t_B (e_all (EN.e (n_lc (f := fun (x1 : Int) => (decide ((0 : Int) ≤ x1) && decide (x1 < size))) (fun (x1 : Int) => [bw (α := (List Int)) places, pr (α := Int) size, pr (α := Int) x1]) (w_listB (n := 0) rfl) (free_one rfl) (by walk_at "side") (fun _ => tgc_nameS) (fun x1 hx => (e_chain e_int (e_var (n := 2) rfl) (e_var (n := 1) rfl))) (fun _ => (wk_eq (wk_eq (wk_un wk_nil))))))))) (fun hb2 => ?_) (fun hb2 => ?_)
  · try simp only [decide_eq_true_eq, decide_eq_false_iff_not, Bool.and_eq_true, Bool.or_eq_true, Bool.not_eq_true', Bool.not_eq_false', Bool.and_eq_false_iff, Bool.or_eq_false_iff, Int.not_lt, Int.not_le, gt_iff_lt, ge_iff_le] at hb2
    try (simp at hb2; show _)
    refine r_as ?_
    exact r_ret e_bl rfl wk_nil
  · try simp only [decide_eq_true_eq, decide_eq_false_iff_not, Bool.and_eq_true, Bool.or_eq_true, Bool.not_eq_true', Bool.not_eq_false', Bool.and_eq_false_iff, Bool.or_eq_false_iff, Int.not_lt, Int.not_le, gt_iff_lt, ge_iff_le] at hb2
    try (simp at hb2; show _)
    refine r_nil ?_
    exact r_ret (e_eq (e_lenSetIL (e_varB (n := 0) rfl) (by show places.length ≤ 4000; walk_at "side")) (e_len (e_varB (n := 0) rfl))) rfl wk_nil
theorem k_p_right_zone_L {K : Kf} {m : Bool} {ta : TA} {Γ Γ1 : List Sl} {as : List Ar} {d : (List Int) × Int} (ha : A K m ta Γ Γ1 as) (hm : Mt as [bw (α := (List Int)) d.1, pr (α := Int) d.2]) (hp : d.1.length ≤ 100) : E K m true (tCall (sp_p_right_zone_L K) [] E0 ta) Γ Γ1 (p_right_zone_L d.1 d.2) := e_call d ha hm hp
abbrev s_p_wrong_part_of_chart_LLLL : Stmt := (top 16)
abbrev N_p_wrong_part_of_chart_LLLL : List Str := ["depths", "lanes", "tide", "harbours"]
theorem sc_p_wrong_part_of_chart_LLLL : FnScope N_p_wrong_part_of_chart_LLLL ["depths", "lanes", "tide", "harbours"] (defScope s_p_wrong_part_of_chart_LLLL) := ⟨rfl, rfl, rfl, by decide +kernel, rfl, by decide +kernel, by decide +kernel⟩
abbrev sp_p_wrong_part_of_chart_LLLL (K : Kf) : Sp := spF K (ι := (List Int) × (List (Int × Int)) × (List Int) × (List Int)) (fun d => [bw (α := (List Int)) d.1, bw (α := (List (Int × Int))) d.2.1, bw (α := (List Int)) d.2.2.1, bw (α := (List Int)) d.2.2.2]) (fun d => d.1.length ≤ 100 ∧ d.2.1.length ≤ 66 ∧ d.2.2.1.length ≤ 100 ∧ d.2.2.2.length ≤ 100) (fun d => (p_wrong_part_of_chart_LLLL d.1 d.2.1 d.2.2.1 d.2.2.2)) (fun d => [])
structure T_p_wrong_part_of_chart_LLLL (P : Program) (w : World) (K : Kf) (mg : Str → Option Value) (base : Heap) : Prop where
  g_GREATEST_DEPTH : ∃ u, mg "GREATEST_DEPTH" = some u ∧ RelV (.int 99) u
  c_right_row_L : Cl P w K mg base 1 "right_row" (sp_p_right_row_L K)
  b_len : mg "len" = none
  c_right_lanes_L : Cl P w K mg base 2 "right_lanes" (sp_p_right_lanes_L K)
  g_GREATEST_TIDE : ∃ u, mg "GREATEST_TIDE" = some u ∧ RelV (.int 20) u
  c_right_zone_L : Cl P w K mg base 1 "right_zone" (sp_p_right_zone_L K)
theorem ok_p_wrong_part_of_chart_LLLL {P : Program} {w : World} {K : Kf} {mg : Str → Option Value} {base : Heap} {fa : Addr} {fd : FuncData} (Fd : Fun K "wrong_part_of_chart" "wrong_part_of_chart" s_p_wrong_part_of_chart_LLLL fa fd) (T : T_p_wrong_part_of_chart_LLLL P w K mg base) : FnOk P w K mg base CX0 3 fa fd ["depths", "lanes", "tide", "harbours"] (sp_p_wrong_part_of_chart_LLLL K) := by
  have nd := sc_p_wrong_part_of_chart_LLLL.nd
  refine fn_body (ρ := (Option PySem.Str)) (fun _ => PerR K (fun r => r)) (fun _ _ => []) (fun d => p_wrong_part_of_chart_LLLL d.1 d.2.1 d.2.2.1 d.2.2.2) Fd sc_p_wrong_part_of_chart_LLLL (fun _ => rfl) (fun _ => rfl) (fun _ _ _ _ _ _ h => h) fun cdv AA outer s H EE hr => ?_
  refine ⟨_, (pss_cons (ps_if (pt_not (pt_val (pe_cl T.c_right_row_L hr (by decide) (by rfl) (pa_cons (pv 0) (pa_cons (pe_gX rfl T.g_GREATEST_DEPTH) pa_nil))))) (pss_cons (ps_ret pe_str)
pss_nil) pss_nil)
(pss_cons (ps_if (pt_not (pt_val (pe_cl T.c_right_lanes_L hr (by decide) (by rfl) (pa_cons (pv 1) (pa_cons (pe_callB (show CallR _ (.builtin "len") (rLen1 K) from cr_len1) (by rfl) T.b_len PySem.boot_len (pa_cons (pv 0) pa_nil)) pa_nil))))) (pss_cons (ps_ret pe_str)
pss_nil) pss_nil)
(pss_cons (ps_if (pt_not (pt_val (pe_cl T.c_right_row_L hr (by decide) (by rfl) (pa_cons (pv 2) (pa_cons (pe_gX rfl T.g_GREATEST_TIDE) pa_nil))))) (pss_cons (ps_ret pe_str)
pss_nil) pss_nil)
(pss_cons (ps_if (pt_not (pt_val (pe_cl T.c_right_zone_L hr (by decide) (by rfl) (pa_cons (pv 3) (pa_cons (pe_callB (show CallR _ (.builtin "len") (rLen1 K) from cr_len1) (by rfl) T.b_len PySem.boot_len (pa_cons (pv 0) pa_nil)) pa_nil))))) (pss_cons (ps_ret pe_str)
pss_nil) pss_nil)
(pss_cons (ps_ret pe_non)
pss_nil))))), ?_⟩
  rintro ⟨depths, lanes, tide, harbours⟩ hp
  have hp : depths.length ≤ 100 ∧ lanes.length ≤ 66 ∧ tide.length ≤ 100 ∧ harbours.length ≤ 100 := hp
  show R K _ [bw (α := (List Int)) depths, bw (α := (List (Int × Int))) lanes, bw (α := (List Int)) tide, bw (α := (List Int)) harbours] _ _ (p_wrong_part_of_chart_LLLL depths lanes tide harbours)
  unfold p_wrong_part_of_chart_LLLL
  refine r_if (t_not (t_B (k_p_right_row_L (d := (depths, (99 : Int))) (a_bor (e_varB (n := 0) rfl) (a_per e_int a_nil)) (.bor (.per .nil)) (show depths.length ≤ 100 from (by walk_at "side"))))) (fun hb1 => ?_) (fun hb1 => ?_)
  · try simp only [decide_eq_true_eq, decide_eq_false_iff_not, Bool.and_eq_true, Bool.or_eq_true, Bool.not_eq_true', Bool.not_eq_false', Bool.and_eq_false_iff, Bool.or_eq_false_iff, Int.not_lt, Int.not_le, gt_iff_lt, ge_iff_le] at hb1
    try (simp at hb1; show _)
    refine r_as ?_
    exact r_ret (e_some e_str not_non) rfl wk_nil
  · try simp only [decide_eq_true_eq, decide_eq_false_iff_not, Bool.and_eq_true, Bool.or_eq_true, Bool.not_eq_true', Bool.not_eq_false', Bool.and_eq_false_iff, Bool.or_eq_false_iff, Int.not_lt, Int.not_le, gt_iff_lt, ge_iff_le] at hb1
    try (simp at hb1; show _)
    refine r_nil ?_
    refine r_if (t_not (t_B (k_p_right_lanes_L (d := (lanes, ((depths.length : Nat) : Int))) (a_bor (e_varB (n := 1) rfl) (a_per (e_len (e_varB (n := 0) rfl)) a_nil)) (.bor (.per .nil)) (show lanes.length ≤ 66 from (by walk_at "side"))))) (fun hb2 => ?_) (fun hb2 => ?_)
    · try simp only [decide_eq_true_eq, decide_eq_false_iff_not, Bool.and_eq_true, Bool.or_eq_true, Bool.not_eq_true', Bool.not_eq_false', Bool.and_eq_false_iff, Bool.or_eq_false_iff, Int.not_lt, Int.not_le, gt_iff_lt, ge_iff_le] at hb2
      try (simp at hb2; show _)
      refine r_as ?_
      exact r_ret (e_some e_str not_non) rfl wk_nil
    · try simp only [decide_eq_true_eq, decide_eq_false_iff_not, Bool.and_eq_true, Bool.or_eq_true, Bool.not_eq_true', Bool.not_eq_false', Bool.and_eq_false_iff, Bool.or_eq_false_iff, Int.not_lt, Int.not_le, gt_iff_lt, ge_iff_le] at hb2
      try (simp at hb2; show _)
      refine r_nil ?_
      refine r_if (t_not (t_B (k_p_right_row_L (d := (tide, (20 : Int))) (a_bor (e_varB (n := 2) rfl) (a_per e_int a_nil)) (.bor (.per .nil)) (show tide.length ≤ 100 from (by walk_at "side"))))) (fun hb3 => ?_) (fun hb3 => ?_)
      · try simp only [decide_eq_true_eq, decide_eq_false_iff_not, Bool.and_eq_true, Bool.or_eq_true, Bool.not_eq_true', Bool.not_eq_false', Bool.and_eq_false_iff, Bool.or_eq_false_iff, Int.not_lt, Int.not_le, gt_iff_lt, ge_iff_le] at hb3
        try (simp at hb3; show _)
        refine r_as ?_
        exact r_ret (e_some e_str not_non) rfl wk_nil
      · try simp only [decide_eq_true_eq, decide_eq_false_iff_not, Bool.and_eq_true, Bool.or_eq_true, Bool.not_eq_true', Bool.not_eq_false', Bool.and_eq_false_iff, Bool.or_eq_false_iff, Int.not_lt, Int.not_le, gt_iff_lt, ge_iff_le] at hb3
        try (simp at hb3; show _)
        refine r_nil ?_
        refine r_if (t_not (t_B (k_p_right_zone_L (d := (harbours, ((depths.length : Nat) : Int))) (a_bor (e_varB (n := 3) rfl) (a_per (e_len (e_varB (n := 0) rfl)) a_nil)) (.bor (.per .nil)) (show harbours.length ≤ 100 from (by walk_at "side"))))) (fun hb4 => ?_) (fun hb4 => ?_)
        · try simp only [decide_eq_true_eq, decide_eq_false_iff_not, Bool.and_eq_true, Bool.or_eq_true, Bool.not_eq_true', Bool.not_eq_false', Bool.and_eq_false_iff, Bool.or_eq_false_iff, Int.not_lt, Int.not_le, gt_iff_lt, ge_iff_le] at hb4
          try (simp at hb4; show _)
          refine r_as ?_
          exact r_ret (e_some e_str not_non) rfl wk_nil
        · try simp only [decide_eq_true_eq, decide_eq_false_iff_not, Bool.and_eq_true, Bool.or_eq_true, Bool.not_eq_true', Bool.not_eq_false', Bool.and_eq_false_iff, Bool.or_eq_false_iff, Int.not_lt, Int.not_le, gt_iff_lt, ge_iff_le] at hb4
          try (simp at hb4; show _)
          refine r_nil ?_
          exact r_ret e_non rfl wk_nil
theorem k_p_wrong_part_of_chart_LLLL {K : Kf} {m : Bool} {ta : TA} {Γ Γ1 : List Sl} {as : List Ar} {d : (List Int) × (List (Int × Int)) × (List Int) × (List Int)} (ha : A K m ta Γ Γ1 as) (hm : Mt as [bw (α := (List Int)) d.1, bw (α := (List (Int × Int))) d.2.1, bw (α := (List Int)) d.2.2.1, bw (α := (List Int)) d.2.2.2]) (hp : d.1.length ≤ 100 ∧ d.2.1.length ≤ 66 ∧ d.2.2.1.length ≤ 100 ∧ d.2.2.2.length ≤ 100) : E K m true (tCall (sp_p_wrong_part_of_chart_LLLL K) [] E0 ta) Γ Γ1 (p_wrong_part_of_chart_LLLL d.1 d.2.1 d.2.2.1 d.2.2.2) := e_call d ha hm hp
abbrev s_p_places_beside : Stmt := (top 17)
abbrev N_p_places_beside : List Str := ["lanes", "place", "beside", "low", "high"]
theorem sc_p_places_beside : FnScope N_p_places_beside ["lanes", "place"] (defScope s_p_places_beside) := ⟨rfl, rfl, rfl, by decide +kernel, rfl, by decide +kernel, by decide +kernel⟩
abbrev sp_p_places_beside (K : Kf) : Sp := spF K (ι := (FF.Tu (Int × Int)) × Int) (fun d => [pr (α := (FF.Tu (Int × Int))) d.1, pr (α := Int) d.2]) (fun d => d.1.l.length ≤ 66) (fun d => (p_places_beside d.1 d.2)) (fun d => [])
structure T_p_places_beside (P : Program) (w : World) (K : Kf) (mg : Str → Option Value) (base : Heap) : Prop where
  b_sorted : mg "sorted" = none
  b_tuple : mg "tuple" = none
theorem ok_p_places_beside {P : Program} {w : World} {K : Kf} {mg : Str → Option Value} {base : Heap} {fa : Addr} {fd : FuncData} (Fd : Fun K "places_beside" "places_beside" s_p_places_beside fa fd) (T : T_p_places_beside P w K mg base) : FnOk P w K mg base CX0 1 fa fd ["lanes", "place"] (sp_p_places_beside K) := by
  have nd := sc_p_places_beside.nd
  refine fn_body (ρ := (FF.Tu Int)) (fun _ => PerR K (fun r => r)) (fun _ _ => []) (fun d => p_places_beside d.1 d.2) Fd sc_p_places_beside (fun _ => rfl) (fun _ => rfl) (fun _ _ _ _ _ _ h => h) fun cdv AA outer s H EE hr => ?_
  refine ⟨_, (pss_cons (ps_setLc (i := 2) (own := [("low", 3), ("high", 4)]) (g := gTup K 2 (gCons (gName 3) (gCons (gName 4) gNil))) (tt := _) rfl nd rfl rfl (sw_true rfl rfl rfl (by decide +kernel)) (pi_tup (pv 0)) (blkOk_by (N := N_p_places_beside) (sc := defScope s_p_places_beside) (by decide +kernel)) (fun _ _ _ _ _ => (pg_tup rfl (pgs_cons (pg_name (i := 3) nd rfl (by first | exact Or.inl rfl | exact Or.inr rfl)) (pgs_cons (pg_name (i := 4) nd rfl (by first | exact Or.inl rfl | exact Or.inr rfl)) pgs_nil)))) (fun _ _ _ _ _ => (pts_one (pt_cmpR (show OpR _ _ (rIn K false) from op_in_seq) (pv 1) (pe_tup (pa_cons (pv 3) (pa_cons (pv 4) pa_nil))) (by with_unfolding_all rfl)))) (fun _ _ _ _ _ => (pe_op op_sub (pe_op op_add (pv 3) (pv 4)) (pv 1))))
(pss_cons (ps_ret (pe_callTy (show CallR _ (.type "tuple") (rTuple1 K) from cr_tuple1) (by rfl) T.b_tuple (by decide +kernel) (pa_cons (pe_callB (show CallR _ (.builtin "sorted") (rSrt K) from cr_srt) (by rfl) T.b_sorted (by decide +kernel) (pa_cons (pv 2) pa_nil)) pa_nil)))
pss_nil)), ?_⟩
  rintro ⟨lanes, place⟩ hp
  have hp : lanes.l.length ≤ 66 := hp
  show R K _ [pr (α := (FF.Tu (Int × Int))) lanes, pr (α := Int) place, .un, .un, .un] _ _ (p_places_beside lanes place)
  unfold p_places_beside
  refine r_bd (Γx := fun beside2 => [pr (α := (FF.Tu (Int × Int))) lanes, pr (α := Int) place, pr (α := (List Int)) beside2, .un, .un]) (g_set (EN.e (n_lcF (t := fun (x1 : (Int × Int)) => (decide (place ∈ [(x1.1, x1.2).1, (x1.1, x1.2).2]))) (f := fun (x1 : (Int × Int)) => ((x1.1 + x1.2) - place)) (fun (x1 : (Int × Int)) => [pr (α := (FF.Tu (Int × Int))) lanes, pr (α := Int) place, .un, pr (α := Int) x1.1, pr (α := Int) x1.2]) (w_tup (e_var (n := 0) rfl)) (free_two rfl rfl) (by walk_at "side") (fun _ => tgc_two) (fun x1 hx => (t_test (e_inP (e_var (n := 1) rfl) (e_t2 (a_per (e_var (n := 3) rfl) (a_per (e_var (n := 4) rfl) a_nil)))))) (fun x1 hx hb => (e_sub (e_add (e_var (n := 3) rfl) (e_var (n := 4) rfl)) (e_var (n := 1) rfl))) (fun _ => (wk_eq (wk_eq (wk_un (wk_un (wk_un wk_nil))))))))) fun beside2 hbeside2 => ?_
  exact r_ret (e_tup (EN.e (n_srtL (e_var (n := 2) rfl)))) rfl wk_nil
theorem k_p_places_beside {K : Kf} {m : Bool} {ta : TA} {Γ Γ1 : List Sl} {as : List Ar} {d : (FF.Tu (Int × Int)) × Int} (ha : A K m ta Γ Γ1 as) (hm : Mt as [pr (α := (FF.Tu (Int × Int))) d.1, pr (α := Int) d.2]) (hp : d.1.l.length ≤ 66) : E K m true (tCall (sp_p_places_beside K) [] E0 ta) Γ Γ1 (p_places_beside d.1 d.2) := e_call d ha hm hp
abbrev s_p_Chart___init___LLLL : Stmt := (inClass (top 18) 0)
abbrev N_p_Chart___init___LLLL : List Str := ["self", "depths", "lanes", "tide", "harbours", "part", "place", "lane"]
theorem sc_p_Chart___init___LLLL : FnScope N_p_Chart___init___LLLL ["self", "depths", "lanes", "tide", "harbours"] (defScope s_p_Chart___init___LLLL) := ⟨rfl, rfl, rfl, by decide +kernel, rfl, by decide +kernel, by decide +kernel⟩
abbrev sp_p_Chart___init___LLLL (K : Kf) : Sp := spI K HasC.c_Chart (ι := (List Int) × (List (Int × Int)) × (List Int) × (List Int)) (fun d => [bw (α := (List Int)) d.1, bw (α := (List (Int × Int))) d.2.1, bw (α := (List Int)) d.2.2.1, bw (α := (List Int)) d.2.2.2]) (fun d => d.1.length ≤ 100 ∧ d.2.1.length ≤ 66 ∧ d.2.2.1.length ≤ 100 ∧ d.2.2.2.length ≤ 100 ∧ p_wrong_part_of_chart_LLLL d.1 d.2.1 d.2.2.1 d.2.2.2 = none) (fun d => fs_Chart (p_Chart___init___LLLL d.1 d.2.1 d.2.2.1 d.2.2.2))
structure T_p_Chart___init___LLLL (P : Program) (w : World) (K : Kf) (mg : Str → Option Value) (base : Heap) : Prop where
  c_wrong_part_of_chart_LLLL : Cl P w K mg base 3 "wrong_part_of_chart" (sp_p_wrong_part_of_chart_LLLL K)
  b_tuple : mg "tuple" = none
  cls_Chart : Cls K HasC.c_Chart
  na_Chart_depths : NoAttr K HasC.c_Chart "depths"
  c_lower_first : Cl P w K mg base 1 "lower_first" (sp_p_lower_first K)
  b_sorted : mg "sorted" = none
  na_Chart_lanes : NoAttr K HasC.c_Chart "lanes"
  na_Chart_tide : NoAttr K HasC.c_Chart "tide"
  na_Chart_harbours : NoAttr K HasC.c_Chart "harbours"
  b_len : mg "len" = none
  na_Chart_size : NoAttr K HasC.c_Chart "size"
  b_range : mg "range" = none
  c_places_beside : Cl P w K mg base 1 "places_beside" (sp_p_places_beside K)
  na_Chart__beside : NoAttr K HasC.c_Chart "_beside"
theorem ok_p_Chart___init___LLLL {P : Program} {w : World} {K : Kf} {mg : Str → Option Value} {base : Heap} {fa : Addr} {fd : FuncData} (Fd : Fun K "__init__" "Chart.__init__" s_p_Chart___init___LLLL fa fd) (T : T_p_Chart___init___LLLL P w K mg base) : FnOk P w K mg base CX0 4 fa fd ["self", "depths", "lanes", "tide", "harbours"] (sp_p_Chart___init___LLLL K) := by
  have nd := sc_p_Chart___init___LLLL.nd
  refine fn_body (ρ := Chart) (fun _ => PerR K (fun _ => ())) (fun d r => [.ob d.1 HasC.c_Chart d.2.1 (fs_Chart r)]) (fun d => p_Chart___init___LLLL d.2.2.1 d.2.2.2.1 d.2.2.2.2.1 d.2.2.2.2.2) Fd sc_p_Chart___init___LLLL (fun _ => rfl) (fun _ => rfl) (fun _ _ _ _ _ _ h => h) fun cdv AA outer s H EE hr => ?_
  refine ⟨_, (pss_cons (ps_set (i := 5) nd rfl (by first | exact Or.inl rfl | exact Or.inr rfl) (pe_cl T.c_wrong_part_of_chart_LLLL hr (by decide) (by rfl) (pa_cons (pv 1) (pa_cons (pv 2) (pa_cons (pv 3) (pa_cons (pv 4) pa_nil))))))
(pss_cons (ps_if (pt_cmp (pc_notN (pv 5))) (pss_cons ps_never
pss_nil) pss_nil)
(pss_cons (ps_fld (pv 0) (pe_callTy (show CallR _ (.type "tuple") (rTuple1 K) from cr_tuple1) (by rfl) T.b_tuple (by decide +kernel) (pa_cons (pv 1) pa_nil)) rfl)
(pss_cons (ps_fld (pv 0) (pe_callTy (show CallR _ (.type "tuple") (rTuple1 K) from cr_tuple1) (by rfl) T.b_tuple (by decide +kernel) (pa_cons (pe_callB (show CallR _ (.builtin "sorted") (rSrtP K) from cr_srtP) (by rfl) T.b_sorted (by decide +kernel) (pa_cons (pe_lc (own := [("lane", 7)]) (g := gName 7) (tt := tYes) rfl nd (pi_list (pv 2)) (blkOk_by (N := N_p_Chart___init___LLLL) (sc := defScope s_p_Chart___init___LLLL) (by decide +kernel)) (fun _ _ _ _ _ => (pg_name (i := 7) nd rfl (by first | exact Or.inl rfl | exact Or.inr rfl))) (fun _ _ _ _ _ => pts_nil) (fun _ _ _ _ _ => (pe_cl T.c_lower_first hr (by decide) (by rfl) (pa_cons (pv 7) pa_nil)))) pa_nil)) pa_nil)) rfl)
(pss_cons (ps_fld (pv 0) (pe_callTy (show CallR _ (.type "tuple") (rTuple1 K) from cr_tuple1) (by rfl) T.b_tuple (by decide +kernel) (pa_cons (pv 3) pa_nil)) rfl)
(pss_cons (ps_fld (pv 0) (pe_callTy (show CallR _ (.type "tuple") (rTuple1 K) from cr_tuple1) (by rfl) T.b_tuple (by decide +kernel) (pa_cons (pe_callB (show CallR _ (.builtin "sorted") (rSrt K) from cr_srt) (by rfl) T.b_sorted (by decide +kernel) (pa_cons (pv 4) pa_nil)) pa_nil)) rfl)
(pss_cons (ps_fld (pv 0) (pe_callB (show CallR _ (.builtin "len") (rLen1 K) from cr_len1) (by rfl) T.b_len PySem.boot_len (pa_cons (show PE _ _ (tFld K (tVar 0) _) from pe_fld (pv 0) rfl) pa_nil)) rfl)
(pss_cons (ps_fld (pv 0) (pe_callTy (show CallR _ (.type "tuple") (rTuple1 K) from cr_tuple1) (by rfl) T.b_tuple (by decide +kernel) (pa_cons (pe_lc (own := [("place", 6)]) (g := gName 6) (tt := tYes) rfl nd (pi_range1 rfl T.b_range (pa_cons (show PE _ _ (tFld K (tVar 0) _) from pe_fld (pv 0) rfl) pa_nil)) (blkOk_by (N := N_p_Chart___init___LLLL) (sc := defScope s_p_Chart___init___LLLL) (by decide +kernel)) (fun _ _ _ _ _ => (pg_name (i := 6) nd rfl (by first | exact Or.inl rfl | exact Or.inr rfl))) (fun _ _ _ _ _ => pts_nil) (fun _ _ _ _ _ => (pe_cl T.c_places_beside hr (by decide) (by rfl) (pa_cons (show PE _ _ (tFld K (tVar 0) _) from pe_fld (pv 0) rfl) (pa_cons (pv 6) pa_nil))))) pa_nil)) rfl)
pss_nil)))))))), ?_⟩
  rintro ⟨a, dx, depths, lanes, tide, harbours⟩ hp
  have hp : depths.length ≤ 100 ∧ lanes.length ≤ 66 ∧ tide.length ≤ 100 ∧ harbours.length ≤ 100 ∧ p_wrong_part_of_chart_LLLL depths lanes tide harbours = none := hp
  show R K _ [.ob a HasC.c_Chart dx ([] : List (PySem.Str × Pv)), bw (α := (List Int)) depths, bw (α := (List (Int × Int))) lanes, bw (α := (List Int)) tide, bw (α := (List Int)) harbours, .un, .un, .un] _ _ (p_Chart___init___LLLL depths lanes tide harbours)
  unfold p_Chart___init___LLLL
  refine r_bd (Γx := fun part1 => [.ob a HasC.c_Chart dx ([] : List (PySem.Str × Pv)), bw (α := (List Int)) depths, bw (α := (List (Int × Int))) lanes, bw (α := (List Int)) tide, bw (α := (List Int)) harbours, pr (α := (Option PySem.Str)) part1, .un, .un]) (g_set (k_p_wrong_part_of_chart_LLLL (d := (depths, lanes, tide, harbours)) (a_bor (e_varB (n := 1) rfl) (a_bor (e_varB (n := 2) rfl) (a_bor (e_varB (n := 3) rfl) (a_bor (e_varB (n := 4) rfl) a_nil)))) (.bor (.bor (.bor (.bor .nil)))) (show depths.length ≤ 100 ∧ lanes.length ≤ 66 ∧ tide.length ≤ 100 ∧ harbours.length ≤ 100 from (by walk_at "side")))) fun part1 hpart1 => ?_
  refine r_if (t_B (e_notN (e_var (n := 5) rfl))) (fun hb2 => ?_) (fun hb2 => ?_)
  · try simp only [decide_eq_true_eq, decide_eq_false_iff_not, Bool.and_eq_true, Bool.or_eq_true, Bool.not_eq_true', Bool.not_eq_false', Bool.and_eq_false_iff, Bool.or_eq_false_iff, Int.not_lt, Int.not_le, gt_iff_lt, ge_iff_le] at hb2
    try (simp at hb2; show _)
    refine r_as ?_
    exact r_no (by walk_at "never")
  · try simp only [decide_eq_true_eq, decide_eq_false_iff_not, Bool.and_eq_true, Bool.or_eq_true, Bool.not_eq_true', Bool.not_eq_false', Bool.and_eq_false_iff, Bool.or_eq_false_iff, Int.not_lt, Int.not_le, gt_iff_lt, ge_iff_le] at hb2
    try (simp at hb2; show _)
    refine r_nil ?_
    refine r_bd (Γx := fun depths3 => [.ob a HasC.c_Chart dx (([] : List (PySem.Str × Pv)) ++ ([("depths", pv' (α := (FF.Tu Int)) depths3)] : List (PySem.Str × Pv))), bw (α := (List Int)) depths, bw (α := (List (Int × Int))) lanes, bw (α := (List Int)) tide, bw (α := (List Int)) harbours, pr (α := (Option PySem.Str)) part1, .un, .un]) (g_fld (n := 0) (e_tupB (e_varB (n := 1) rfl)) rfl T.cls_Chart T.na_Chart_depths (by rfl)) fun depths3 hdepths3 => ?_
    refine r_bd (Γx := fun lanes5 => [.ob a HasC.c_Chart dx ((([] : List (PySem.Str × Pv)) ++ ([("depths", pv' (α := (FF.Tu Int)) depths3)] : List (PySem.Str × Pv))) ++ ([("lanes", pv' (α := (FF.Tu (Int × Int))) lanes5)] : List (PySem.Str × Pv))), bw (α := (List Int)) depths, bw (α := (List (Int × Int))) lanes, bw (α := (List Int)) tide, bw (α := (List Int)) harbours, pr (α := (Option PySem.Str)) part1, .un, .un]) (g_fld (n := 0) (e_tup (EN.e (n_srtP (EN.e (n_lc (f := fun (x4 : (Int × Int)) => (p_lower_first x4)) (fun (x4 : (Int × Int)) => [.ob a HasC.c_Chart dx (([] : List (PySem.Str × Pv)) ++ ([("depths", pv' (α := (FF.Tu Int)) depths3)] : List (PySem.Str × Pv))), bw (α := (List Int)) depths, bw (α := (List (Int × Int))) lanes, bw (α := (List Int)) tide, bw (α := (List Int)) harbours, pr (α := (Option PySem.Str)) part1, .un, bw (α := (Int × Int)) x4]) (w_listB (n := 2) rfl) (free_one rfl) (by walk_at "side") (fun _ => tgc_nameB) (fun x4 hx => (k_p_lower_first (d := x4) (a_bor (e_varB (n := 7) rfl) a_nil) (.bor .nil))) (fun _ => (wk_eq (wk_eq (wk_eq (wk_eq (wk_eq (wk_eq (wk_un (wk_un wk_nil)))))))))))))) rfl T.cls_Chart T.na_Chart_lanes (by rfl)) fun lanes5 hlanes5 => ?_
    refine r_bd (Γx := fun tide6 => [.ob a HasC.c_Chart dx (((([] : List (PySem.Str × Pv)) ++ ([("depths", pv' (α := (FF.Tu Int)) depths3)] : List (PySem.Str × Pv))) ++ ([("lanes", pv' (α := (FF.Tu (Int × Int))) lanes5)] : List (PySem.Str × Pv))) ++ ([("tide", pv' (α := (FF.Tu Int)) tide6)] : List (PySem.Str × Pv))), bw (α := (List Int)) depths, bw (α := (List (Int × Int))) lanes, bw (α := (List Int)) tide, bw (α := (List Int)) harbours, pr (α := (Option PySem.Str)) part1, .un, .un]) (g_fld (n := 0) (e_tupB (e_varB (n := 3) rfl)) rfl T.cls_Chart T.na_Chart_tide (by rfl)) fun tide6 htide6 => ?_
    refine r_bd (Γx := fun harbours7 => [.ob a HasC.c_Chart dx ((((([] : List (PySem.Str × Pv)) ++ ([("depths", pv' (α := (FF.Tu Int)) depths3)] : List (PySem.Str × Pv))) ++ ([("lanes", pv' (α := (FF.Tu (Int × Int))) lanes5)] : List (PySem.Str × Pv))) ++ ([("tide", pv' (α := (FF.Tu Int)) tide6)] : List (PySem.Str × Pv))) ++ ([("harbours", pv' (α := (FF.Tu Int)) harbours7)] : List (PySem.Str × Pv))), bw (α := (List Int)) depths, bw (α := (List (Int × Int))) lanes, bw (α := (List Int)) tide, bw (α := (List Int)) harbours, pr (α := (Option PySem.Str)) part1, .un, .un]) (g_fld (n := 0) (e_tup (EN.e (n_srtL (e_varB (n := 4) rfl)))) rfl T.cls_Chart T.na_Chart_harbours (by rfl)) fun harbours7 hharbours7 => ?_
    refine r_bd (Γx := fun size8 => [.ob a HasC.c_Chart dx (((((([] : List (PySem.Str × Pv)) ++ ([("depths", pv' (α := (FF.Tu Int)) depths3)] : List (PySem.Str × Pv))) ++ ([("lanes", pv' (α := (FF.Tu (Int × Int))) lanes5)] : List (PySem.Str × Pv))) ++ ([("tide", pv' (α := (FF.Tu Int)) tide6)] : List (PySem.Str × Pv))) ++ ([("harbours", pv' (α := (FF.Tu Int)) harbours7)] : List (PySem.Str × Pv))) ++ ([("size", pv' (α := Int) size8)] : List (PySem.Str × Pv))), bw (α := (List Int)) depths, bw (α := (List (Int × Int))) lanes, bw (α := (List Int)) tide, bw (α := (List Int)) harbours, pr (α := (Option PySem.Str)) part1, .un, .un]) (g_fld (n := 0) (e_lenT (e_selfF (n := 0) rfl T.cls_Chart T.na_Chart_depths (by rfl))) rfl T.cls_Chart T.na_Chart_size (by rfl)) fun size8 hsize8 => ?_
    refine r_bd (Γx := fun beside10 => [.ob a HasC.c_Chart dx ((((((([] : List (PySem.Str × Pv)) ++ ([("depths", pv' (α := (FF.Tu Int)) depths3)] : List (PySem.Str × Pv))) ++ ([("lanes", pv' (α := (FF.Tu (Int × Int))) lanes5)] : List (PySem.Str × Pv))) ++ ([("tide", pv' (α := (FF.Tu Int)) tide6)] : List (PySem.Str × Pv))) ++ ([("harbours", pv' (α := (FF.Tu Int)) harbours7)] : List (PySem.Str × Pv))) ++ ([("size", pv' (α := Int) size8)] : List (PySem.Str × Pv))) ++ ([("_beside", pv' (α := (FF.Tu (FF.Tu Int))) beside10)] : List (PySem.Str × Pv))), bw (α := (List Int)) depths, bw (α := (List (Int × Int))) lanes, bw (α := (List Int)) tide, bw (α := (List Int)) harbours, pr (α := (Option PySem.Str)) part1, .un, .un]) (g_fld (n := 0) (e_tup (EN.e (n_lc (f := fun (x9 : Int) => (p_places_beside lanes5 x9)) (fun (x9 : Int) => [.ob a HasC.c_Chart dx (((((([] : List (PySem.Str × Pv)) ++ ([("depths", pv' (α := (FF.Tu Int)) depths3)] : List (PySem.Str × Pv))) ++ ([("lanes", pv' (α := (FF.Tu (Int × Int))) lanes5)] : List (PySem.Str × Pv))) ++ ([("tide", pv' (α := (FF.Tu Int)) tide6)] : List (PySem.Str × Pv))) ++ ([("harbours", pv' (α := (FF.Tu Int)) harbours7)] : List (PySem.Str × Pv))) ++ ([("size", pv' (α := Int) size8)] : List (PySem.Str × Pv))), bw (α := (List Int)) depths, bw (α := (List (Int × Int))) lanes, bw (α := (List Int)) tide, bw (α := (List Int)) harbours, pr (α := (Option PySem.Str)) part1, pr (α := Int) x9, .un]) (w_rng1 (a_per (e_selfF (n := 0) rfl T.cls_Chart T.na_Chart_size (by rfl)) a_nil) (by walk_at "side") (by walk_at "side")) (free_one rfl) (by walk_at "side") (fun _ => tgc_name) (fun x9 hx => (k_p_places_beside (d := (lanes5, x9)) (a_per (e_selfF (n := 0) rfl T.cls_Chart T.na_Chart_lanes (by rfl)) (a_per (e_var (n := 6) rfl) a_nil)) (.per (.per .nil)) (show lanes5.l.length ≤ 66 from (by walk_at "side")))) (fun _ => (wk_eq (wk_eq (wk_eq (wk_eq (wk_eq (wk_eq (wk_un (wk_un wk_nil)))))))))))) rfl T.cls_Chart T.na_Chart__beside (by rfl)) fun beside10 hbeside10 => ?_
    exact r_end (fun _ => rfl) (wk_eq wk_nil)
abbrev s_p_Chart_water : Stmt := (inClass (top 18) 1)
abbrev N_p_Chart_water : List Str := ["self", "place", "hour"]
theorem sc_p_Chart_water : FnScope N_p_Chart_water ["self", "place", "hour"] (defScope s_p_Chart_water) := ⟨rfl, rfl, rfl, by decide +kernel, rfl, by decide +kernel, by decide +kernel⟩
abbrev sp_p_Chart_water (K : Kf) : Sp := spF K (ι := Chart × Int × Int) (fun d => [pr (α := Chart) d.1, pr (α := Int) d.2.1, pr (α := Int) d.2.2]) (fun d => 0 ≤ d.2.1 ∧ d.2.1 < d.1.depths.l.length ∧ 0 < d.1.tide.l.length) (fun d => (p_Chart_water d.1 d.2.1 d.2.2)) (fun d => [])
structure T_p_Chart_water (P : Program) (w : World) (K : Kf) (mg : Str → Option Value) (base : Heap) : Prop where
  cls_Chart : Cls K HasC.c_Chart
  na_Chart_depths : NoAttr K HasC.c_Chart "depths"
  na_Chart_tide : NoAttr K HasC.c_Chart "tide"
  b_len : mg "len" = none
theorem ok_p_Chart_water {P : Program} {w : World} {K : Kf} {mg : Str → Option Value} {base : Heap} {fa : Addr} {fd : FuncData} (Fd : Fun K "water" "Chart.water" s_p_Chart_water fa fd) (T : T_p_Chart_water P w K mg base) : FnOk P w K mg base CX0 1 fa fd ["self", "place", "hour"] (sp_p_Chart_water K) := by
  have nd := sc_p_Chart_water.nd
  refine fn_body (ρ := Int) (fun _ => PerR K (fun r => r)) (fun _ _ => []) (fun d => p_Chart_water d.1 d.2.1 d.2.2) Fd sc_p_Chart_water (fun _ => rfl) (fun _ => rfl) (fun _ _ _ _ _ _ h => h) fun cdv AA outer s H EE hr => ?_
  refine ⟨_, (pss_cons (ps_ret (pe_op op_add (pe_ix (show IxR _ (rIxT K) from ix_tup) (show PE _ _ (tFld K _ _) from pe_fld (pv 0) rfl) (pv 1) (fun _ _ => rfl)) (pe_ix (show IxR _ (rIxT K) from ix_tup) (show PE _ _ (tFld K _ _) from pe_fld (pv 0) rfl) (pe_op op_mod (pv 2) (pe_callB (show CallR _ (.builtin "len") (rLen1 K) from cr_len1) (by rfl) T.b_len PySem.boot_len (pa_cons (show PE _ _ (tFld K _ _) from pe_fld (pv 0) rfl) pa_nil))) (fun _ _ => rfl))))
pss_nil), ?_⟩
  rintro ⟨self, place, hour⟩ hp
  have hp : 0 ≤ place ∧ place < self.depths.l.length ∧ 0 < self.tide.l.length := hp
  show R K _ [pr (α := Chart) self, pr (α := Int) place, pr (α := Int) hour] _ _ (p_Chart_water self place hour)
  unfold p_Chart_water
  exact r_ret (e_add (e_ixT (e_fldO (e_var (n := 0) rfl) T.cls_Chart T.na_Chart_depths (by rfl)) (e_var (n := 1) rfl) (by walk_at "side")) (e_ixT (e_fldO (e_var (n := 0) rfl) T.cls_Chart T.na_Chart_tide (by rfl)) (e_mod (e_var (n := 2) rfl) (e_lenT (e_fldO (e_var (n := 0) rfl) T.cls_Chart T.na_Chart_tide (by rfl))) (by walk_at "side")) (by walk_at "side"))) rfl wk_nil
abbrev s_p_tide_gate : Stmt := (top 3)
abbrev N_p_tide_gate : List Str := ["chart", "place", "draught", "last", "hour"]
theorem sc_p_tide_gate : FnScope N_p_tide_gate ["chart", "place", "draught", "last"] (defScope s_p_tide_gate) := ⟨rfl, rfl, rfl, by decide +kernel, rfl, by decide +kernel, by decide +kernel⟩
abbrev sp_p_tide_gate (K : Kf) : Sp := spF K (ι := Chart × Int × Int × Int) (fun d => [pr (α := Chart) d.1, pr (α := Int) d.2.1, pr (α := Int) d.2.2.1, pr (α := Int) d.2.2.2]) (fun d => (0 ≤ d.2.1 ∧ d.2.1 < d.1.depths.l.length) ∧ 0 < d.1.tide.l.length ∧ 0 ≤ d.2.2.2 ∧ d.2.2.2 ≤ 100) (fun d => (p_tide_gate d.1 d.2.1 d.2.2.1 d.2.2.2)) (fun d => [])
theorem kmk_Gate_1_ {K : Kf} {m : Bool} {ta : TA} {Γ Γ1 : List Sl} {as : List Ar} {d : (List Int)} (ha : A K m ta Γ Γ1 as) (hd : ∀ (H0 H : Hp) (σ : St), Prd (arOk K H0 H σ) ([] : List V) ([] : List Ar)) (hm : Mt (as ++ []) [pr (α := (List Int)) d]) (hp : d.length ≤ 1000) : E K m true (tMake HasC.c_Gate (sp_p_Gate___init__ K) [] E0 ta) Γ Γ1 (p_Gate___init__ d) := e_make (fs := fs_Gate) d _ ha hd hm hp rfl
structure T_p_tide_gate (P : Program) (w : World) (K : Kf) (mg : Str → Option Value) (base : Heap) : Prop where
  b_range : mg "range" = none
  m_Chart_water : Mh P w K mg base 1 HasC.c_Chart "water" (sp_p_Chart_water K)
  mk_Gate_1_ : MkP P w K mg base 1 "Gate" HasC.c_Gate [] (sp_p_Gate___init__ K)
theorem ok_p_tide_gate {P : Program} {w : World} {K : Kf} {mg : Str → Option Value} {base : Heap} {fa : Addr} {fd : FuncData} (Fd : Fun K "tide_gate" "tide_gate" s_p_tide_gate fa fd) (T : T_p_tide_gate P w K mg base) : FnOk P w K mg base CX0 3 fa fd ["chart", "place", "draught", "last"] (sp_p_tide_gate K) := by
  have nd := sc_p_tide_gate.nd
  refine fn_body (ρ := Gate) (fun _ => PerR K (fun r => r)) (fun _ _ => []) (fun d => p_tide_gate d.1 d.2.1 d.2.2.1 d.2.2.2) Fd sc_p_tide_gate (fun _ => rfl) (fun _ => rfl) (fun _ _ _ _ _ _ h => h) fun cdv AA outer s H EE hr => ?_
  refine ⟨_, (pss_cons (ps_ret (pe_mkP T.mk_Gate_1_ hr (by decide) (by rfl) (pa_cons (pe_lc (own := [("hour", 4)]) (g := gName 4) (tt := _) rfl nd (pi_range1 rfl T.b_range (pa_cons (pe_op op_add (pv 3) pe_int) pa_nil)) (blkOk_by (N := N_p_tide_gate) (sc := defScope s_p_tide_gate) (by decide +kernel)) (fun _ _ _ _ _ => (pg_name (i := 4) nd rfl (by first | exact Or.inl rfl | exact Or.inr rfl))) (fun _ _ _ _ _ => (pts_one (pt_cmpR op_ge (pe_mh T.m_Chart_water hr (by decide) (pv 0) (pa_cons (pv 1) (pa_cons (pv 4) pa_nil))) (pv 2) (nomark _)))) (fun _ _ _ _ _ => (pv 4))) pa_nil)))
pss_nil), ?_⟩
  rintro ⟨chart, place, draught, last⟩ hp
  have hp : (0 ≤ place ∧ place < chart.depths.l.length) ∧ 0 < chart.tide.l.length ∧ 0 ≤ last ∧ last ≤ 100 := hp
  show R K _ [pr (α := Chart) chart, pr (α := Int) place, pr (α := Int) draught, pr (α := Int) last, .un] _ _ (p_tide_gate chart place draught last)
  unfold p_tide_gate
  exact r_ret (kmk_Gate_1_ (d := (((rng 0 (last + (1 : Int))).filter fun x1 => (decide ((p_Chart_water chart place x1) ≥ draught))).map fun x1 => x1)) (a_per (EN.e (n_lcF (t := fun (x1 : Int) => (decide ((p_Chart_water chart place x1) ≥ draught))) (f := fun (x1 : Int) => x1) (fun (x1 : Int) => [pr (α := Chart) chart, pr (α := Int) place, pr (α := Int) draught, pr (α := Int) last, pr (α := Int) x1]) (w_rng1 (a_per (e_add (e_var (n := 3) rfl) e_int) a_nil) (by walk_at "side") (by walk_at "side")) (free_one rfl) (by walk_at "side") (fun _ => tgc_name) (fun x1 hx => (t_test (e_ge (e_meth (chart, place, x1) (e_var (n := 0) rfl) (by rfl) (a_per (e_var (n := 1) rfl) (a_per (e_var (n := 4) rfl) a_nil)) (.per (.per (.per .nil))) (show 0 ≤ place ∧ place < chart.depths.l.length ∧ 0 < chart.tide.l.length from (by walk_at "side"))) (e_var (n := 2) rfl)))) (fun x1 hx hb => (e_var (n := 4) rfl)) (fun _ => (wk_eq (wk_eq (wk_eq (wk_eq (wk_un wk_nil)))))))) a_nil) (fun H0 H σ => .nil) (.per .nil) (show (((rng 0 (last + (1 : Int))).filter fun x1 => (decide ((p_Chart_water chart place x1) ≥ draught))).map fun x1 => x1).length ≤ 1000 from (by walk_at "side"))) rfl wk_nil
theorem k_p_tide_gate {K : Kf} {m : Bool} {ta : TA} {Γ Γ1 : List Sl} {as : List Ar} {d : Chart × Int × Int × Int} (ha : A K m ta Γ Γ1 as) (hm : Mt as [pr (α := Chart) d.1, pr (α := Int) d.2.1, pr (α := Int) d.2.2.1, pr (α := Int) d.2.2.2]) (hp : (0 ≤ d.2.1 ∧ d.2.1 < d.1.depths.l.length) ∧ 0 < d.1.tide.l.length ∧ 0 ≤ d.2.2.2 ∧ d.2.2.2 ≤ 100) : E K m true (tCall (sp_p_tide_gate K) [] E0 ta) Γ Γ1 (p_tide_gate d.1 d.2.1 d.2.2.1 d.2.2.2) := e_call d ha hm hp
abbrev s_lhand : Stmt := (top 20)
abbrev N_lhand : List Str := ["_law_script", "_law_k", "_law_cell", "_law_rest"]
theorem sc_lhand : FnScope N_lhand ["_law_script", "_law_k"] (defScope s_lhand) := ⟨rfl, rfl, rfl, by decide +kernel, rfl, by decide +kernel, by decide +kernel⟩
abbrev sp_lhand (K : Kf) : Sp := spN K (ι := (FF.Sq Int) × Int) (fun d => [pr (α := (FF.Sq Int)) d.1, pr (α := Int) d.2]) (fun d => 0 ≤ d.2 ∧ d.2 ≤ 100) (fun d => [(lhand d.1 d.2).a, (lhand d.1 d.2).b, (lhand d.1 d.2).c]) (fun d => [])
structure T_lhand (P : Program) (w : World) (K : Kf) (mg : Str → Option Value) (base : Heap) : Prop where
  b_len : mg "len" = none
  b_int : mg "int" = none
theorem ok_lhand {P : Program} {w : World} {K : Kf} {mg : Str → Option Value} {base : Heap} {fa : Addr} {fd : FuncData} (Fd : Fun K "_law_hand" "_law_hand" s_lhand fa fd) (T : T_lhand P w K mg base) : FnOk P w K mg base CX0 1 fa fd ["_law_script", "_law_k"] (sp_lhand K) := by
  have nd := sc_lhand.nd
  refine fn_body (ρ := Hd) (fun d => NewR K (fun r => [r.a, r.b, r.c]) (fun _ => [])) (fun _ _ => []) (fun d => lhand d.1 d.2) Fd sc_lhand (fun _ => rfl) (fun _ => rfl) (fun _ _ _ _ _ _ h => h) fun cdv AA outer s H EE hr => ?_
  refine ⟨_, (pss_cons (ps_set (i := 2) nd rfl (by first | exact Or.inl rfl | exact Or.inr rfl) pe_int)
(pss_cons (ps_if (pt_cmpR op_lt (pv 1) (pe_callB (show CallR _ (.builtin "len") (rLen1 K) from cr_len1) (by rfl) T.b_len PySem.boot_len (pa_cons (pv 0) pa_nil)) (nomark _)) (pss_cons (ps_set (i := 2) nd rfl (by first | exact Or.inl rfl | exact Or.inr rfl) (pe_ix ix_seq (pv 0) (pv 1) (fun _ _ => rfl)))
pss_nil) pss_nil)
(pss_cons (ps_if (pt_cmpR op_lt (pv 2) pe_int (nomark _)) (pss_cons (ps_set (i := 2) nd rfl (by first | exact Or.inl rfl | exact Or.inr rfl) (pe_op op_sub pe_int (pe_op op_mul pe_int (pv 2))))
pss_nil) pss_nil)
(pss_cons (ps_set (i := 3) nd rfl (by first | exact Or.inl rfl | exact Or.inr rfl) pe_int)
(pss_cons (ps_if (pt_cmpR op_ge (pv 2) (pe_op op_pow pe_int pe_int) (nomark _)) (pss_cons (ps_set (i := 3) nd rfl (by first | exact Or.inl rfl | exact Or.inr rfl) (pv 2))
pss_nil) pss_nil)
(pss_cons (ps_ret (pe_lst (pa_cons (pv 3) (pa_cons (pe_op op_mod (pe_callTy cr_int1 (by rfl) T.b_int (by decide +kernel) (pa_cons (pe_op op_add (pe_op op_add (pv 2) (pe_op op_mul pe_int (pv 1))) pe_int) pa_nil)) pe_int) (pa_cons pe_int pa_nil)))))
pss_nil)))))), ?_⟩
  rintro ⟨script, k⟩ hp
  have hp : 0 ≤ k ∧ k ≤ 100 := hp
  show R K _ [pr (α := (FF.Sq Int)) script, pr (α := Int) k, .un, .un] _ _ (lhand script k)
  unfold lhand
  refine r_bd (Γx := fun cell1 => [pr (α := (FF.Sq Int)) script, pr (α := Int) k, pr (α := Int) cell1, .un]) (g_set e_int) fun cell1 hcell1 => ?_
  refine r_bdI (Iv := fun _ => True) (Γx := (fun j2 : Int => [pr (α := (FF.Sq Int)) script, pr (α := Int) k, pr (α := Int) j2, .un])) (g_if (fun j2 : Int => [pr (α := (FF.Sq Int)) script, pr (α := Int) k, pr (α := Int) j2, .un]) (fun _ => True) (t_test (e_lt (e_var (n := 1) rfl) (e_lenS (e_var (n := 0) rfl)))) (fun hb11 => ?_) (fun hb11 => ?_)) fun j2 hj2 _ => ?_
  · try simp only [decide_eq_true_eq, decide_eq_false_iff_not, Bool.and_eq_true, Bool.or_eq_true, Bool.not_eq_true', Bool.not_eq_false', Bool.and_eq_false_iff, Bool.or_eq_false_iff, Int.not_lt, Int.not_le, gt_iff_lt, ge_iff_le] at hb11
    try (simp at hb11; show _)
    refine g_bd (Γx := fun cell3 => [pr (α := (FF.Sq Int)) script, pr (α := Int) k, pr (α := Int) cell3, .un]) (g_set (e_ixS (e_var (n := 0) rfl) (e_var (n := 1) rfl) (by walk_at "side"))) fun cell3 hcell3 => ?_
    exact gp_wk (wk_eq (wk_eq (wk_eq (wk_un wk_nil)))) trivial
  · try simp only [decide_eq_true_eq, decide_eq_false_iff_not, Bool.and_eq_true, Bool.or_eq_true, Bool.not_eq_true', Bool.not_eq_false', Bool.and_eq_false_iff, Bool.or_eq_false_iff, Int.not_lt, Int.not_le, gt_iff_lt, ge_iff_le] at hb11
    try (simp at hb11; show _)
    exact gp_wk (wk_eq (wk_eq (wk_eq (wk_un wk_nil)))) trivial
  refine r_bdI (Iv := fun _ => True) (Γx := (fun j4 : Int => [pr (α := (FF.Sq Int)) script, pr (α := Int) k, pr (α := Int) j4, .un])) (g_if (fun j4 : Int => [pr (α := (FF.Sq Int)) script, pr (α := Int) k, pr (α := Int) j4, .un]) (fun _ => True) (t_test (e_lt (e_var (n := 2) rfl) e_int)) (fun hb10 => ?_) (fun hb10 => ?_)) fun j4 hj4 _ => ?_
  · try simp only [decide_eq_true_eq, decide_eq_false_iff_not, Bool.and_eq_true, Bool.or_eq_true, Bool.not_eq_true', Bool.not_eq_false', Bool.and_eq_false_iff, Bool.or_eq_false_iff, Int.not_lt, Int.not_le, gt_iff_lt, ge_iff_le] at hb10
    try (simp at hb10; show _)
    refine g_bd (Γx := fun cell5 => [pr (α := (FF.Sq Int)) script, pr (α := Int) k, pr (α := Int) cell5, .un]) (g_set (e_sub e_int (e_mul e_int (e_var (n := 2) rfl) (by walk_at "side")))) fun cell5 hcell5 => ?_
    exact gp_wk (wk_eq (wk_eq (wk_eq (wk_un wk_nil)))) trivial
  · try simp only [decide_eq_true_eq, decide_eq_false_iff_not, Bool.and_eq_true, Bool.or_eq_true, Bool.not_eq_true', Bool.not_eq_false', Bool.and_eq_false_iff, Bool.or_eq_false_iff, Int.not_lt, Int.not_le, gt_iff_lt, ge_iff_le] at hb10
    try (simp at hb10; show _)
    exact gp_wk (wk_eq (wk_eq (wk_eq (wk_un wk_nil)))) trivial
  refine r_bd (Γx := fun rest6 => [pr (α := (FF.Sq Int)) script, pr (α := Int) k, pr (α := Int) j4, pr (α := Int) rest6]) (g_set e_int) fun rest6 hrest6 => ?_
  refine r_bdI (Iv := fun _ => True) (Γx := (fun j7 : Int => [pr (α := (FF.Sq Int)) script, pr (α := Int) k, pr (α := Int) j4, pr (α := Int) j7])) (g_if (fun j7 : Int => [pr (α := (FF.Sq Int)) script, pr (α := Int) k, pr (α := Int) j4, pr (α := Int) j7]) (fun _ => True) (t_test (e_ge (e_var (n := 2) rfl) (e_pow e_int e_int (by decide)))) (fun hb9 => ?_) (fun hb9 => ?_)) fun j7 hj7 _ => ?_
  · try simp only [decide_eq_true_eq, decide_eq_false_iff_not, Bool.and_eq_true, Bool.or_eq_true, Bool.not_eq_true', Bool.not_eq_false', Bool.and_eq_false_iff, Bool.or_eq_false_iff, Int.not_lt, Int.not_le, gt_iff_lt, ge_iff_le] at hb9
    try (simp at hb9; show _)
    refine g_bd (Γx := fun rest8 => [pr (α := (FF.Sq Int)) script, pr (α := Int) k, pr (α := Int) j4, pr (α := Int) rest8]) (g_set (e_var (n := 2) rfl)) fun rest8 hrest8 => ?_
    exact gp_wk (wk_eq (wk_eq (wk_eq (wk_eq wk_nil)))) trivial
  · try simp only [decide_eq_true_eq, decide_eq_false_iff_not, Bool.and_eq_true, Bool.or_eq_true, Bool.not_eq_true', Bool.not_eq_false', Bool.and_eq_false_iff, Bool.or_eq_false_iff, Int.not_lt, Int.not_le, gt_iff_lt, ge_iff_le] at hb9
    try (simp at hb9; show _)
    exact gp_wk (wk_eq (wk_eq (wk_eq (wk_eq wk_nil)))) trivial
  exact r_retN (n_lst (a_per (e_var (n := 3) rfl) (a_per (e_mod (e_toInt (e_add (e_add (e_var (n := 2) rfl) (e_mul e_int (e_var (n := 1) rfl) (by walk_at "side"))) e_int)) e_int (by walk_at "side")) (a_per e_int a_nil))) (.cons _ (.cons _ (.cons _ .nil)))) rfl wk_nil
theorem k_lhand {K : Kf} {m : Bool} {ta : TA} {Γ Γ1 : List Sl} {as : List Ar} {d : (FF.Sq Int) × Int} (ha : A K m ta Γ Γ1 as) (hm : Mt as [pr (α := (FF.Sq Int)) d.1, pr (α := Int) d.2]) (hp : 0 ≤ d.2 ∧ d.2 ≤ 100) : EN K m (tCall (sp_lhand K) [] E0 ta) Γ Γ1 [(lhand d.1 d.2).a, (lhand d.1 d.2).b, (lhand d.1 d.2).c] := n_call d ha hm hp
abbrev s_lpick : Stmt := (top 21)
abbrev N_lpick : List Str := ["_law_hand_here", "_law_size", "_law_mixed", "_law_digit"]
theorem sc_lpick : FnScope N_lpick ["_law_hand_here", "_law_size"] (defScope s_lpick) := ⟨rfl, rfl, rfl, by decide +kernel, rfl, by decide +kernel, by decide +kernel⟩
abbrev sp_lpick (K : Kf) : Sp := spF K (ι := Addr × Hd × Int) (fun d => [owp (α := Int) d.1 [d.2.1.a, d.2.1.b, d.2.1.c], pr (α := Int) d.2.2]) (fun d => d.2.2 ≤ 10 ^ 40) (fun d => (lpick d.2.1 d.2.2).1) (fun d => [owp (α := Int) d.1 [(lpick d.2.1 d.2.2).2.a, (lpick d.2.1 d.2.2).2.b, (lpick d.2.1 d.2.2).2.c]])
structure T_lpick (P : Program) (w : World) (K : Kf) (mg : Str → Option Value) (base : Heap) : Prop where
  b_int : mg "int" = none
theorem ok_lpick {P : Program} {w : World} {K : Kf} {mg : Str → Option Value} {base : Heap} {fa : Addr} {fd : FuncData} (Fd : Fun K "_law_pick" "_law_pick" s_lpick fa fd) (T : T_lpick P w K mg base) : FnOk P w K mg base CX0 1 fa fd ["_law_hand_here", "_law_size"] (sp_lpick K) := by
  have nd := sc_lpick.nd
  refine fn_body (ρ := Int × Hd) (fun _ => PerR K (fun r => r.1)) (fun d r => [owp (α := Int) d.1 [r.2.a, r.2.b, r.2.c]]) (fun d => lpick d.2.1 d.2.2) Fd sc_lpick (fun _ => rfl) (fun _ => rfl) (fun _ _ _ _ _ _ h => h) fun cdv AA outer s H EE hr => ?_
  refine ⟨_, (pss_cons (ps_if (pt_cmpR op_lt (pv 1) pe_int (nomark _)) (pss_cons (ps_ret pe_int)
pss_nil) pss_nil)
(pss_cons (ps_if (pt_cmpR op_gt (pe_ix (show IxR _ (rIxL K) from ix_list) (pv 0) pe_int (fun _ _ => rfl)) pe_int (nomark _)) (pss_cons (ps_set (i := 3) nd rfl (by first | exact Or.inl rfl | exact Or.inr rfl) (pe_op op_mod (pe_callTy cr_int1 (by rfl) T.b_int (by decide +kernel) (pa_cons (pe_ix (show IxR _ (rIxL K) from ix_list) (pv 0) pe_int (fun _ _ => rfl)) pa_nil)) (pv 1)))
(pss_cons (ps_asg (pe_op op_fdivW (pe_ix (show IxR _ (rIxL K) from ix_list) (pv 0) pe_int (fun _ _ => rfl)) (pv 1)) (pg_sub (pv 0) pe_int set_list))
(pss_cons (ps_ret (pv 3))
pss_nil))) pss_nil)
(pss_cons (ps_asg (pe_op op_add (pe_ix (show IxR _ (rIxL K) from ix_list) (pv 0) pe_int (fun _ _ => rfl)) pe_int) (pg_sub (pv 0) pe_int set_list))
(pss_cons (ps_set (i := 2) nd rfl (by first | exact Or.inl rfl | exact Or.inr rfl) (pe_op op_mod (pe_callTy cr_int1 (by rfl) T.b_int (by decide +kernel) (pa_cons (pe_op op_add (pe_op op_add (pe_ix (show IxR _ (rIxL K) from ix_list) (pv 0) pe_int (fun _ _ => rfl)) (pe_op op_mul pe_int (pe_ix (show IxR _ (rIxL K) from ix_list) (pv 0) pe_int (fun _ _ => rfl)))) pe_int) pa_nil)) pe_int))
(pss_cons (ps_set (i := 2) nd rfl (by first | exact Or.inl rfl | exact Or.inr rfl) (pe_op op_mod (pe_callTy cr_int1 (by rfl) T.b_int (by decide +kernel) (pa_cons (pe_op op_mul (pv 2) (pe_op op_add (pv 2) pe_int)) pa_nil)) pe_int))
(pss_cons (ps_set (i := 2) nd rfl (by first | exact Or.inl rfl | exact Or.inr rfl) (pe_op op_mod (pe_callTy cr_int1 (by rfl) T.b_int (by decide +kernel) (pa_cons (pe_op op_add (pe_op op_mul (pv 2) (pe_op op_add (pv 2) pe_int)) (pe_op op_mul pe_int (pe_ix (show IxR _ (rIxL K) from ix_list) (pv 0) pe_int (fun _ _ => rfl)))) pa_nil)) pe_int))
(pss_cons (ps_ret (pe_op op_mod (pe_callTy cr_int1 (by rfl) T.b_int (by decide +kernel) (pa_cons (pe_op op_fdivW (pv 2) pe_int) pa_nil)) (pv 1)))
pss_nil))))))), ?_⟩
  rintro ⟨p, hand, size⟩ hp
  have hp : size ≤ 10 ^ 40 := hp
  show R K _ [owp (α := Int) p [hand.a, hand.b, hand.c], pr (α := Int) size, .un, .un] _ _ (lpick hand size)
  unfold lpick
  refine r_if (t_test (e_lt (e_var (n := 1) rfl) e_int)) (fun hb1 => ?_) (fun hb1 => ?_)
  · try simp only [decide_eq_true_eq, decide_eq_false_iff_not, Bool.and_eq_true, Bool.or_eq_true, Bool.not_eq_true', Bool.not_eq_false', Bool.and_eq_false_iff, Bool.or_eq_false_iff, Int.not_lt, Int.not_le, gt_iff_lt, ge_iff_le] at hb1
    try (simp at hb1; show _)
    refine r_as ?_
    exact r_ret e_int rfl (wk_eq wk_nil)
  · try simp only [decide_eq_true_eq, decide_eq_false_iff_not, Bool.and_eq_true, Bool.or_eq_true, Bool.not_eq_true', Bool.not_eq_false', Bool.and_eq_false_iff, Bool.or_eq_false_iff, Int.not_lt, Int.not_le, gt_iff_lt, ge_iff_le] at hb1
    try (simp at hb1; show _)
    refine r_nil ?_
    refine r_if (t_test (e_gt (e_hd0 (n := 0) rfl) e_int)) (fun hb2 => ?_) (fun hb2 => ?_)
    · try simp only [decide_eq_true_eq, decide_eq_false_iff_not, Bool.and_eq_true, Bool.or_eq_true, Bool.not_eq_true', Bool.not_eq_false', Bool.and_eq_false_iff, Bool.or_eq_false_iff, Int.not_lt, Int.not_le, gt_iff_lt, ge_iff_le] at hb2
      try (simp at hb2; show _)
      refine r_as ?_
      refine r_bd (Γx := fun digit3 => [owp (α := Int) p [hand.a, hand.b, hand.c], pr (α := Int) size, .un, pr (α := Int) digit3]) (g_set (e_mod (e_toInt (e_hd0 (n := 0) rfl)) (e_var (n := 1) rfl) (by walk_at "side"))) fun digit3 hdigit3 => ?_
      refine r_as ?_
      refine r_bd (Γx := fun y4 => [owp (α := Int) p [(⟨y4, hand.b, hand.c⟩ : Hd).a, (⟨y4, hand.b, hand.c⟩ : Hd).b, (⟨y4, hand.b, hand.c⟩ : Hd).c], pr (α := Int) size, .un, pr (α := Int) digit3]) (g_hd0 (n := 0) (e_div (e_hd0 (n := 0) rfl) (e_var (n := 1) rfl) (by walk_at "side")) rfl) fun y4 hy4 => ?_
      refine r_as ?_
      exact r_ret (e_var (n := 3) rfl) rfl (wk_eq wk_nil)
    · try simp only [decide_eq_true_eq, decide_eq_false_iff_not, Bool.and_eq_true, Bool.or_eq_true, Bool.not_eq_true', Bool.not_eq_false', Bool.and_eq_false_iff, Bool.or_eq_false_iff, Int.not_lt, Int.not_le, gt_iff_lt, ge_iff_le] at hb2
      try (simp at hb2; show _)
      refine r_nil ?_
      refine r_bd (Γx := fun y5 => [owp (α := Int) p [(⟨hand.a, hand.b, y5⟩ : Hd).a, (⟨hand.a, hand.b, y5⟩ : Hd).b, (⟨hand.a, hand.b, y5⟩ : Hd).c], pr (α := Int) size, .un, .un]) (g_hd2 (n := 0) (e_add (e_hd2 (n := 0) rfl) e_int) rfl) fun y5 hy5 => ?_
      refine r_bd (Γx := fun mixed6 => [owp (α := Int) p [(⟨hand.a, hand.b, y5⟩ : Hd).a, (⟨hand.a, hand.b, y5⟩ : Hd).b, (⟨hand.a, hand.b, y5⟩ : Hd).c], pr (α := Int) size, pr (α := Int) mixed6, .un]) (g_set (e_mod (e_toInt (e_add (e_add (e_hd1 (n := 0) rfl) (e_mul e_int (e_hd2 (n := 0) rfl) (by walk_at "side"))) e_int)) e_int (by walk_at "side"))) fun mixed6 hmixed6 => ?_
      refine r_bd (Γx := fun mixed7 => [owp (α := Int) p [(⟨hand.a, hand.b, y5⟩ : Hd).a, (⟨hand.a, hand.b, y5⟩ : Hd).b, (⟨hand.a, hand.b, y5⟩ : Hd).c], pr (α := Int) size, pr (α := Int) mixed7, .un]) (g_set (e_mod (e_toInt (e_mul (e_var (n := 2) rfl) (e_add (e_var (n := 2) rfl) e_int) (by walk_at "side"))) e_int (by walk_at "side"))) fun mixed7 hmixed7 => ?_
      refine r_bd (Γx := fun mixed8 => [owp (α := Int) p [(⟨hand.a, hand.b, y5⟩ : Hd).a, (⟨hand.a, hand.b, y5⟩ : Hd).b, (⟨hand.a, hand.b, y5⟩ : Hd).c], pr (α := Int) size, pr (α := Int) mixed8, .un]) (g_set (e_mod (e_toInt (e_add (e_mul (e_var (n := 2) rfl) (e_add (e_var (n := 2) rfl) e_int) (by walk_at "side")) (e_mul e_int (e_hd2 (n := 0) rfl) (by walk_at "side")))) e_int (by walk_at "side"))) fun mixed8 hmixed8 => ?_
      exact r_ret (e_mod (e_toInt (e_div (e_var (n := 2) rfl) e_int (by walk_at "side"))) (e_var (n := 1) rfl) (by walk_at "side")) rfl (wk_eq wk_nil)
theorem k_lpick {K : Kf} {m : Bool} {ta : TA} {Γ Γ1 : List Sl} {n : Nat} {a : Option Addr} {x0 : Hd} {x1 : Int} {r : Int × Hd} (hr : r = lpick x0 x1) (ha : A K m ta Γ Γ1 [.slot n, ap x1]) (hn : Γ1[n]? = some (.own (inferInstance : Rp Int) a [x0.a, x0.b, x0.c])) (hp : x1 ≤ 10 ^ 40) : E K true true (tCall (sp_lpick K) [] E0 ta) Γ (Γ1.set n (.own (inferInstance : Rp Int) a [r.2.a, r.2.b, r.2.c])) r.1 := by
  subst hr
  exact e_callM (fun p => (p, x0, x1)) ha hn (fun _ => (.here (.per .nil))) (fun _ => hp) 0 (fun _ => rfl) (fun _ => rfl)
theorem kn_lpick {K : Kf} {m m2 : Bool} {te : TE} {ta : TA} {Γ Γ1 Γ2 : List Sl} {x0 : Hd} {x1 : Int} {r : Int × Hd} (hr : r = lpick x0 x1) (h : EN K m te Γ Γ1 [x0.a, x0.b, x0.c]) (ha : A K m2 ta Γ1 Γ2 [ap x1]) (hp : x1 ≤ 10 ^ 40) : E K true true (tCall (sp_lpick K) [] E0 (tCons te ta)) Γ Γ2 r.1 := by
  subst hr
  exact e_callN (fun p => (p, x0, x1)) h ha [pr (α := Int) x1] (fun _ => rfl) (.per .nil) (fun _ => hp) (fun _ => rfl)
abbrev s_lint : Stmt := (top 22)
abbrev N_lint : List Str := ["_law_x"]
theorem sc_lint : FnScope N_lint ["_law_x"] (defScope s_lint) := ⟨rfl, rfl, rfl, by decide +kernel, rfl, by decide +kernel, by decide +kernel⟩
abbrev sp_lint (K : Kf) : Sp := spF K (ι := Int) (fun d => [pr (α := Int) d]) (fun d => True) (fun d => (lint d)) (fun d => [])
structure T_lint (P : Program) (w : World) (K : Kf) (mg : Str → Option Value) (base : Heap) : Prop where
  b_isinstance : mg "isinstance" = none
  b_int : mg "int" = none
  b_bool : mg "bool" = none
theorem ok_lint {P : Program} {w : World} {K : Kf} {mg : Str → Option Value} {base : Heap} {fa : Addr} {fd : FuncData} (Fd : Fun K "_law_int" "_law_int" s_lint fa fd) (T : T_lint P w K mg base) : FnOk P w K mg base CX0 1 fa fd ["_law_x"] (sp_lint K) := by
  have nd := sc_lint.nd
  refine fn_body (ρ := Bool) (fun _ => PerR K (fun r => r)) (fun _ _ => []) (fun d => lint d) Fd sc_lint (fun _ => rfl) (fun _ => rfl) (fun _ _ _ _ _ _ h => h) fun cdv AA outer s H EE hr => ?_
  refine ⟨_, (pss_cons (ps_ret (pe_and (pe_callB (show CallR _ (.builtin "isinstance") (rIsi K) from call_isi) (by rfl) T.b_isinstance (by decide +kernel) (pa_cons (pv 0) (pa_cons (pe_bltn (v := .ty "int") (u := .type "int") (by rfl) T.b_int (by decide +kernel) rfl) pa_nil))) (pe_one (pe_not (pe_callB (show CallR _ (.builtin "isinstance") (rIsi K) from call_isi) (by rfl) T.b_isinstance (by decide +kernel) (pa_cons (pv 0) (pa_cons (pe_bltn (v := .ty "bool") (u := .type "bool") (by rfl) T.b_bool (by decide +kernel) rfl) pa_nil)))))))
pss_nil), ?_⟩
  intro x hp
  show R K _ [pr (α := Int) x] _ _ (lint x)
  unfold lint
  exact r_ret (e_and (e_isi (α := Int) (b := true) (e_var (n := 0) rfl) (by decide +kernel)) fun hb =>  (e_not (e_isi (α := Int) (b := false) (e_var (n := 0) rfl) (by decide +kernel)))) rfl wk_nil
theorem k_lint {K : Kf} {m : Bool} {ta : TA} {Γ Γ1 : List Sl} {as : List Ar} {d : Int} (ha : A K m ta Γ Γ1 as) (hm : Mt as [pr (α := Int) d]) : E K m true (tCall (sp_lint K) [] E0 ta) Γ Γ1 (lint d) := e_call d ha hm trivial
abbrev s_lsome : Stmt := (top 23)
abbrev N_lsome : List Str := ["_law_hand_here", "_law_size", "_law_share", "_law_zone", "_law_place"]
theorem sc_lsome : FnScope N_lsome ["_law_hand_here", "_law_size", "_law_share"] (defScope s_lsome) := ⟨rfl, rfl, rfl, by decide +kernel, rfl, by decide +kernel, by decide +kernel⟩
abbrev sp_lsome (K : Kf) : Sp := spF K (ι := Addr × Hd × Int × Int) (fun d => [owp (α := Int) d.1 [d.2.1.a, d.2.1.b, d.2.1.c], pr (α := Int) d.2.2.1, pr (α := Int) d.2.2.2]) (fun d => 0 ≤ d.2.2.1 ∧ d.2.2.1 ≤ 100 ∧ d.2.2.2 ≤ 100) (fun d => (lsome d.2.1 d.2.2.1 d.2.2.2).1) (fun d => [owp (α := Int) d.1 [(lsome d.2.1 d.2.2.1 d.2.2.2).2.a, (lsome d.2.1 d.2.2.1 d.2.2.2).2.b, (lsome d.2.1 d.2.2.1 d.2.2.2).2.c]])
structure T_lsome (P : Program) (w : World) (K : Kf) (mg : Str → Option Value) (base : Heap) : Prop where
  b_range : mg "range" = none
  c__law_pick : Cl P w K mg base 1 "_law_pick" (sp_lpick K)
theorem ok_lsome {P : Program} {w : World} {K : Kf} {mg : Str → Option Value} {base : Heap} {fa : Addr} {fd : FuncData} (Fd : Fun K "_law_some" "_law_some" s_lsome fa fd) (T : T_lsome P w K mg base) : FnOk P w K mg base CX0 2 fa fd ["_law_hand_here", "_law_size", "_law_share"] (sp_lsome K) := by
  have nd := sc_lsome.nd
  refine fn_body (ρ := (List Int) × Hd) (fun _ => PerR K (fun r => r.1)) (fun d r => [owp (α := Int) d.1 [r.2.a, r.2.b, r.2.c]]) (fun d => lsome d.2.1 d.2.2.1 d.2.2.2) Fd sc_lsome (fun _ => rfl) (fun _ => rfl) (fun _ _ _ _ _ _ h => h) fun cdv AA outer s H EE hr => ?_
  refine ⟨_, (pss_cons (ps_set (i := 3) nd rfl (by first | exact Or.inl rfl | exact Or.inr rfl) (pe_lst pa_nil))
(pss_cons (ps_for PassesOwn.never rfl (pi_range1 rfl T.b_range (pa_cons (pv 1) pa_nil)) (pg_name (i := 4) nd rfl (by first | exact Or.inl rfl | exact Or.inr rfl)) (pss_cons (ps_if (pt_cmpR op_eq (pe_cl T.c__law_pick hr (by decide) (by rfl) (pa_cons (pv 0) (pa_cons (pv 2) pa_nil))) pe_int (nomark _)) (pss_cons (ps_expr (pe_bm PySem.F.plainAttrs_list PySem.F.slot_list_append PySem.F.type_list_append mt_append (pv 3) (pa_cons (pv 4) pa_nil)))
pss_nil) pss_nil)
pss_nil))
(pss_cons (ps_ret (pv 3))
pss_nil))), ?_⟩
  rintro ⟨p, hand, size, shareV⟩ hp
  have hp : 0 ≤ size ∧ size ≤ 100 ∧ shareV ≤ 100 := hp
  show R K _ [owp (α := Int) p [hand.a, hand.b, hand.c], pr (α := Int) size, pr (α := Int) shareV, .un, .un] _ _ (lsome hand size shareV)
  unfold lsome
  refine r_bd (Γx := fun zone1 => [owp (α := Int) p [hand.a, hand.b, hand.c], pr (α := Int) size, pr (α := Int) shareV, ow (α := Int) zone1, .un]) (g_setN (n_lst a_nil .nil)) fun zone1 hzone1 => ?_
  refine r_bdI (Γx := (fun s3 : Hd × (List Int) => [owp (α := Int) p [s3.1.a, s3.1.b, s3.1.c], pr (α := Int) size, pr (α := Int) shareV, ow (α := Int) s3.2, .un])) (Iv := fun e4 : Hd × (List Int) => e4.2.length ≤ (rng 0 size).length) (g_for (fun s3 : Hd × (List Int) => [owp (α := Int) p [s3.1.a, s3.1.b, s3.1.c], pr (α := Int) size, pr (α := Int) shareV, ow (α := Int) s3.2, .un]) (fun (s3 : Hd × (List Int)) (x2 : Int) => [owp (α := Int) p [s3.1.a, s3.1.b, s3.1.c], pr (α := Int) size, pr (α := Int) shareV, ow (α := Int) s3.2, pr (α := Int) x2]) (fun (n : Nat) (s3 : Hd × (List Int)) => s3.2.length ≤ n) (w_rng1 (a_per (e_var (n := 1) rfl) a_nil) (by walk_at "side") (by walk_at "side")) ?_ ?_ ?_ ?_) fun e4 he4 hve4 => ?_
  · exact (wk_eq (wk_eq (wk_eq (wk_eq (wk_un wk_nil)))))
  · exact (by walk_at "side")
  · intro _ _; exact tg_name
  · intro n1 s3 x2 hx1 hi1
    have hr1 := rng_at hx1
    refine g_let fun r5 hr5 => ?_
    have fr5 := pick_fact s3.1 shareV
    rw [← hr5] at fr5
    try replace fr5 := fr5.2 (by omega)
    refine g_bdI (Iv := fun _ => True) (Γx := (fun j6 : (List Int) => [owp (α := Int) p [r5.2.a, r5.2.b, r5.2.c], pr (α := Int) size, pr (α := Int) shareV, ow (α := Int) j6, pr (α := Int) x2])) (g_if (fun j6 : (List Int) => [owp (α := Int) p [r5.2.a, r5.2.b, r5.2.c], pr (α := Int) size, pr (α := Int) shareV, ow (α := Int) j6, pr (α := Int) x2]) (fun _ => True) (t_test (e_eq (k_lpick hr5 (a_slot (n := 0) rfl (a_per (e_var (n := 2) rfl) a_nil)) rfl (show shareV ≤ 10 ^ 40 from (by walk_at "side"))) e_int)) (fun hb8 => ?_) (fun hb8 => ?_)) fun j6 hj6 _ => ?_
    · try simp only [decide_eq_true_eq, decide_eq_false_iff_not, Bool.and_eq_true, Bool.or_eq_true, Bool.not_eq_true', Bool.not_eq_false', Bool.and_eq_false_iff, Bool.or_eq_false_iff, Int.not_lt, Int.not_le, gt_iff_lt, ge_iff_le] at hb8
      try (simp at hb8; show _)
      refine g_bd (Γx := fun zone7 => [owp (α := Int) p [r5.2.a, r5.2.b, r5.2.c], pr (α := Int) size, pr (α := Int) shareV, ow (α := Int) zone7, pr (α := Int) x2]) (g_app (n := 3) rfl (e_var (n := 4) rfl) rfl (by walk_at "side")) fun zone7 hzone7 => ?_
      exact gp_wk (wk_eq (wk_eq (wk_eq (wk_eq (wk_eq wk_nil))))) trivial
    · try simp only [decide_eq_true_eq, decide_eq_false_iff_not, Bool.and_eq_true, Bool.or_eq_true, Bool.not_eq_true', Bool.not_eq_false', Bool.and_eq_false_iff, Bool.or_eq_false_iff, Int.not_lt, Int.not_le, gt_iff_lt, ge_iff_le] at hb8
      try (simp at hb8; show _)
      exact gp_wk (wk_eq (wk_eq (wk_eq (wk_eq (wk_eq wk_nil))))) trivial
    exact gp_wk (wk_eq (wk_eq (wk_eq (wk_eq (wk_un wk_nil))))) (by walk_at "step")
  try simp only [rng_len] at hve4
  exact r_ret (e_frz (n := 3) rfl) rfl (wk_eq wk_nil)
theorem k_lsome {K : Kf} {m : Bool} {ta : TA} {Γ Γ1 : List Sl} {n : Nat} {a : Option Addr} {x0 : Hd} {x1 : Int} {x2 : Int} {r : (List Int) × Hd} (hr : r = lsome x0 x1 x2) (ha : A K m ta Γ Γ1 [.slot n, ap x1, ap x2]) (hn : Γ1[n]? = some (.own (inferInstance : Rp Int) a [x0.a, x0.b, x0.c])) (hp : 0 ≤ x1 ∧ x1 ≤ 100 ∧ x2 ≤ 100) : E K true true (tCall (sp_lsome K) [] E0 ta) Γ (Γ1.set n (.own (inferInstance : Rp Int) a [r.2.a, r.2.b, r.2.c])) r.1 := by
  subst hr
  exact e_callM (fun p => (p, x0, x1, x2)) ha hn (fun _ => (.here (.per (.per .nil)))) (fun _ => hp) 0 (fun _ => rfl) (fun _ => rfl)
theorem kn_lsome {K : Kf} {m m2 : Bool} {te : TE} {ta : TA} {Γ Γ1 Γ2 : List Sl} {x0 : Hd} {x1 : Int} {x2 : Int} {r : (List Int) × Hd} (hr : r = lsome x0 x1 x2) (h : EN K m te Γ Γ1 [x0.a, x0.b, x0.c]) (ha : A K m2 ta Γ1 Γ2 [ap x1, ap x2]) (hp : 0 ≤ x1 ∧ x1 ≤ 100 ∧ x2 ≤ 100) : E K true true (tCall (sp_lsome K) [] E0 (tCons te ta)) Γ Γ2 r.1 := by
  subst hr
  exact e_callN (fun p => (p, x0, x1, x2)) h ha [pr (α := Int) x1, pr (α := Int) x2] (fun _ => rfl) (.per (.per .nil)) (fun _ => hp) (fun _ => rfl)
abbrev s_lsea : Stmt := (top 24)
abbrev N_lsea : List Str := ["_law_hand_here", "_law_most", "_law_size", "_law_span", "_law_swell", "_law_deeps", "_law_joins", "_law_b", "_law_flows", "_law_turn", "_law_a"]
theorem sc_lsea : FnScope N_lsea ["_law_hand_here", "_law_most"] (defScope s_lsea) := ⟨rfl, rfl, rfl, by decide +kernel, rfl, by decide +kernel, by decide +kernel⟩
abbrev sp_lsea (K : Kf) : Sp := spF K (ι := Addr × Hd × Int) (fun d => [owp (α := Int) d.1 [d.2.1.a, d.2.1.b, d.2.1.c], pr (α := Int) d.2.2]) (fun d => 0 ≤ d.2.2 ∧ d.2.2 ≤ 12) (fun d => (lsea d.2.1 d.2.2).1) (fun d => [owp (α := Int) d.1 [(lsea d.2.1 d.2.2).2.a, (lsea d.2.1 d.2.2).2.b, (lsea d.2.1 d.2.2).2.c]])
structure T_lsea (P : Program) (w : World) (K : Kf) (mg : Str → Option Value) (base : Heap) : Prop where
  c__law_pick : Cl P w K mg base 1 "_law_pick" (sp_lpick K)
  b_range : mg "range" = none
  c__law_some : Cl P w K mg base 2 "_law_some" (sp_lsome K)
theorem ok_lsea {P : Program} {w : World} {K : Kf} {mg : Str → Option Value} {base : Heap} {fa : Addr} {fd : FuncData} (Fd : Fun K "_law_sea" "_law_sea" s_lsea fa fd) (T : T_lsea P w K mg base) : FnOk P w K mg base CX0 3 fa fd ["_law_hand_here", "_law_most"] (sp_lsea K) := by
  have nd := sc_lsea.nd
  refine fn_body (ρ := (FF.T4 (List Int) (List (Int × Int)) (List Int) (List Int)) × Hd) (fun _ => PerR K (fun r => r.1)) (fun d r => [owp (α := Int) d.1 [r.2.a, r.2.b, r.2.c]]) (fun d => lsea d.2.1 d.2.2) Fd sc_lsea (fun _ => rfl) (fun _ => rfl) (fun _ _ _ _ _ _ h => h) fun cdv AA outer s H EE hr => ?_
  refine ⟨_, (pss_cons (ps_set (i := 2) nd rfl (by first | exact Or.inl rfl | exact Or.inr rfl) (pe_op op_add pe_int (pe_cl T.c__law_pick hr (by decide) (by rfl) (pa_cons (pv 0) (pa_cons (pv 1) pa_nil)))))
(pss_cons (ps_set (i := 3) nd rfl (by first | exact Or.inl rfl | exact Or.inr rfl) (pe_ix (show IxR _ (rIxL K) from ix_list) (pe_lst (pa_cons pe_int (pa_cons pe_int (pa_cons pe_int pa_nil)))) (pe_cl T.c__law_pick hr (by decide) (by rfl) (pa_cons (pv 0) (pa_cons pe_int pa_nil))) (fun _ _ => rfl)))
(pss_cons (ps_set (i := 4) nd rfl (by first | exact Or.inl rfl | exact Or.inr rfl) (pe_ix (show IxR _ (rIxL K) from ix_list) (pe_lst (pa_cons pe_int (pa_cons pe_int (pa_cons pe_int pa_nil)))) (pe_cl T.c__law_pick hr (by decide) (by rfl) (pa_cons (pv 0) (pa_cons pe_int pa_nil))) (fun _ _ => rfl)))
(pss_cons (ps_set (i := 5) nd rfl (by first | exact Or.inl rfl | exact Or.inr rfl) (pe_lst pa_nil))
(pss_cons (ps_set (i := 6) nd rfl (by first | exact Or.inl rfl | exact Or.inr rfl) (pe_lst pa_nil))
(pss_cons (ps_for PassesOwn.never rfl (pi_range1 rfl T.b_range (pa_cons (pv 2) pa_nil)) (pg_name (i := 7) nd rfl (by first | exact Or.inl rfl | exact Or.inr rfl)) (pss_cons (ps_expr (pe_bm PySem.F.plainAttrs_list PySem.F.slot_list_append PySem.F.type_list_append mt_append (pv 5) (pa_cons (pe_cl T.c__law_pick hr (by decide) (by rfl) (pa_cons (pv 0) (pa_cons (pv 3) pa_nil))) pa_nil)))
(pss_cons (ps_for PassesOwn.never rfl (pi_range1 rfl T.b_range (pa_cons (pv 7) pa_nil)) (pg_name (i := 10) nd rfl (by first | exact Or.inl rfl | exact Or.inr rfl)) (pss_cons (ps_if (pt_cmpR op_gt (pe_cl T.c__law_pick hr (by decide) (by rfl) (pa_cons (pv 0) (pa_cons pe_int pa_nil))) pe_int (nomark _)) (pss_cons (ps_expr (pe_bm PySem.F.plainAttrs_list PySem.F.slot_list_append PySem.F.type_list_append mt_append (pv 6) (pa_cons (pe_tup (pa_cons (pv 10) (pa_cons (pv 7) pa_nil))) pa_nil)))
pss_nil) pss_nil)
pss_nil))
pss_nil)))
(pss_cons (ps_set (i := 8) nd rfl (by first | exact Or.inl rfl | exact Or.inr rfl) (pe_lst (pa_cons pe_int pa_nil)))
(pss_cons (ps_for PassesOwn.never rfl (pi_range1 rfl T.b_range (pa_cons (pe_cl T.c__law_pick hr (by decide) (by rfl) (pa_cons (pv 0) (pa_cons pe_int pa_nil))) pa_nil)) (pg_name (i := 9) nd rfl (by first | exact Or.inl rfl | exact Or.inr rfl)) (pss_cons (ps_expr (pe_bm PySem.F.plainAttrs_list PySem.F.slot_list_append PySem.F.type_list_append mt_append (pv 8) (pa_cons (pe_cl T.c__law_pick hr (by decide) (by rfl) (pa_cons (pv 0) (pa_cons (pv 4) pa_nil))) pa_nil)))
pss_nil))
(pss_cons (ps_ret (pe_tup (pa_cons (pv 5) (pa_cons (pv 6) (pa_cons (pv 8) (pa_cons (pe_cl T.c__law_some hr (by decide) (by rfl) (pa_cons (pv 0) (pa_cons (pv 2) (pa_cons pe_int pa_nil)))) pa_nil))))))
pss_nil))))))))), ?_⟩
  rintro ⟨p, hand, most⟩ hp
  have hp : 0 ≤ most ∧ most ≤ 12 := hp
  show R K _ [owp (α := Int) p [hand.a, hand.b, hand.c], pr (α := Int) most, .un, .un, .un, .un, .un, .un, .un, .un, .un] _ _ (lsea hand most)
  unfold lsea
  refine r_let fun r1 hr1 => ?_
  have fr1 := pick_fact hand most
  rw [← hr1] at fr1
  try replace fr1 := fr1.2 (by omega)
  refine r_bd (Γx := fun size2 => [owp (α := Int) p [r1.2.a, r1.2.b, r1.2.c], pr (α := Int) most, pr (α := Int) size2, .un, .un, .un, .un, .un, .un, .un, .un]) (g_set (e_add e_int (k_lpick hr1 (a_slot (n := 0) rfl (a_per (e_var (n := 1) rfl) a_nil)) rfl (show most ≤ 10 ^ 40 from (by walk_at "side"))))) fun size2 hsize2 => ?_
  refine r_let fun r3 hr3 => ?_
  have fr3 := pick_fact r1.2 (3 : Int)
  rw [← hr3] at fr3
  try replace fr3 := fr3.2 (by omega)
  refine r_bd (Γx := fun span4 => [owp (α := Int) p [r3.2.a, r3.2.b, r3.2.c], pr (α := Int) most, pr (α := Int) size2, pr (α := Int) span4, .un, .un, .un, .un, .un, .un, .un]) (g_set (e_ix (EN.e (n_lst (a_per e_int (a_per e_int (a_per e_int a_nil))) (.cons _ (.cons _ (.cons _ .nil))))) (k_lpick hr3 (a_slot (n := 0) rfl (a_per e_int a_nil)) rfl (show (3 : Int) ≤ 10 ^ 40 from (by walk_at "side"))) (by walk_at "side"))) fun span4 hspan4 => ?_
  have qspan4 : 0 ≤ span4 ∧ span4 ≤ 100 := by rw [hspan4]; exact gi_bd (by decide) (by decide)
  refine r_let fun r5 hr5 => ?_
  have fr5 := pick_fact r3.2 (3 : Int)
  rw [← hr5] at fr5
  try replace fr5 := fr5.2 (by omega)
  refine r_bd (Γx := fun swell6 => [owp (α := Int) p [r5.2.a, r5.2.b, r5.2.c], pr (α := Int) most, pr (α := Int) size2, pr (α := Int) span4, pr (α := Int) swell6, .un, .un, .un, .un, .un, .un]) (g_set (e_ix (EN.e (n_lst (a_per e_int (a_per e_int (a_per e_int a_nil))) (.cons _ (.cons _ (.cons _ .nil))))) (k_lpick hr5 (a_slot (n := 0) rfl (a_per e_int a_nil)) rfl (show (3 : Int) ≤ 10 ^ 40 from (by walk_at "side"))) (by walk_at "side"))) fun swell6 hswell6 => ?_
  have qswell6 : 0 ≤ swell6 ∧ swell6 ≤ 21 := by rw [hswell6]; exact gi_bd (by decide) (by decide)
  refine r_bd (Γx := fun deeps7 => [owp (α := Int) p [r5.2.a, r5.2.b, r5.2.c], pr (α := Int) most, pr (α := Int) size2, pr (α := Int) span4, pr (α := Int) swell6, ow (α := Int) deeps7, .un, .un, .un, .un, .un]) (g_setN (n_lst a_nil .nil)) fun deeps7 hdeeps7 => ?_
  refine r_bd (Γx := fun joins8 => [owp (α := Int) p [r5.2.a, r5.2.b, r5.2.c], pr (α := Int) most, pr (α := Int) size2, pr (α := Int) span4, pr (α := Int) swell6, ow (α := Int) deeps7, ow (α := (Int × Int)) joins8, .un, .un, .un, .un]) (g_setN (n_lst a_nil .nil)) fun joins8 hjoins8 => ?_
  refine r_bdI (Γx := (fun s10 : Hd × (List Int) × (List (Int × Int)) => [owp (α := Int) p [s10.1.a, s10.1.b, s10.1.c], pr (α := Int) most, pr (α := Int) size2, pr (α := Int) span4, pr (α := Int) swell6, ow (α := Int) s10.2.1, ow (α := (Int × Int)) s10.2.2, .un, .un, .un, .un])) (Iv := fun e11 : Hd × (List Int) × (List (Int × Int)) => e11.2.1.length ≤ (rng 0 size2).length ∧ e11.2.2.length ≤ 100 * (rng 0 size2).length) (g_for (fun s10 : Hd × (List Int) × (List (Int × Int)) => [owp (α := Int) p [s10.1.a, s10.1.b, s10.1.c], pr (α := Int) most, pr (α := Int) size2, pr (α := Int) span4, pr (α := Int) swell6, ow (α := Int) s10.2.1, ow (α := (Int × Int)) s10.2.2, .un, .un, .un, .un]) (fun (s10 : Hd × (List Int) × (List (Int × Int))) (x9 : Int) => [owp (α := Int) p [s10.1.a, s10.1.b, s10.1.c], pr (α := Int) most, pr (α := Int) size2, pr (α := Int) span4, pr (α := Int) swell6, ow (α := Int) s10.2.1, ow (α := (Int × Int)) s10.2.2, pr (α := Int) x9, .un, .un, .un]) (fun (n : Nat) (s10 : Hd × (List Int) × (List (Int × Int))) => s10.2.1.length ≤ n ∧ s10.2.2.length ≤ 100 * n) (w_rng1 (a_per (e_var (n := 2) rfl) a_nil) (by walk_at "side") (by walk_at "side")) ?_ ?_ ?_ ?_) fun e11 he11 hve11 => ?_
  · exact (wk_eq (wk_eq (wk_eq (wk_eq (wk_eq (wk_eq (wk_eq (wk_un (wk_un (wk_un (wk_un wk_nil)))))))))))
  · exact (by walk_at "side")
  · intro _ _; exact tg_name
  · intro n1 s10 x9 hx1 hi1
    have hr1 := rng_at hx1
    refine g_let fun r12 hr12 => ?_
    have fr12 := pick_fact s10.1 span4
    rw [← hr12] at fr12
    try replace fr12 := fr12.2 (by omega)
    refine g_bd (Γx := fun deeps13 => [owp (α := Int) p [r12.2.a, r12.2.b, r12.2.c], pr (α := Int) most, pr (α := Int) size2, pr (α := Int) span4, pr (α := Int) swell6, ow (α := Int) deeps13, ow (α := (Int × Int)) s10.2.2, pr (α := Int) x9, .un, .un, .un]) (g_app (n := 5) rfl (k_lpick hr12 (a_slot (n := 0) rfl (a_per (e_var (n := 3) rfl) a_nil)) rfl (show span4 ≤ 10 ^ 40 from (by walk_at "side"))) rfl (by walk_at "side")) fun deeps13 hdeeps13 => ?_
    refine g_bdI (Γx := (fun s15 : Hd × (List (Int × Int)) => [owp (α := Int) p [s15.1.a, s15.1.b, s15.1.c], pr (α := Int) most, pr (α := Int) size2, pr (α := Int) span4, pr (α := Int) swell6, ow (α := Int) deeps13, ow (α := (Int × Int)) s15.2, pr (α := Int) x9, .un, .un, .un])) (Iv := fun e16 : Hd × (List (Int × Int)) => e16.2.length ≤ 100 * n1 + (rng 0 x9).length) (g_for (fun s15 : Hd × (List (Int × Int)) => [owp (α := Int) p [s15.1.a, s15.1.b, s15.1.c], pr (α := Int) most, pr (α := Int) size2, pr (α := Int) span4, pr (α := Int) swell6, ow (α := Int) deeps13, ow (α := (Int × Int)) s15.2, pr (α := Int) x9, .un, .un, .un]) (fun (s15 : Hd × (List (Int × Int))) (x14 : Int) => [owp (α := Int) p [s15.1.a, s15.1.b, s15.1.c], pr (α := Int) most, pr (α := Int) size2, pr (α := Int) span4, pr (α := Int) swell6, ow (α := Int) deeps13, ow (α := (Int × Int)) s15.2, pr (α := Int) x9, .un, .un, pr (α := Int) x14]) (fun (n : Nat) (s15 : Hd × (List (Int × Int))) => s15.2.length ≤ 100 * n1 + n) (w_rng1 (a_per (e_var (n := 7) rfl) a_nil) (by walk_at "side") (by walk_at "side")) ?_ ?_ ?_ ?_) fun e16 he16 hve16 => ?_
    · exact (wk_eq (wk_eq (wk_eq (wk_eq (wk_eq (wk_eq (wk_eq (wk_eq (wk_un (wk_un (wk_un wk_nil)))))))))))
    · exact (by walk_at "side")
    · intro _ _; exact tg_name
    · intro n2 s15 x14 hx2 hi2
      have hr2 := rng_at hx2
      refine g_let fun r17 hr17 => ?_
      have fr17 := pick_fact s15.1 (4 : Int)
      rw [← hr17] at fr17
      try replace fr17 := fr17.2 (by omega)
      refine g_bdI (Iv := fun _ => True) (Γx := (fun j18 : (List (Int × Int)) => [owp (α := Int) p [r17.2.a, r17.2.b, r17.2.c], pr (α := Int) most, pr (α := Int) size2, pr (α := Int) span4, pr (α := Int) swell6, ow (α := Int) deeps13, ow (α := (Int × Int)) j18, pr (α := Int) x9, .un, .un, pr (α := Int) x14])) (g_if (fun j18 : (List (Int × Int)) => [owp (α := Int) p [r17.2.a, r17.2.b, r17.2.c], pr (α := Int) most, pr (α := Int) size2, pr (α := Int) span4, pr (α := Int) swell6, ow (α := Int) deeps13, ow (α := (Int × Int)) j18, pr (α := Int) x9, .un, .un, pr (α := Int) x14]) (fun _ => True) (t_test (e_gt (k_lpick hr17 (a_slot (n := 0) rfl (a_per e_int a_nil)) rfl (show (4 : Int) ≤ 10 ^ 40 from (by walk_at "side"))) e_int)) (fun hb20 => ?_) (fun hb20 => ?_)) fun j18 hj18 _ => ?_
      · try simp only [decide_eq_true_eq, decide_eq_false_iff_not, Bool.and_eq_true, Bool.or_eq_true, Bool.not_eq_true', Bool.not_eq_false', Bool.and_eq_false_iff, Bool.or_eq_false_iff, Int.not_lt, Int.not_le, gt_iff_lt, ge_iff_le] at hb20
        try (simp at hb20; show _)
        refine g_bd (Γx := fun joins19 => [owp (α := Int) p [r17.2.a, r17.2.b, r17.2.c], pr (α := Int) most, pr (α := Int) size2, pr (α := Int) span4, pr (α := Int) swell6, ow (α := Int) deeps13, ow (α := (Int × Int)) joins19, pr (α := Int) x9, .un, .un, pr (α := Int) x14]) (g_app (n := 6) rfl (e_t2 (a_per (e_var (n := 10) rfl) (a_per (e_var (n := 7) rfl) a_nil))) rfl (by walk_at "side")) fun joins19 hjoins19 => ?_
        exact gp_wk (wk_eq (wk_eq (wk_eq (wk_eq (wk_eq (wk_eq (wk_eq (wk_eq (wk_un (wk_un (wk_eq wk_nil))))))))))) trivial
      · try simp only [decide_eq_true_eq, decide_eq_false_iff_not, Bool.and_eq_true, Bool.or_eq_true, Bool.not_eq_true', Bool.not_eq_false', Bool.and_eq_false_iff, Bool.or_eq_false_iff, Int.not_lt, Int.not_le, gt_iff_lt, ge_iff_le] at hb20
        try (simp at hb20; show _)
        exact gp_wk (wk_eq (wk_eq (wk_eq (wk_eq (wk_eq (wk_eq (wk_eq (wk_eq (wk_un (wk_un (wk_eq wk_nil))))))))))) trivial
      exact gp_wk (wk_eq (wk_eq (wk_eq (wk_eq (wk_eq (wk_eq (wk_eq (wk_eq (wk_un (wk_un (wk_un wk_nil))))))))))) (by walk_at "step")
    try simp only [rng_len] at hve16
    exact gp_wk (wk_eq (wk_eq (wk_eq (wk_eq (wk_eq (wk_eq (wk_eq (wk_un (wk_un (wk_un (wk_un wk_nil))))))))))) (by walk_at "step")
  try simp only [rng_len] at hve11
  refine r_bd (Γx := fun flows21 => [owp (α := Int) p [e11.1.a, e11.1.b, e11.1.c], pr (α := Int) most, pr (α := Int) size2, pr (α := Int) span4, pr (α := Int) swell6, ow (α := Int) e11.2.1, ow (α := (Int × Int)) e11.2.2, .un, ow (α := Int) flows21, .un, .un]) (g_setN (n_lst (a_per e_int a_nil) (.cons _ .nil))) fun flows21 hflows21 => ?_
  refine r_let fun r22 hr22 => ?_
  have fr22 := pick_fact e11.1 (3 : Int)
  rw [← hr22] at fr22
  try replace fr22 := fr22.2 (by omega)
  refine r_bdI (Γx := (fun s24 : Hd × (List Int) => [owp (α := Int) p [s24.1.a, s24.1.b, s24.1.c], pr (α := Int) most, pr (α := Int) size2, pr (α := Int) span4, pr (α := Int) swell6, ow (α := Int) e11.2.1, ow (α := (Int × Int)) e11.2.2, .un, ow (α := Int) s24.2, .un, .un])) (Iv := fun e25 : Hd × (List Int) => e25.2.length ≤ (rng 0 r22.1).length + 1) (g_for (fun s24 : Hd × (List Int) => [owp (α := Int) p [s24.1.a, s24.1.b, s24.1.c], pr (α := Int) most, pr (α := Int) size2, pr (α := Int) span4, pr (α := Int) swell6, ow (α := Int) e11.2.1, ow (α := (Int × Int)) e11.2.2, .un, ow (α := Int) s24.2, .un, .un]) (fun (s24 : Hd × (List Int)) (x23 : Int) => [owp (α := Int) p [s24.1.a, s24.1.b, s24.1.c], pr (α := Int) most, pr (α := Int) size2, pr (α := Int) span4, pr (α := Int) swell6, ow (α := Int) e11.2.1, ow (α := (Int × Int)) e11.2.2, .un, ow (α := Int) s24.2, pr (α := Int) x23, .un]) (fun (n : Nat) (s24 : Hd × (List Int)) => s24.2.length ≤ n + 1) (w_rng1 (a_per (k_lpick hr22 (a_slot (n := 0) rfl (a_per e_int a_nil)) rfl (show (3 : Int) ≤ 10 ^ 40 from (by walk_at "side"))) a_nil) (by walk_at "side") (by walk_at "side")) ?_ ?_ ?_ ?_) fun e25 he25 hve25 => ?_
  · exact (wk_eq (wk_eq (wk_eq (wk_eq (wk_eq (wk_eq (wk_eq (wk_un (wk_eq (wk_un (wk_un wk_nil)))))))))))
  · exact (by walk_at "side")
  · intro _ _; exact tg_name
  · intro n3 s24 x23 hx3 hi3
    have hr3 := rng_at hx3
    refine g_let fun r26 hr26 => ?_
    have fr26 := pick_fact s24.1 swell6
    rw [← hr26] at fr26
    try replace fr26 := fr26.2 (by omega)
    refine g_bd (Γx := fun flows27 => [owp (α := Int) p [r26.2.a, r26.2.b, r26.2.c], pr (α := Int) most, pr (α := Int) size2, pr (α := Int) span4, pr (α := Int) swell6, ow (α := Int) e11.2.1, ow (α := (Int × Int)) e11.2.2, .un, ow (α := Int) flows27, pr (α := Int) x23, .un]) (g_app (n := 8) rfl (k_lpick hr26 (a_slot (n := 0) rfl (a_per (e_var (n := 4) rfl) a_nil)) rfl (show swell6 ≤ 10 ^ 40 from (by walk_at "side"))) rfl (by walk_at "side")) fun flows27 hflows27 => ?_
    exact gp_wk (wk_eq (wk_eq (wk_eq (wk_eq (wk_eq (wk_eq (wk_eq (wk_un (wk_eq (wk_un (wk_un wk_nil))))))))))) (by walk_at "step")
  try simp only [rng_len] at hve25
  refine r_let fun r28 hr28 => ?_
  exact r_ret (e_t4 (a_per (e_frz (n := 5) rfl) (a_per (e_frz (n := 6) rfl) (a_per (e_frz (n := 8) rfl) (a_per (k_lsome hr28 (a_slot (n := 0) rfl (a_per (e_var (n := 2) rfl) (a_per e_int a_nil))) rfl (show 0 ≤ size2 ∧ size2 ≤ 100 ∧ (4 : Int) ≤ 100 from (by walk_at "side"))) a_nil))))) rfl (wk_eq wk_nil)
theorem k_lsea {K : Kf} {m : Bool} {ta : TA} {Γ Γ1 : List Sl} {n : Nat} {a : Option Addr} {x0 : Hd} {x1 : Int} {r : (FF.T4 (List Int) (List (Int × Int)) (List Int) (List Int)) × Hd} (hr : r = lsea x0 x1) (ha : A K m ta Γ Γ1 [.slot n, ap x1]) (hn : Γ1[n]? = some (.own (inferInstance : Rp Int) a [x0.a, x0.b, x0.c])) (hp : 0 ≤ x1 ∧ x1 ≤ 12) : E K true true (tCall (sp_lsea K) [] E0 ta) Γ (Γ1.set n (.own (inferInstance : Rp Int) a [r.2.a, r.2.b, r.2.c])) r.1 := by
  subst hr
  exact e_callM (fun p => (p, x0, x1)) ha hn (fun _ => (.here (.per .nil))) (fun _ => hp) 0 (fun _ => rfl) (fun _ => rfl)
theorem kn_lsea {K : Kf} {m m2 : Bool} {te : TE} {ta : TA} {Γ Γ1 Γ2 : List Sl} {x0 : Hd} {x1 : Int} {r : (FF.T4 (List Int) (List (Int × Int)) (List Int) (List Int)) × Hd} (hr : r = lsea x0 x1) (h : EN K m te Γ Γ1 [x0.a, x0.b, x0.c]) (ha : A K m2 ta Γ1 Γ2 [ap x1]) (hp : 0 ≤ x1 ∧ x1 ≤ 12) : E K true true (tCall (sp_lsea K) [] E0 (tCons te ta)) Γ Γ2 r.1 := by
  subst hr
  exact e_callN (fun p => (p, x0, x1)) h ha [pr (α := Int) x1] (fun _ => rfl) (.per .nil) (fun _ => hp) (fun _ => rfl)
abbrev s_lchart : Stmt := (top 25)
abbrev N_lchart : List Str := ["_law_sea_here", "_law_parts", "_law_chart_here", "_law_part"]
theorem sc_lchart : FnScope N_lchart ["_law_sea_here"] (defScope s_lchart) := ⟨rfl, rfl, rfl, by decide +kernel, rfl, by decide +kernel, by decide +kernel⟩
abbrev sp_lchart (K : Kf) : Sp := spF K (ι := (FF.T4 (List Int) (List (Int × Int)) (List Int) (List Int))) (fun d => [pr (α := (FF.T4 (List Int) (List (Int × Int)) (List Int) (List Int))) d]) (fun d => d.a.length ≤ 100 ∧ d.b.length ≤ 66 ∧ d.c.length ≤ 100 ∧ d.d.length ≤ 100 ∧ p_wrong_part_of_chart_LLLL d.a d.b d.c d.d = none) (fun d => (lchart d)) (fun d => [])
theorem kmk_Chart_LLLL_2_tide_harbours {K : Kf} {m : Bool} {ta tk : TA} {Γ Γ1 Γ2 : List Sl} {as bs : List Ar} {d : (List Int) × (List (Int × Int)) × (List Int) × (List Int)} (ha : A K m ta Γ Γ1 as) (hb : A K false tk Γ1 Γ2 bs) (hd : ∀ (H0 H : Hp) (σ : St), Prd (arOk K H0 H σ) ([] : List V) ([] : List Ar)) (hn : as.length = 2) (hk : bs.length = 2) (hm : Mt (as ++ (bs ++ [])) [bw (α := (List Int)) d.1, bw (α := (List (Int × Int))) d.2.1, bw (α := (List Int)) d.2.2.1, bw (α := (List Int)) d.2.2.2]) (hp : d.1.length ≤ 100 ∧ d.2.1.length ≤ 66 ∧ d.2.2.1.length ≤ 100 ∧ d.2.2.2.length ≤ 100 ∧ p_wrong_part_of_chart_LLLL d.1 d.2.1 d.2.2.1 d.2.2.2 = none) : E K m true (tMakeK HasC.c_Chart 2 2 (sp_p_Chart___init___LLLL K) (fun vs zs => vs ++ (zs ++ [])) E0 ta tk) Γ Γ2 (p_Chart___init___LLLL d.1 d.2.1 d.2.2.1 d.2.2.2) := e_makeK (fs := fs_Chart) d _ ha hb hd hn hk hm hp rfl
structure T_lchart (P : Program) (w : World) (K : Kf) (mg : Str → Option Value) (base : Heap) : Prop where
  b_list : mg "list" = none
  mk_Chart_LLLL_2_tide_harbours : MkF P w K mg base 4 "Chart" HasC.c_Chart 2 ["tide", "harbours"] (fun vs zs => vs ++ (zs ++ [])) (sp_p_Chart___init___LLLL K)
theorem ok_lchart {P : Program} {w : World} {K : Kf} {mg : Str → Option Value} {base : Heap} {fa : Addr} {fd : FuncData} (Fd : Fun K "_law_chart" "_law_chart" s_lchart fa fd) (T : T_lchart P w K mg base) : FnOk P w K mg base CX0 6 fa fd ["_law_sea_here"] (sp_lchart K) := by
  have nd := sc_lchart.nd
  refine fn_body (ρ := Chart) (fun _ => PerR K (fun r => r)) (fun _ _ => []) (fun d => lchart d) Fd sc_lchart (fun _ => rfl) (fun _ => rfl) (fun _ _ _ _ _ _ h => h) fun cdv AA outer s H EE hr => ?_
  refine ⟨_, (pss_cons (ps_set (i := 1) nd rfl (by first | exact Or.inl rfl | exact Or.inr rfl) (pe_lst (pa_cons (pe_callTy (show CallR _ (.type "list") (rList1 K) from cr_list1) (by rfl) T.b_list (by decide +kernel) (pa_cons (pe_ix (show IxR _ (rIxT K) from ix_tup) (pv 0) pe_int (fun _ _ => rfl)) pa_nil)) (pa_cons (pe_callTy (show CallR _ (.type "list") (rList1 K) from cr_list1) (by rfl) T.b_list (by decide +kernel) (pa_cons (pe_ix (show IxR _ (rIxT K) from ix_tup) (pv 0) pe_int (fun _ _ => rfl)) pa_nil)) (pa_cons (pe_callTy (show CallR _ (.type "list") (rList1 K) from cr_list1) (by rfl) T.b_list (by decide +kernel) (pa_cons (pe_ix (show IxR _ (rIxT K) from ix_tup) (pv 0) pe_int (fun _ _ => rfl)) pa_nil)) (pa_cons (pe_callTy (show CallR _ (.type "list") (rList1 K) from cr_list1) (by rfl) T.b_list (by decide +kernel) (pa_cons (pe_ix (show IxR _ (rIxT K) from ix_tup) (pv 0) pe_int (fun _ _ => rfl)) pa_nil)) pa_nil)))))) (pss_cons (ps_set (i := 2) nd rfl (by first | exact Or.inl rfl | exact Or.inr rfl) (pe_mkF T.mk_Chart_LLLL_2_tide_harbours hr (by decide) (by rfl) (pa_cons (pe_ix (show IxR _ (rIxL K) from ix_list) (pv 1) pe_int (fun _ _ => rfl)) (pa_cons (pe_ix (show IxR _ (rIxL K) from ix_list) (pv 1) pe_int (fun _ _ => rfl)) pa_nil)) (pk_cons (pe_ix (show IxR _ (rIxL K) from ix_list) (pv 1) pe_int (fun _ _ => rfl)) (pk_cons (pe_ix (show IxR _ (rIxL K) from ix_list) (pv 1) pe_int (fun _ _ => rfl)) pk_nil)))) (pss_cons (ps_for PassesOwn.never rfl (pi_list (pv 1)) (pg_name (i := 3) nd rfl (by first | exact Or.inl rfl | exact Or.inr rfl)) (pss_cons (ps_expr (pe_bm0 PySem.F.plainAttrs_list PySem.F.slot_list_clear PySem.F.type_list_clear mt_clear (pv 3))) pss_nil)) (pss_cons (ps_ret (pv 2)) pss_nil)))), ?_⟩
  intro sea hp
  have hp : sea.a.length ≤ 100 ∧ sea.b.length ≤ 66 ∧ sea.c.length ≤ 100 ∧ sea.d.length ≤ 100 ∧ p_wrong_part_of_chart_LLLL sea.a sea.b sea.c sea.d = none := hp
  exact r_parts trivial (n_list (e_p4a (e_var (n := 0) rfl))) (n_list (e_p4b (e_var (n := 0) rfl))) (n_list (e_p4c (e_var (n := 0) rfl))) (n_list (e_p4d (e_var (n := 0) rfl))) fun a b1 b2 b3 b4 => kmk_Chart_LLLL_2_tide_harbours (d := (sea.a, sea.b, sea.c, sea.d)) (a_bor (e_q4a (n := 1) rfl) (a_bor (e_q4b (n := 1) rfl) a_nil)) (a_bor (e_q4c (n := 1) rfl) (a_bor (e_q4d (n := 1) rfl) a_nil)) (fun H0 H σ => .nil) rfl rfl (.bor (.bor (.bor (.bor .nil)))) hp
theorem k_lchart {K : Kf} {m : Bool} {ta : TA} {Γ Γ1 : List Sl} {as : List Ar} {d : (FF.T4 (List Int) (List (Int × Int)) (List Int) (List Int))} (ha : A K m ta Γ Γ1 as) (hm : Mt as [pr (α := (FF.T4 (List Int) (List (Int × Int)) (List Int) (List Int))) d]) (hp : d.a.length ≤ 100 ∧ d.b.length ≤ 66 ∧ d.c.length ≤ 100 ∧ d.d.length ≤ 100 ∧ p_wrong_part_of_chart_LLLL d.a d.b d.c d.d = none) : E K m true (tCall (sp_lchart K) [] E0 ta) Γ Γ1 (lchart d) := e_call d ha hm hp
abbrev s_lwater : Stmt := (top 26)
abbrev N_lwater : List Str := ["_law_sea_here", "_law_place", "_law_when"]
theorem sc_lwater : FnScope N_lwater ["_law_sea_here", "_law_place", "_law_when"] (defScope s_lwater) := ⟨rfl, rfl, rfl, by decide +kernel, rfl, by decide +kernel, by decide +kernel⟩
abbrev sp_lwater (K : Kf) : Sp := spF K (ι := (FF.T4 (List Int) (List (Int × Int)) (List Int) (List Int)) × Int × Int) (fun d => [pr (α := (FF.T4 (List Int) (List (Int × Int)) (List Int) (List Int))) d.1, pr (α := Int) d.2.1, pr (α := Int) d.2.2]) (fun d => 0 ≤ d.2.1 ∧ d.2.1 < d.1.a.length ∧ 0 < d.1.c.length) (fun d => (lwater d.1 d.2.1 d.2.2)) (fun d => [])
structure T_lwater (P : Program) (w : World) (K : Kf) (mg : Str → Option Value) (base : Heap) : Prop where
  b_int : mg "int" = none
  b_len : mg "len" = none
theorem ok_lwater {P : Program} {w : World} {K : Kf} {mg : Str → Option Value} {base : Heap} {fa : Addr} {fd : FuncData} (Fd : Fun K "_law_water" "_law_water" s_lwater fa fd) (T : T_lwater P w K mg base) : FnOk P w K mg base CX0 1 fa fd ["_law_sea_here", "_law_place", "_law_when"] (sp_lwater K) := by
  have nd := sc_lwater.nd
  refine fn_body (ρ := Int) (fun _ => PerR K (fun r => r)) (fun _ _ => []) (fun d => lwater d.1 d.2.1 d.2.2) Fd sc_lwater (fun _ => rfl) (fun _ => rfl) (fun _ _ _ _ _ _ h => h) fun cdv AA outer s H EE hr => ?_
  refine ⟨_, (pss_cons (ps_ret (pe_op op_add (pe_ix (show IxR _ (rIxL K) from ix_list) (pe_ix (show IxR _ (rIxT K) from ix_tup) (pv 0) pe_int (fun _ _ => rfl)) (pv 1) (fun _ _ => rfl)) (pe_ix (show IxR _ (rIxL K) from ix_list) (pe_ix (show IxR _ (rIxT K) from ix_tup) (pv 0) pe_int (fun _ _ => rfl)) (pe_op op_mod (pe_callTy cr_int1 (by rfl) T.b_int (by decide +kernel) (pa_cons (pv 2) pa_nil)) (pe_callB (show CallR _ (.builtin "len") (rLen1 K) from cr_len1) (by rfl) T.b_len PySem.boot_len (pa_cons (pe_ix (show IxR _ (rIxT K) from ix_tup) (pv 0) pe_int (fun _ _ => rfl)) pa_nil))) (fun _ _ => rfl))))
pss_nil), ?_⟩
  rintro ⟨sea, place, when⟩ hp
  have hp : 0 ≤ place ∧ place < sea.a.length ∧ 0 < sea.c.length := hp
  show R K _ [pr (α := (FF.T4 (List Int) (List (Int × Int)) (List Int) (List Int))) sea, pr (α := Int) place, pr (α := Int) when] _ _ (lwater sea place when)
  unfold lwater
  exact r_ret (e_add (e_ix (e_p4a (e_var (n := 0) rfl)) (e_var (n := 1) rfl) (by walk_at "side")) (e_ix (e_p4c (e_var (n := 0) rfl)) (e_mod (e_toInt (e_var (n := 2) rfl)) (e_len (e_p4c (e_var (n := 0) rfl))) (by walk_at "side")) (by walk_at "side"))) rfl wk_nil
theorem k_lwater {K : Kf} {m : Bool} {ta : TA} {Γ Γ1 : List Sl} {as : List Ar} {d : (FF.T4 (List Int) (List (Int × Int)) (List Int) (List Int)) × Int × Int} (ha : A K m ta Γ Γ1 as) (hm : Mt as [pr (α := (FF.T4 (List Int) (List (Int × Int)) (List Int) (List Int))) d.1, pr (α := Int) d.2.1, pr (α := Int) d.2.2]) (hp : 0 ≤ d.2.1 ∧ d.2.1 < d.1.a.length ∧ 0 < d.1.c.length) : E K m true (tCall (sp_lwater K) [] E0 ta) Γ Γ1 (lwater d.1 d.2.1 d.2.2) := e_call d ha hm hp
abbrev s_ltides : Stmt := (top 27)
abbrev N_ltides : List Str := ["_law_hand_here", "_law_sea_here", "_law_flows", "_law_turn"]
theorem sc_ltides : FnScope N_ltides ["_law_hand_here", "_law_sea_here"] (defScope s_ltides) := ⟨rfl, rfl, rfl, by decide +kernel, rfl, by decide +kernel, by decide +kernel⟩
abbrev sp_ltides (K : Kf) : Sp := spF K (ι := Addr × Hd × (FF.T4 (List Int) (List (Int × Int)) (List Int) (List Int))) (fun d => [owp (α := Int) d.1 [d.2.1.a, d.2.1.b, d.2.1.c], pr (α := (FF.T4 (List Int) (List (Int × Int)) (List Int) (List Int))) d.2.2]) (fun d => d.2.2.c.length ≤ 100) (fun d => (ltides d.2.1 d.2.2).1) (fun d => [owp (α := Int) d.1 [(ltides d.2.1 d.2.2).2.a, (ltides d.2.1 d.2.2).2.b, (ltides d.2.1 d.2.2).2.c]])
structure T_ltides (P : Program) (w : World) (K : Kf) (mg : Str → Option Value) (base : Heap) : Prop where
  b_range : mg "range" = none
  c__law_pick : Cl P w K mg base 1 "_law_pick" (sp_lpick K)
theorem ok_ltides {P : Program} {w : World} {K : Kf} {mg : Str → Option Value} {base : Heap} {fa : Addr} {fd : FuncData} (Fd : Fun K "_law_tides" "_law_tides" s_ltides fa fd) (T : T_ltides P w K mg base) : FnOk P w K mg base CX0 2 fa fd ["_law_hand_here", "_law_sea_here"] (sp_ltides K) := by
  have nd := sc_ltides.nd
  refine fn_body (ρ := (FF.T4 (List Int) (List (Int × Int)) (List Int) (List Int)) × Hd) (fun _ => PerR K (fun r => r.1)) (fun d r => [owp (α := Int) d.1 [r.2.a, r.2.b, r.2.c]]) (fun d => ltides d.2.1 d.2.2) Fd sc_ltides (fun _ => rfl) (fun _ => rfl) (fun _ _ _ _ _ _ h => h) fun cdv AA outer s H EE hr => ?_
  refine ⟨_, (pss_cons (ps_set (i := 2) nd rfl (by first | exact Or.inl rfl | exact Or.inr rfl) (pe_op op_cat (pe_slice (show SlR _ (rSlL K) from sl_list) (pe_ix (show IxR _ (rIxT K) from ix_tup) (pv 1) pe_int (fun _ _ => rfl)) (po_some pe_int) po_none) (pe_slice (show SlR _ (rSlL K) from sl_list) (pe_ix (show IxR _ (rIxT K) from ix_tup) (pv 1) pe_int (fun _ _ => rfl)) po_none (po_some pe_int))))
(pss_cons (ps_for PassesOwn.never rfl (pi_range1 rfl T.b_range (pa_cons (pe_cl T.c__law_pick hr (by decide) (by rfl) (pa_cons (pv 0) (pa_cons (pe_ix (show IxR _ (rIxL K) from ix_list) (pe_lst (pa_cons pe_int (pa_cons pe_int (pa_cons pe_int pa_nil)))) (pe_cl T.c__law_pick hr (by decide) (by rfl) (pa_cons (pv 0) (pa_cons pe_int pa_nil))) (fun _ _ => rfl)) pa_nil))) pa_nil)) (pg_name (i := 3) nd rfl (by first | exact Or.inl rfl | exact Or.inr rfl)) (pss_cons (ps_expr (pe_bm PySem.F.plainAttrs_list PySem.F.slot_list_append PySem.F.type_list_append mt_append (pv 2) (pa_cons (pe_cl T.c__law_pick hr (by decide) (by rfl) (pa_cons (pv 0) (pa_cons pe_int pa_nil))) pa_nil)))
pss_nil))
(pss_cons (ps_ret (pe_tup (pa_cons (pe_ix (show IxR _ (rIxT K) from ix_tup) (pv 1) pe_int (fun _ _ => rfl)) (pa_cons (pe_ix (show IxR _ (rIxT K) from ix_tup) (pv 1) pe_int (fun _ _ => rfl)) (pa_cons (pv 2) (pa_cons (pe_ix (show IxR _ (rIxT K) from ix_tup) (pv 1) pe_int (fun _ _ => rfl)) pa_nil))))))
pss_nil))), ?_⟩
  rintro ⟨p, hand, sea⟩ hp
  have hp : sea.c.length ≤ 100 := hp
  show R K _ [owp (α := Int) p [hand.a, hand.b, hand.c], pr (α := (FF.T4 (List Int) (List (Int × Int)) (List Int) (List Int))) sea, .un, .un] _ _ (ltides hand sea)
  unfold ltides
  refine r_bd (Γx := fun flows1 => [owp (α := Int) p [hand.a, hand.b, hand.c], pr (α := (FF.T4 (List Int) (List (Int × Int)) (List Int) (List Int))) sea, ow (α := Int) flows1, .un]) (g_setN (n_cat (EN.e (n_sl (e_p4c (e_var (n := 1) rfl)) (o_some e_int) o_none)) (EN.e (n_sl (e_p4c (e_var (n := 1) rfl)) o_none (o_some e_int))) (by walk_at "side"))) fun flows1 hflows1 => ?_
  have lflows1 : flows1.length ≤ 200 := by rw [hflows1, List.length_append]; exact Nat.le_trans (Nat.add_le_add (gs_len _ _ _) (gs_len _ _ _)) (by omega)
  refine r_let fun r2 hr2 => ?_
  have fr2 := pick_fact hand (3 : Int)
  rw [← hr2] at fr2
  try replace fr2 := fr2.2 (by omega)
  refine r_let fun r3 hr3 => ?_
  have fr3 := pick_fact r2.2 (gi ([(1 : Int), (3 : Int), (10 : Int)] : List Int) r2.1)
  rw [← hr3] at fr3
  try replace fr3 := fr3.2 (by omega)
  refine r_bdI (Γx := (fun s5 : Hd × (List Int) => [owp (α := Int) p [s5.1.a, s5.1.b, s5.1.c], pr (α := (FF.T4 (List Int) (List (Int × Int)) (List Int) (List Int))) sea, ow (α := Int) s5.2, .un])) (Iv := fun e6 : Hd × (List Int) => e6.2.length ≤ 200 + (rng 0 r3.1).length) (g_for (fun s5 : Hd × (List Int) => [owp (α := Int) p [s5.1.a, s5.1.b, s5.1.c], pr (α := (FF.T4 (List Int) (List (Int × Int)) (List Int) (List Int))) sea, ow (α := Int) s5.2, .un]) (fun (s5 : Hd × (List Int)) (x4 : Int) => [owp (α := Int) p [s5.1.a, s5.1.b, s5.1.c], pr (α := (FF.T4 (List Int) (List (Int × Int)) (List Int) (List Int))) sea, ow (α := Int) s5.2, pr (α := Int) x4]) (fun (n : Nat) (s5 : Hd × (List Int)) => s5.2.length ≤ 200 + n) (w_rng1 (a_per (k_lpick hr3 (a_slot (n := 0) rfl (a_per (e_ix (EN.e (n_lst (a_per e_int (a_per e_int (a_per e_int a_nil))) (.cons _ (.cons _ (.cons _ .nil))))) (k_lpick hr2 (a_slot (n := 0) rfl (a_per e_int a_nil)) rfl (show (3 : Int) ≤ 10 ^ 40 from (by walk_at "side"))) (by walk_at "side")) a_nil)) rfl (show (gi ([(1 : Int), (3 : Int), (10 : Int)] : List Int) r2.1) ≤ 10 ^ 40 from (by walk_at "side"))) a_nil) (by walk_at "side") (by walk_at "side")) ?_ ?_ ?_ ?_) fun e6 he6 hve6 => ?_
  · exact (wk_eq (wk_eq (wk_eq (wk_un wk_nil))))
  · exact (by show flows1.length ≤ 200 + 0; omega)
  · intro _ _; exact tg_name
  · intro n1 s5 x4 hx1 hi1
    have hr1 := rng_at hx1
    refine g_let fun r7 hr7 => ?_
    have fr7 := pick_fact s5.1 (21 : Int)
    rw [← hr7] at fr7
    try replace fr7 := fr7.2 (by omega)
    refine g_bd (Γx := fun flows8 => [owp (α := Int) p [r7.2.a, r7.2.b, r7.2.c], pr (α := (FF.T4 (List Int) (List (Int × Int)) (List Int) (List Int))) sea, ow (α := Int) flows8, pr (α := Int) x4]) (g_app (n := 2) rfl (k_lpick hr7 (a_slot (n := 0) rfl (a_per e_int a_nil)) rfl (show (21 : Int) ≤ 10 ^ 40 from (by walk_at "side"))) rfl (by walk_at "side")) fun flows8 hflows8 => ?_
    exact gp_wk (wk_eq (wk_eq (wk_eq (wk_un wk_nil)))) (by walk_at "step")
  try simp only [rng_len] at hve6
  exact r_ret (e_t4 (a_per (e_p4a (e_var (n := 1) rfl)) (a_per (e_p4b (e_var (n := 1) rfl)) (a_per (e_frz (n := 2) rfl) (a_per (e_p4d (e_var (n := 1) rfl)) a_nil))))) rfl (wk_eq wk_nil)
theorem k_ltides {K : Kf} {m : Bool} {ta : TA} {Γ Γ1 : List Sl} {n : Nat} {a : Option Addr} {x0 : Hd} {x1 : (FF.T4 (List Int) (List (Int × Int)) (List Int) (List Int))} {r : (FF.T4 (List Int) (List (Int × Int)) (List Int) (List Int)) × Hd} (hr : r = ltides x0 x1) (ha : A K m ta Γ Γ1 [.slot n, ap x1]) (hn : Γ1[n]? = some (.own (inferInstance : Rp Int) a [x0.a, x0.b, x0.c])) (hp : x1.c.length ≤ 100) : E K true true (tCall (sp_ltides K) [] E0 ta) Γ (Γ1.set n (.own (inferInstance : Rp Int) a [r.2.a, r.2.b, r.2.c])) r.1 := by
  subst hr
  exact e_callM (fun p => (p, x0, x1)) ha hn (fun _ => (.here (.per .nil))) (fun _ => hp) 0 (fun _ => rfl) (fun _ => rfl)
theorem kn_ltides {K : Kf} {m m2 : Bool} {te : TE} {ta : TA} {Γ Γ1 Γ2 : List Sl} {x0 : Hd} {x1 : (FF.T4 (List Int) (List (Int × Int)) (List Int) (List Int))} {r : (FF.T4 (List Int) (List (Int × Int)) (List Int) (List Int)) × Hd} (hr : r = ltides x0 x1) (h : EN K m te Γ Γ1 [x0.a, x0.b, x0.c]) (ha : A K m2 ta Γ1 Γ2 [ap x1]) (hp : x1.c.length ≤ 100) : E K true true (tCall (sp_ltides K) [] E0 (tCons te ta)) Γ Γ2 r.1 := by
  subst hr
  exact e_callN (fun p => (p, x0, x1)) h ha [pr (α := (FF.T4 (List Int) (List (Int × Int)) (List Int) (List Int))) x1] (fun _ => rfl) (.per .nil) (fun _ => hp) (fun _ => rfl)
abbrev s_lquestion : Stmt := (top 28)
abbrev N_lquestion : List Str := ["_law_hand_here", "_law_sea_here", "_law_place", "_law_last", "_law_deep"]
theorem sc_lquestion : FnScope N_lquestion ["_law_hand_here", "_law_sea_here"] (defScope s_lquestion) := ⟨rfl, rfl, rfl, by decide +kernel, rfl, by decide +kernel, by decide +kernel⟩
abbrev sp_lquestion (K : Kf) : Sp := spF K (ι := Addr × Hd × (FF.T4 (List Int) (List (Int × Int)) (List Int) (List Int))) (fun d => [owp (α := Int) d.1 [d.2.1.a, d.2.1.b, d.2.1.c], pr (α := (FF.T4 (List Int) (List (Int × Int)) (List Int) (List Int))) d.2.2]) (fun d => SeaW d.2.2) (fun d => (lquestion d.2.1 d.2.2).1) (fun d => [owp (α := Int) d.1 [(lquestion d.2.1 d.2.2).2.a, (lquestion d.2.1 d.2.2).2.b, (lquestion d.2.1 d.2.2).2.c]])
structure T_lquestion (P : Program) (w : World) (K : Kf) (mg : Str → Option Value) (base : Heap) : Prop where
  b_len : mg "len" = none
  c__law_pick : Cl P w K mg base 1 "_law_pick" (sp_lpick K)
  c__law_water : Cl P w K mg base 1 "_law_water" (sp_lwater K)
  b_min : mg "min" = none
  b_max : mg "max" = none
theorem ok_lquestion {P : Program} {w : World} {K : Kf} {mg : Str → Option Value} {base : Heap} {fa : Addr} {fd : FuncData} (Fd : Fun K "_law_question" "_law_question" s_lquestion fa fd) (T : T_lquestion P w K mg base) : FnOk P w K mg base CX0 2 fa fd ["_law_hand_here", "_law_sea_here"] (sp_lquestion K) := by
  have nd := sc_lquestion.nd
  refine fn_body (ρ := (FF.T3 Int Int Int) × Hd) (fun _ => PerR K (fun r => r.1)) (fun d r => [owp (α := Int) d.1 [r.2.a, r.2.b, r.2.c]]) (fun d => lquestion d.2.1 d.2.2) Fd sc_lquestion (fun _ => rfl) (fun _ => rfl) (fun _ _ _ _ _ _ h => h) fun cdv AA outer s H EE hr => ?_
  refine ⟨_, (pss_cons (ps_set (i := 2) nd rfl (by first | exact Or.inl rfl | exact Or.inr rfl) (pe_cl T.c__law_pick hr (by decide) (by rfl) (pa_cons (pv 0) (pa_cons (pe_callB (show CallR _ (.builtin "len") (rLen1 K) from cr_len1) (by rfl) T.b_len PySem.boot_len (pa_cons (pe_ix (show IxR _ (rIxT K) from ix_tup) (pv 1) pe_int (fun _ _ => rfl)) pa_nil)) pa_nil))))
(pss_cons (ps_set (i := 3) nd rfl (by first | exact Or.inl rfl | exact Or.inr rfl) (pe_cl T.c__law_pick hr (by decide) (by rfl) (pa_cons (pv 0) (pa_cons (pe_ix (show IxR _ (rIxL K) from ix_list) (pe_lst (pa_cons pe_int (pa_cons pe_int (pa_cons pe_int pa_nil)))) (pe_cl T.c__law_pick hr (by decide) (by rfl) (pa_cons (pv 0) (pa_cons pe_int pa_nil))) (fun _ _ => rfl)) pa_nil))))
(pss_cons (ps_set (i := 4) nd rfl (by first | exact Or.inl rfl | exact Or.inr rfl) (pe_op op_sub (pe_op op_add (pe_cl T.c__law_water hr (by decide) (by rfl) (pa_cons (pv 1) (pa_cons (pv 2) (pa_cons (pe_cl T.c__law_pick hr (by decide) (by rfl) (pa_cons (pv 0) (pa_cons (pe_op op_add (pv 3) pe_int) pa_nil))) pa_nil)))) (pe_cl T.c__law_pick hr (by decide) (by rfl) (pa_cons (pv 0) (pa_cons pe_int pa_nil)))) pe_int))
(pss_cons (ps_ret (pe_tup (pa_cons (pv 2) (pa_cons (pe_callB (cr_max2i rfl) (by rfl) T.b_max (by decide +kernel) (pa_cons pe_int (pa_cons (pe_callB (cr_min2i rfl) (by rfl) T.b_min (by decide +kernel) (pa_cons pe_int (pa_cons (pv 4) pa_nil))) pa_nil))) (pa_cons (pv 3) pa_nil)))))
pss_nil)))), ?_⟩
  rintro ⟨p, hand, sea⟩ hp
  have hp : SeaW sea := hp
  have w1 := hp.n1
  have w12 := hp.n12
  have wf := hp.f1
  show R K _ [owp (α := Int) p [hand.a, hand.b, hand.c], pr (α := (FF.T4 (List Int) (List (Int × Int)) (List Int) (List Int))) sea, .un, .un, .un] _ _ (lquestion hand sea)
  unfold lquestion
  refine r_let fun r1 hr1 => ?_
  have fr1 := pick_fact hand ((sea.a.length : Nat) : Int)
  rw [← hr1] at fr1
  try replace fr1 := fr1.2 (by omega)
  refine r_bd (Γx := fun place2 => [owp (α := Int) p [r1.2.a, r1.2.b, r1.2.c], pr (α := (FF.T4 (List Int) (List (Int × Int)) (List Int) (List Int))) sea, pr (α := Int) place2, .un, .un]) (g_set (k_lpick hr1 (a_slot (n := 0) rfl (a_per (e_len (e_p4a (e_var (n := 1) rfl))) a_nil)) rfl (show ((sea.a.length : Nat) : Int) ≤ 10 ^ 40 from (by walk_at "side")))) fun place2 hplace2 => ?_
  refine r_let fun r3 hr3 => ?_
  have fr3 := pick_fact r1.2 (3 : Int)
  rw [← hr3] at fr3
  try replace fr3 := fr3.2 (by omega)
  refine r_let fun r4 hr4 => ?_
  have fr4 := pick_fact r3.2 (gi ([(5 : Int), (20 : Int), (97 : Int)] : List Int) r3.1)
  rw [← hr4] at fr4
  try replace fr4 := fr4.2 (by omega)
  refine r_bd (Γx := fun last5 => [owp (α := Int) p [r4.2.a, r4.2.b, r4.2.c], pr (α := (FF.T4 (List Int) (List (Int × Int)) (List Int) (List Int))) sea, pr (α := Int) place2, pr (α := Int) last5, .un]) (g_set (k_lpick hr4 (a_slot (n := 0) rfl (a_per (e_ix (EN.e (n_lst (a_per e_int (a_per e_int (a_per e_int a_nil))) (.cons _ (.cons _ (.cons _ .nil))))) (k_lpick hr3 (a_slot (n := 0) rfl (a_per e_int a_nil)) rfl (show (3 : Int) ≤ 10 ^ 40 from (by walk_at "side"))) (by walk_at "side")) a_nil)) rfl (show (gi ([(5 : Int), (20 : Int), (97 : Int)] : List Int) r3.1) ≤ 10 ^ 40 from (by walk_at "side")))) fun last5 hlast5 => ?_
  have blast5 : 0 ≤ last5 ∧ last5 ≤ 96 := by
    have g9 := gi3 (a := 5) (b := 20) (c := 97) (m := 97) fr3 (by decide) (by decide) (by decide)
    have g8 := fr4.2 g9.1
    rw [hlast5]
    omega
  refine r_let fun r6 hr6 => ?_
  have fr6 := pick_fact r4.2 (last5 + (1 : Int))
  rw [← hr6] at fr6
  try replace fr6 := fr6.2 (by omega)
  refine r_let fun r7 hr7 => ?_
  have fr7 := pick_fact r6.2 (3 : Int)
  rw [← hr7] at fr7
  try replace fr7 := fr7.2 (by omega)
  refine r_bd (Γx := fun deep8 => [owp (α := Int) p [r7.2.a, r7.2.b, r7.2.c], pr (α := (FF.T4 (List Int) (List (Int × Int)) (List Int) (List Int))) sea, pr (α := Int) place2, pr (α := Int) last5, pr (α := Int) deep8]) (g_set (e_sub (e_add (k_lwater (d := (sea, place2, r6.1)) (a_per (e_var (n := 1) rfl) (a_per (e_var (n := 2) rfl) (a_per (k_lpick hr6 (a_slot (n := 0) rfl (a_per (e_add (e_var (n := 3) rfl) e_int) a_nil)) rfl (show (last5 + (1 : Int)) ≤ 10 ^ 40 from (by walk_at "side"))) a_nil))) (.per (.per (.per .nil))) (show 0 ≤ place2 ∧ place2 < sea.a.length ∧ 0 < sea.c.length from (by walk_at "side"))) (k_lpick hr7 (a_slot (n := 0) rfl (a_per e_int a_nil)) rfl (show (3 : Int) ≤ 10 ^ 40 from (by walk_at "side")))) e_int)) fun deep8 hdeep8 => ?_
  exact r_ret (e_t3 (a_per (e_var (n := 2) rfl) (a_per (e_max2 (a_per e_int (a_per (e_min2 (a_per e_int (a_per (e_var (n := 4) rfl) a_nil))) a_nil))) (a_per (e_var (n := 3) rfl) a_nil)))) rfl (wk_eq wk_nil)
theorem k_lquestion {K : Kf} {m : Bool} {ta : TA} {Γ Γ1 : List Sl} {n : Nat} {a : Option Addr} {x0 : Hd} {x1 : (FF.T4 (List Int) (List (Int × Int)) (List Int) (List Int))} {r : (FF.T3 Int Int Int) × Hd} (hr : r = lquestion x0 x1) (ha : A K m ta Γ Γ1 [.slot n, ap x1]) (hn : Γ1[n]? = some (.own (inferInstance : Rp Int) a [x0.a, x0.b, x0.c])) (hp : SeaW x1) : E K true true (tCall (sp_lquestion K) [] E0 ta) Γ (Γ1.set n (.own (inferInstance : Rp Int) a [r.2.a, r.2.b, r.2.c])) r.1 := by
  subst hr
  exact e_callM (fun p => (p, x0, x1)) ha hn (fun _ => (.here (.per .nil))) (fun _ => hp) 0 (fun _ => rfl) (fun _ => rfl)
theorem kn_lquestion {K : Kf} {m m2 : Bool} {te : TE} {ta : TA} {Γ Γ1 Γ2 : List Sl} {x0 : Hd} {x1 : (FF.T4 (List Int) (List (Int × Int)) (List Int) (List Int))} {r : (FF.T3 Int Int Int) × Hd} (hr : r = lquestion x0 x1) (h : EN K m te Γ Γ1 [x0.a, x0.b, x0.c]) (ha : A K m2 ta Γ1 Γ2 [ap x1]) (hp : SeaW x1) : E K true true (tCall (sp_lquestion K) [] E0 (tCons te ta)) Γ Γ2 r.1 := by
  subst hr
  exact e_callN (fun p => (p, x0, x1)) h ha [pr (α := (FF.T4 (List Int) (List (Int × Int)) (List Int) (List Int))) x1] (fun _ => rfl) (.per .nil) (fun _ => hp) (fun _ => rfl)
abbrev s_lgate_holds : Stmt := (top 29)
abbrev N_lgate_holds : List Str := ["_law_gate", "_law_due", "_law_hour"]
theorem sc_lgate_holds : FnScope N_lgate_holds ["_law_gate", "_law_due"] (defScope s_lgate_holds) := ⟨rfl, rfl, rfl, by decide +kernel, rfl, by decide +kernel, by decide +kernel⟩
abbrev sp_lgate_holds (K : Kf) : Sp := spF K (ι := Gate × (List Int)) (fun d => [pr (α := Gate) d.1, pr (α := (List Int)) d.2]) (fun d => d.1.hours.l.length ≤ 1000 ∧ d.2.length ≤ 1000) (fun d => (lgate_holds d.1 d.2)) (fun d => [])
structure T_lgate_holds (P : Program) (w : World) (K : Kf) (mg : Str → Option Value) (base : Heap) : Prop where
  b_isinstance : mg "isinstance" = none
  cls_Gate : Cls K HasC.c_Gate
  ic_Gate : C8.InsC K HasC.c_Gate
  gcl_Gate : ∃ u, mg "Gate" = some u ∧ RelV (.ref HasC.c_Gate) u
  na_Gate_hours : NoAttr K HasC.c_Gate "hours"
  b_tuple : mg "tuple" = none
  b_list : mg "list" = none
  c__law_int : Cl P w K mg base 1 "_law_int" (sp_lint K)
  b_len : mg "len" = none
  it_Gate : ItM P w K mg base 1 HasC.c_Gate "hours"
theorem ok_lgate_holds {P : Program} {w : World} {K : Kf} {mg : Str → Option Value} {base : Heap} {fa : Addr} {fd : FuncData} (Fd : Fun K "_law_gate_holds" "_law_gate_holds" s_lgate_holds fa fd) (T : T_lgate_holds P w K mg base) : FnOk P w K mg base CX0 2 fa fd ["_law_gate", "_law_due"] (sp_lgate_holds K) := by
  have nd := sc_lgate_holds.nd
  refine fn_body (ρ := Bool) (fun _ => PerR K (fun r => r)) (fun _ _ => []) (fun d => lgate_holds d.1 d.2) Fd sc_lgate_holds (fun _ => rfl) (fun _ => rfl) (fun _ _ _ _ _ _ h => h) fun cdv AA outer s H EE hr => ?_
  refine ⟨_, (pss_cons (ps_if (PW.pt (pw_or (pt_not (pt_val (pe_callB (show CallR _ (.builtin "isinstance") _ from C8.call_isC T.ic_Gate) (by rfl) T.b_isinstance (by decide +kernel) (pa_cons (pv 0) (pa_cons (pe_gX rfl T.gcl_Gate) pa_nil))))) (pw_or (pt_not (pt_val (pe_callB (show CallR _ (.builtin "isinstance") (rIsi K) from call_isi) (by rfl) T.b_isinstance (by decide +kernel) (pa_cons (show PE _ _ (tFld K _ _) from pe_fld (pv 0) rfl) (pa_cons (pe_bltn (v := .ty "tuple") (u := .type "tuple") (by rfl) T.b_tuple (by decide +kernel) rfl) pa_nil))))) (pw_or1 (pt_cmpR (show OpR _ _ (rNeD K) from op_neD hr.units) (pe_callTy (show CallR _ (.type "list") (rList1 K) from cr_list1) (by rfl) T.b_list (by decide +kernel) (pa_cons (show PE _ _ (tFld K _ _) from pe_fld (pv 0) rfl) pa_nil)) (pv 1) (nomark _)))))) (pss_cons (ps_ret pe_bl)
pss_nil) pss_nil)
(pss_cons (ps_if (pt_cmpR op_gt (pe_callB (show CallR _ (.builtin "len") (rLen1 K) from cr_len1) (by rfl) T.b_len PySem.boot_len (pa_cons (pe_lc (own := [("_law_hour", 2)]) (g := gName 2) (tt := _) rfl nd (pi_tup (show PE _ _ (tFld K _ _) from pe_fld (pv 0) rfl)) (blkOk_by (N := N_lgate_holds) (sc := defScope s_lgate_holds) (by decide +kernel)) (fun _ _ _ _ _ => (pg_name (i := 2) nd rfl (by first | exact Or.inl rfl | exact Or.inr rfl))) (fun _ _ _ _ _ => (pts_one (pt_not (pt_val (pe_cl T.c__law_int hr (by decide) (by rfl) (pa_cons (pv 2) pa_nil)))))) (fun _ _ _ _ _ => (pv 2))) pa_nil)) pe_int (nomark _)) (pss_cons (ps_ret pe_bl)
pss_nil) pss_nil)
(pss_cons (ps_ret (pe_cmpR (show OpR _ _ (rEqD K) from op_eqD hr.units) (pe_lc (own := [("_law_hour", 2)]) (g := gName 2) (tt := tYes) rfl nd (pi_own T.it_Gate hr (by decide) (pv 0)) (blkOk_by (N := N_lgate_holds) (sc := defScope s_lgate_holds) (by decide +kernel)) (fun _ _ _ _ _ => (pg_name (i := 2) nd rfl (by first | exact Or.inl rfl | exact Or.inr rfl))) (fun _ _ _ _ _ => pts_nil) (fun _ _ _ _ _ => (pv 2))) (pv 1) (nomark _)))
pss_nil))), ?_⟩
  rintro ⟨gate, due⟩ hp
  have hp : gate.hours.l.length ≤ 1000 ∧ due.length ≤ 1000 := hp
  show R K _ [pr (α := Gate) gate, pr (α := (List Int)) due, .un] _ _ (lgate_holds gate due)
  unfold lgate_holds
  refine r_if (t_or (t_not (t_B (e_isO (e_var (n := 0) rfl)))) fun hb => (t_or (t_not (t_B (e_isi (α := (FF.Tu Int)) (b := true) (e_fldO (e_var (n := 0) rfl) T.cls_Gate T.na_Gate_hours (by rfl)) (by decide +kernel)))) fun hb => (t_test (e_neD (EN.e (n_listT (e_fldO (e_var (n := 0) rfl) T.cls_Gate T.na_Gate_hours (by rfl)))) (e_var (n := 1) rfl) (DtF.ok _) (DtF.ok _))))) (fun hb1 => ?_) (fun hb1 => ?_)
  · try simp only [decide_eq_true_eq, decide_eq_false_iff_not, Bool.and_eq_true, Bool.or_eq_true, Bool.not_eq_true', Bool.not_eq_false', Bool.and_eq_false_iff, Bool.or_eq_false_iff, Int.not_lt, Int.not_le, gt_iff_lt, ge_iff_le] at hb1
    try (simp at hb1; show _)
    refine r_as ?_
    exact r_ret e_bl rfl wk_nil
  · try simp only [decide_eq_true_eq, decide_eq_false_iff_not, Bool.and_eq_true, Bool.or_eq_true, Bool.not_eq_true', Bool.not_eq_false', Bool.and_eq_false_iff, Bool.or_eq_false_iff, Int.not_lt, Int.not_le, gt_iff_lt, ge_iff_le] at hb1
    try (simp at hb1; show _)
    refine r_nil ?_
    refine r_if (t_test (e_gt (e_len (EN.e (n_lcF (t := fun (x2 : Int) => (!(lint x2))) (f := fun (x2 : Int) => x2) (fun (x2 : Int) => [pr (α := Gate) gate, pr (α := (List Int)) due, pr (α := Int) x2]) (w_tup (e_fldO (e_var (n := 0) rfl) T.cls_Gate T.na_Gate_hours (by rfl))) (free_one rfl) (by walk_at "side") (fun _ => tgc_name) (fun x2 hx => (t_not (t_B (k_lint (d := x2) (a_per (e_var (n := 2) rfl) a_nil) (.per .nil))))) (fun x2 hx hb => (e_var (n := 2) rfl)) (fun _ => (wk_eq (wk_eq (wk_un wk_nil))))))) e_int)) (fun hb3 => ?_) (fun hb3 => ?_)
    · try simp only [decide_eq_true_eq, decide_eq_false_iff_not, Bool.and_eq_true, Bool.or_eq_true, Bool.not_eq_true', Bool.not_eq_false', Bool.and_eq_false_iff, Bool.or_eq_false_iff, Int.not_lt, Int.not_le, gt_iff_lt, ge_iff_le] at hb3
      try (simp at hb3; show _)
      refine r_as ?_
      exact r_ret e_bl rfl wk_nil
    · try simp only [decide_eq_true_eq, decide_eq_false_iff_not, Bool.and_eq_true, Bool.or_eq_true, Bool.not_eq_true', Bool.not_eq_false', Bool.and_eq_false_iff, Bool.or_eq_false_iff, Int.not_lt, Int.not_le, gt_iff_lt, ge_iff_le] at hb3
      try (simp at hb3; show _)
      refine r_nil ?_
      exact r_ret (e_eqD (EN.e (n_lc (f := fun (x4 : Int) => x4) (fun (x4 : Int) => [pr (α := Gate) gate, pr (α := (List Int)) due, pr (α := Int) x4]) (w_own (e_var (n := 0) rfl) (by rfl)) (free_one rfl) (by walk_at "side") (fun _ => tgc_name) (fun x4 hx => (e_var (n := 2) rfl)) (fun _ => (wk_eq (wk_eq (wk_un wk_nil)))))) (e_var (n := 1) rfl) (DtF.ok _) (DtF.ok _)) rfl wk_nil
theorem k_lgate_holds {K : Kf} {m : Bool} {ta : TA} {Γ Γ1 : List Sl} {as : List Ar} {d : Gate × (List Int)} (ha : A K m ta Γ Γ1 as) (hm : Mt as [pr (α := Gate) d.1, pr (α := (List Int)) d.2]) (hp : d.1.hours.l.length ≤ 1000 ∧ d.2.length ≤ 1000) : E K m true (tCall (sp_lgate_holds K) [] E0 ta) Γ Γ1 (lgate_holds d.1 d.2) := e_call d ha hm hp
abbrev s_l_law : Stmt := (top 30)
abbrev N_l_law : List Str := ["_law_script", "_law_hand_here", "_law_sea_here", "_law_questions", "_law_chart_here", "_law_k", "_law_place", "_law_deep", "_law_due", "_law_when"]
theorem sc_l_law : FnScope N_l_law ["_law_script"] (defScope s_l_law) := ⟨rfl, rfl, rfl, by decide +kernel, rfl, by decide +kernel, by decide +kernel⟩
abbrev sp_l_law (K : Kf) : Sp := spF K (ι := (FF.Sq Int)) (fun d => [pr (α := (FF.Sq Int)) d]) (fun d => True) (fun d => (l_law d)) (fun d => [])
structure T_l_law (P : Program) (w : World) (K : Kf) (mg : Str → Option Value) (base : Heap) : Prop where
  c__law_hand : Cl P w K mg base 1 "_law_hand" (sp_lhand K)
  c__law_pick : Cl P w K mg base 1 "_law_pick" (sp_lpick K)
  c__law_sea : Cl P w K mg base 3 "_law_sea" (sp_lsea K)
  c__law_tides : Cl P w K mg base 2 "_law_tides" (sp_ltides K)
  c__law_question : Cl P w K mg base 2 "_law_question" (sp_lquestion K)
  c__law_chart : Cl P w K mg base 6 "_law_chart" (sp_lchart K)
  b_range : mg "range" = none
  c__law_water : Cl P w K mg base 1 "_law_water" (sp_lwater K)
  c_tide_gate : Cl P w K mg base 3 "tide_gate" (sp_p_tide_gate K)
  c__law_gate_holds : Cl P w K mg base 2 "_law_gate_holds" (sp_lgate_holds K)
theorem ok_l_law {P : Program} {w : World} {K : Kf} {mg : Str → Option Value} {base : Heap} {fa : Addr} {fd : FuncData} (Fd : Fun K "law" "law" s_l_law fa fd) (T : T_l_law P w K mg base) : FnOk P w K mg base CX0 7 fa fd ["_law_script"] (sp_l_law K) := by
  have nd := sc_l_law.nd
  refine fn_body (ρ := Bool) (fun _ => PerR K (fun r => r)) (fun _ _ => []) (fun d => l_law d) Fd sc_l_law (fun _ => rfl) (fun _ => rfl) (fun _ _ _ _ _ _ h => h) fun cdv AA outer s H EE hr => ?_
  refine ⟨_, (pss_cons (ps_set (i := 1) nd rfl (by first | exact Or.inl rfl | exact Or.inr rfl) (pe_cl T.c__law_hand hr (by decide) (by rfl) (pa_cons (pv 0) (pa_cons pe_int pa_nil))))
(pss_cons (ps_set (i := 2) nd rfl (by first | exact Or.inl rfl | exact Or.inr rfl) (pe_cl T.c__law_sea hr (by decide) (by rfl) (pa_cons (pv 1) (pa_cons (pe_ix (show IxR _ (rIxL K) from ix_list) (pe_lst (pa_cons pe_int (pa_cons pe_int (pa_cons pe_int (pa_cons pe_int (pa_cons pe_int (pa_cons pe_int (pa_cons pe_int (pa_cons pe_int pa_nil))))))))) (pe_cl T.c__law_pick hr (by decide) (by rfl) (pa_cons (pv 1) (pa_cons pe_int pa_nil))) (fun _ _ => rfl)) pa_nil))))
(pss_cons (ps_set (i := 2) nd rfl (by first | exact Or.inl rfl | exact Or.inr rfl) (pe_cl T.c__law_tides hr (by decide) (by rfl) (pa_cons (pe_cl T.c__law_hand hr (by decide) (by rfl) (pa_cons (pv 0) (pa_cons pe_int pa_nil))) (pa_cons (pv 2) pa_nil))))
(pss_cons (ps_set (i := 3) nd rfl (by first | exact Or.inl rfl | exact Or.inr rfl) (pe_lst (pa_cons (pe_cl T.c__law_question hr (by decide) (by rfl) (pa_cons (pe_cl T.c__law_hand hr (by decide) (by rfl) (pa_cons (pv 0) (pa_cons pe_int pa_nil))) (pa_cons (pv 2) pa_nil))) (pa_cons (pe_cl T.c__law_question hr (by decide) (by rfl) (pa_cons (pe_cl T.c__law_hand hr (by decide) (by rfl) (pa_cons (pv 0) (pa_cons pe_int pa_nil))) (pa_cons (pv 2) pa_nil))) pa_nil))))
(pss_cons (ps_set (i := 4) nd rfl (by first | exact Or.inl rfl | exact Or.inr rfl) (pe_cl T.c__law_chart hr (by decide) (by rfl) (pa_cons (pv 2) pa_nil)))
(pss_cons (ps_for PassesOwn.never rfl (pi_list (pe_lst (pa_cons pe_int (pa_cons pe_int (pa_cons pe_int pa_nil))))) (pg_name (i := 5) nd rfl (by first | exact Or.inl rfl | exact Or.inr rfl)) (pss_cons (ps_set (i := 6) nd rfl (by first | exact Or.inl rfl | exact Or.inr rfl) (pe_ix (show IxR _ (rIxT K) from ix_tup) (pe_ix (show IxR _ (rIxL K) from ix_list) (pv 3) (pv 5) (fun _ _ => rfl)) pe_int (fun _ _ => rfl)))
(pss_cons (ps_set (i := 7) nd rfl (by first | exact Or.inl rfl | exact Or.inr rfl) (pe_ix (show IxR _ (rIxT K) from ix_tup) (pe_ix (show IxR _ (rIxL K) from ix_list) (pv 3) (pv 5) (fun _ _ => rfl)) pe_int (fun _ _ => rfl)))
(pss_cons (ps_setLc (i := 8) (own := [("_law_when", 9)]) (g := gName 9) (tt := _) rfl nd rfl rfl (sw_true rfl rfl rfl (by decide +kernel)) (pi_range1 rfl T.b_range (pa_cons (pe_op op_add (pe_ix (show IxR _ (rIxT K) from ix_tup) (pe_ix (show IxR _ (rIxL K) from ix_list) (pv 3) (pv 5) (fun _ _ => rfl)) pe_int (fun _ _ => rfl)) pe_int) pa_nil)) (blkOk_by (N := N_l_law) (sc := defScope s_l_law) (by decide +kernel)) (fun _ _ _ _ _ => (pg_name (i := 9) nd rfl (by first | exact Or.inl rfl | exact Or.inr rfl))) (fun _ _ _ _ _ => (pts_one (pt_cmpR op_ge (pe_cl T.c__law_water hr (by decide) (by rfl) (pa_cons (pv 2) (pa_cons (pv 6) (pa_cons (pv 9) pa_nil)))) (pv 7) (nomark _)))) (fun _ _ _ _ _ => (pv 9)))
(pss_cons (ps_if (pt_not (pt_val (pe_cl T.c__law_gate_holds hr (by decide) (by rfl) (pa_cons (pe_cl T.c_tide_gate hr (by decide) (by rfl) (pa_cons (pv 4) (pa_cons (pv 6) (pa_cons (pv 7) (pa_cons (pe_ix (show IxR _ (rIxT K) from ix_tup) (pe_ix (show IxR _ (rIxL K) from ix_list) (pv 3) (pv 5) (fun _ _ => rfl)) pe_int (fun _ _ => rfl)) pa_nil))))) (pa_cons (pv 8) pa_nil))))) (pss_cons (ps_ret pe_bl)
pss_nil) pss_nil)
pss_nil)))))
(pss_cons (ps_ret pe_bl)
pss_nil))))))), ?_⟩
  intro script hp
  show R K _ [pr (α := (FF.Sq Int)) script, .un, .un, .un, .un, .un, .un, .un, .un, .un] _ _ (l_law script)
  unfold l_law
  refine r_bd (Γx := fun hand1 => [pr (α := (FF.Sq Int)) script, ow (α := Int) [hand1.a, hand1.b, hand1.c], .un, .un, .un, .un, .un, .un, .un, .un]) (g_setN (k_lhand (d := (script, (0 : Int))) (a_per (e_var (n := 0) rfl) (a_per e_int a_nil)) (.per (.per .nil)) (show 0 ≤ (0 : Int) ∧ (0 : Int) ≤ 100 from (by walk_at "side")))) fun hand1 hhand1 => ?_
  refine r_let fun r2 hr2 => ?_
  have fr2 := pick_fact hand1 (8 : Int)
  rw [← hr2] at fr2
  try replace fr2 := fr2.2 (by omega)
  refine r_let fun r3 hr3 => ?_
  have fr3 := sea_fact r2.2 (gi ([(6 : Int), (6 : Int), (6 : Int), (6 : Int), (6 : Int), (6 : Int), (6 : Int), (12 : Int)] : List Int) r2.1) (by exact gi8 (by omega))
  rw [← hr3] at fr3
  refine r_bd (Γx := fun sea4 => [pr (α := (FF.Sq Int)) script, ow (α := Int) [r3.2.a, r3.2.b, r3.2.c], pr (α := (FF.T4 (List Int) (List (Int × Int)) (List Int) (List Int))) sea4, .un, .un, .un, .un, .un, .un, .un]) (g_set (k_lsea hr3 (a_slot (n := 1) rfl (a_per (e_ix (EN.e (n_lst (a_per e_int (a_per e_int (a_per e_int (a_per e_int (a_per e_int (a_per e_int (a_per e_int (a_per e_int a_nil)))))))) (.cons _ (.cons _ (.cons _ (.cons _ (.cons _ (.cons _ (.cons _ (.cons _ .nil)))))))))) (k_lpick hr2 (a_slot (n := 1) rfl (a_per e_int a_nil)) rfl (show (8 : Int) ≤ 10 ^ 40 from (by walk_at "side"))) (by walk_at "side")) a_nil)) rfl (show 0 ≤ (gi ([(6 : Int), (6 : Int), (6 : Int), (6 : Int), (6 : Int), (6 : Int), (6 : Int), (12 : Int)] : List Int) r2.1) ∧ (gi ([(6 : Int), (6 : Int), (6 : Int), (6 : Int), (6 : Int), (6 : Int), (6 : Int), (12 : Int)] : List Int) r2.1) ≤ 12 from (by walk_at "side")))) fun sea4 hsea4 => ?_
  try have qsea4 : SeaOk sea4 := by rw [hsea4]; assumption
  try have wsea4 : SeaW sea4 := by rw [hsea4]; exact fr5.1
  refine r_let fun r5 hr5 => ?_
  have fr5 := tides_fact (lhand script (1 : Int)) sea4 (by assumption)
  rw [← hr5] at fr5
  refine r_bd (Γx := fun sea6 => [pr (α := (FF.Sq Int)) script, ow (α := Int) [r3.2.a, r3.2.b, r3.2.c], pr (α := (FF.T4 (List Int) (List (Int × Int)) (List Int) (List Int))) sea6, .un, .un, .un, .un, .un, .un, .un]) (g_set (kn_ltides hr5 (k_lhand (d := (script, (1 : Int))) (a_per (e_var (n := 0) rfl) (a_per e_int a_nil)) (.per (.per .nil)) (show 0 ≤ (1 : Int) ∧ (1 : Int) ≤ 100 from (by walk_at "side"))) (a_per (e_var (n := 2) rfl) a_nil) (show sea4.c.length ≤ 100 from (by walk_at "side")))) fun sea6 hsea6 => ?_
  try have qsea6 : SeaOk sea6 := by rw [hsea6]; assumption
  try have wsea6 : SeaW sea6 := by rw [hsea6]; exact fr5.1
  refine r_let fun r7 hr7 => ?_
  have fr7 := quest_fact (lhand script (2 : Int)) sea6 (by assumption)
  rw [← hr7] at fr7
  refine r_let fun r8 hr8 => ?_
  have fr8 := quest_fact (lhand script (3 : Int)) sea6 (by assumption)
  rw [← hr8] at fr8
  refine r_bd (Γx := fun questions9 => [pr (α := (FF.Sq Int)) script, ow (α := Int) [r3.2.a, r3.2.b, r3.2.c], pr (α := (FF.T4 (List Int) (List (Int × Int)) (List Int) (List Int))) sea6, pr (α := (List (FF.T3 Int Int Int))) questions9, .un, .un, .un, .un, .un, .un]) (g_set (EN.e (n_lst (a_per (kn_lquestion hr7 (k_lhand (d := (script, (2 : Int))) (a_per (e_var (n := 0) rfl) (a_per e_int a_nil)) (.per (.per .nil)) (show 0 ≤ (2 : Int) ∧ (2 : Int) ≤ 100 from (by walk_at "side"))) (a_per (e_var (n := 2) rfl) a_nil) (show SeaW sea6 from (by walk_at "side"))) (a_per (kn_lquestion hr8 (k_lhand (d := (script, (3 : Int))) (a_per (e_var (n := 0) rfl) (a_per e_int a_nil)) (.per (.per .nil)) (show 0 ≤ (3 : Int) ∧ (3 : Int) ≤ 100 from (by walk_at "side"))) (a_per (e_var (n := 2) rfl) a_nil) (show SeaW sea6 from (by walk_at "side"))) a_nil)) (.cons _ (.cons _ .nil))))) fun questions9 hquestions9 => ?_
  have lquestions9 : questions9.length = 2 := by rw [hquestions9]; rfl
  have Qquestions9 : ∀ k : Int, 0 ≤ k ∧ k < 2 → QOk sea6 (gi questions9 k) := by rw [hquestions9]; exact two_q fr7 fr8
  refine r_bd (Γx := fun chart10 => [pr (α := (FF.Sq Int)) script, ow (α := Int) [r3.2.a, r3.2.b, r3.2.c], pr (α := (FF.T4 (List Int) (List (Int × Int)) (List Int) (List Int))) sea6, pr (α := (List (FF.T3 Int Int Int))) questions9, pr (α := Chart) chart10, .un, .un, .un, .un, .un]) (g_set (k_lchart (d := sea6) (a_per (e_var (n := 2) rfl) a_nil) (.per .nil) (show sea6.a.length ≤ 100 ∧ sea6.b.length ≤ 66 ∧ sea6.c.length ≤ 100 ∧ sea6.d.length ≤ 100 ∧ p_wrong_part_of_chart_LLLL sea6.a sea6.b sea6.c sea6.d = none from (by walk_at "side")))) fun chart10 hchart10 => ?_
  have qchart10 : OfSea chart10 sea6 := by rw [hchart10]; exact ofSea (by assumption)
  have z1 := qchart10.dl
  have z2 := qchart10.zt
  have z3 := wsea6.f1
  have z4 := wsea6.n12
  refine r_for (fun s12 : Unit => [pr (α := (FF.Sq Int)) script, ow (α := Int) [r3.2.a, r3.2.b, r3.2.c], pr (α := (FF.T4 (List Int) (List (Int × Int)) (List Int) (List Int))) sea6, pr (α := (List (FF.T3 Int Int Int))) questions9, pr (α := Chart) chart10, .un, .un, .un, .un, .un]) (fun (s12 : Unit) (x11 : Int) => [pr (α := (FF.Sq Int)) script, ow (α := Int) [r3.2.a, r3.2.b, r3.2.c], pr (α := (FF.T4 (List Int) (List (Int × Int)) (List Int) (List Int))) sea6, pr (α := (List (FF.T3 Int Int Int))) questions9, pr (α := Chart) chart10, pr (α := Int) x11, .un, .un, .un, .un]) (fun (n : Nat) (s12 : Unit) => True) (w_list (EN.e (n_lst (a_per e_int (a_per e_int (a_per e_int a_nil))) (.cons _ (.cons _ (.cons _ .nil)))))) ?_ ?_ ?_ ?_ ?_ fun e13 he13 hve13 => ?_
  · exact (wk_eq (wk_eq (wk_eq (wk_eq (wk_eq (wk_un (wk_un (wk_un (wk_un (wk_un wk_nil))))))))))
  · exact trivial
  · intro _ _; exact tg_name
  · intro n1 s12 x11 hx1 hi1
    have hm1 := List.mem_of_getElem? hx1
    have b11 := mem010 hm1
    have q11 := Qquestions9 x11 b11
    have c11 := q11.c
    refine b_bd (Γx := fun place14 => [pr (α := (FF.Sq Int)) script, ow (α := Int) [r3.2.a, r3.2.b, r3.2.c], pr (α := (FF.T4 (List Int) (List (Int × Int)) (List Int) (List Int))) sea6, pr (α := (List (FF.T3 Int Int Int))) questions9, pr (α := Chart) chart10, pr (α := Int) x11, pr (α := Int) place14, .un, .un, .un]) (g_set (e_p3a (e_ix (e_var (n := 3) rfl) (e_var (n := 5) rfl) (by walk_at "side")))) fun place14 hplace14 => ?_
    have pplace14 : 0 ≤ place14 ∧ place14 < sea6.a.length := by rw [hplace14]; exact q11.a
    refine b_bd (Γx := fun deep15 => [pr (α := (FF.Sq Int)) script, ow (α := Int) [r3.2.a, r3.2.b, r3.2.c], pr (α := (FF.T4 (List Int) (List (Int × Int)) (List Int) (List Int))) sea6, pr (α := (List (FF.T3 Int Int Int))) questions9, pr (α := Chart) chart10, pr (α := Int) x11, pr (α := Int) place14, pr (α := Int) deep15, .un, .un]) (g_set (e_p3b (e_ix (e_var (n := 3) rfl) (e_var (n := 5) rfl) (by walk_at "side")))) fun deep15 hdeep15 => ?_
    refine b_bd (Γx := fun due17 => [pr (α := (FF.Sq Int)) script, ow (α := Int) [r3.2.a, r3.2.b, r3.2.c], pr (α := (FF.T4 (List Int) (List (Int × Int)) (List Int) (List Int))) sea6, pr (α := (List (FF.T3 Int Int Int))) questions9, pr (α := Chart) chart10, pr (α := Int) x11, pr (α := Int) place14, pr (α := Int) deep15, pr (α := (List Int)) due17, .un]) (g_set (EN.e (n_lcF (t := fun (x16 : Int) => (decide ((lwater sea6 place14 x16) ≥ deep15))) (f := fun (x16 : Int) => x16) (fun (x16 : Int) => [pr (α := (FF.Sq Int)) script, ow (α := Int) [r3.2.a, r3.2.b, r3.2.c], pr (α := (FF.T4 (List Int) (List (Int × Int)) (List Int) (List Int))) sea6, pr (α := (List (FF.T3 Int Int Int))) questions9, pr (α := Chart) chart10, pr (α := Int) x11, pr (α := Int) place14, pr (α := Int) deep15, .un, pr (α := Int) x16]) (w_rng1 (a_per (e_add (e_p3c (e_ix (e_var (n := 3) rfl) (e_var (n := 5) rfl) (by walk_at "side"))) e_int) a_nil) (by walk_at "side") (by walk_at "side")) (free_one rfl) (by walk_at "side") (fun _ => tgc_name) (fun x16 hx => (t_test (e_ge (k_lwater (d := (sea6, place14, x16)) (a_per (e_var (n := 2) rfl) (a_per (e_var (n := 6) rfl) (a_per (e_var (n := 9) rfl) a_nil))) (.per (.per (.per .nil))) (show 0 ≤ place14 ∧ place14 < sea6.a.length ∧ 0 < sea6.c.length from (by walk_at "side"))) (e_var (n := 7) rfl)))) (fun x16 hx hb => (e_var (n := 9) rfl)) (fun _ => (wk_eq (wk_eq (wk_eq (wk_eq (wk_eq (wk_eq (wk_eq (wk_eq (wk_un (wk_un wk_nil)))))))))))))) fun due17 hdue17 => ?_
    have ldue17 : due17.length ≤ 1000 := by rw [hdue17]; exact filt_len (by have := q11.c; omega)
    refine b_if (t_not (t_B (k_lgate_holds (d := ((p_tide_gate chart10 place14 deep15 ((gi questions9 x11).c)), due17)) (a_per (k_p_tide_gate (d := (chart10, place14, deep15, (gi questions9 x11).c)) (a_per (e_var (n := 4) rfl) (a_per (e_var (n := 6) rfl) (a_per (e_var (n := 7) rfl) (a_per (e_p3c (e_ix (e_var (n := 3) rfl) (e_var (n := 5) rfl) (by walk_at "side"))) a_nil)))) (.per (.per (.per (.per .nil)))) (show (0 ≤ place14 ∧ place14 < chart10.depths.l.length) ∧ 0 < chart10.tide.l.length ∧ 0 ≤ ((gi questions9 x11).c) ∧ ((gi questions9 x11).c) ≤ 100 from (by walk_at "side"))) (a_per (e_var (n := 8) rfl) a_nil)) (.per (.per .nil)) (show (p_tide_gate chart10 place14 deep15 ((gi questions9 x11).c)).hours.l.length ≤ 1000 ∧ due17.length ≤ 1000 from (by walk_at "side"))))) (fun hb18 => ?_) (fun hb18 => ?_)
    · try simp only [decide_eq_true_eq, decide_eq_false_iff_not, Bool.and_eq_true, Bool.or_eq_true, Bool.not_eq_true', Bool.not_eq_false', Bool.and_eq_false_iff, Bool.or_eq_false_iff, Int.not_lt, Int.not_le, gt_iff_lt, ge_iff_le] at hb18
      try (simp at hb18; show _)
      refine b_as ?_
      exact b_ret e_bl rfl wk_nil
    · try simp only [decide_eq_true_eq, decide_eq_false_iff_not, Bool.and_eq_true, Bool.or_eq_true, Bool.not_eq_true', Bool.not_eq_false', Bool.and_eq_false_iff, Bool.or_eq_false_iff, Int.not_lt, Int.not_le, gt_iff_lt, ge_iff_le] at hb18
      try (simp at hb18; show _)
      refine b_nil ?_
      exact b_nx (wk_eq (wk_eq (wk_eq (wk_eq (wk_eq (wk_un (wk_un (wk_un (wk_un (wk_un wk_nil))))))))))
  · intro n1 s12 x11 s' hx1 hi1 hs1
    exact trivial
  exact r_ret e_bl rfl wk_nil
theorem k_l_law {K : Kf} {m : Bool} {ta : TA} {Γ Γ1 : List Sl} {as : List Ar} {d : (FF.Sq Int)} (ha : A K m ta Γ Γ1 as) (hm : Mt as [pr (α := (FF.Sq Int)) d]) : E K m true (tCall (sp_l_law K) [] E0 ta) Γ Γ1 (l_law d) := e_call d ha hm trivial
end LW

set_option Elab.async false
set_option linter.all false
set_option maxRecDepth 100000
set_option maxHeartbeats 0
namespace LW
open PySem L2 FF PyProof.Rows He PySem.Calls
def D_Gate___init__ : DefD := ⟨("Gate", some "__init__"), "__init__", "Gate.__init__", defArgs s_p_Gate___init__, defBody s_p_Gate___init__, defScope s_p_Gate___init__, [], []⟩
def D_Gate___iter__ : DefD := ⟨("Gate", some "__iter__"), "__iter__", "Gate.__iter__", defArgs s_p_Gate___iter__, defBody s_p_Gate___iter__, defScope s_p_Gate___iter__, [], []⟩
def D_right_row : DefD := ⟨("right_row", none), "right_row", "right_row", defArgs s_p_right_row_L, defBody s_p_right_row_L, defScope s_p_right_row_L, [], []⟩
def D_lower_first : DefD := ⟨("lower_first", none), "lower_first", "lower_first", defArgs s_p_lower_first, defBody s_p_lower_first, defScope s_p_lower_first, [], []⟩
def D_right_lanes : DefD := ⟨("right_lanes", none), "right_lanes", "right_lanes", defArgs s_p_right_lanes_L, defBody s_p_right_lanes_L, defScope s_p_right_lanes_L, [], []⟩
def D_right_zone : DefD := ⟨("right_zone", none), "right_zone", "right_zone", defArgs s_p_right_zone_L, defBody s_p_right_zone_L, defScope s_p_right_zone_L, [], []⟩
def D_wrong_part_of_chart : DefD := ⟨("wrong_part_of_chart", none), "wrong_part_of_chart", "wrong_part_of_chart", defArgs s_p_wrong_part_of_chart_LLLL, defBody s_p_wrong_part_of_chart_LLLL, defScope s_p_wrong_part_of_chart_LLLL, [], []⟩
def D_places_beside : DefD := ⟨("places_beside", none), "places_beside", "places_beside", defArgs s_p_places_beside, defBody s_p_places_beside, defScope s_p_places_beside, [], []⟩
def D_Chart___init__ : DefD := ⟨("Chart", some "__init__"), "__init__", "Chart.__init__", defArgs s_p_Chart___init___LLLL, defBody s_p_Chart___init___LLLL, defScope s_p_Chart___init___LLLL, [], [("tide", .adr (kwAt ("Chart", some "__init__") "tide")), ("harbours", .adr (kwAt ("Chart", some "__init__") "harbours"))]⟩
def D_Chart_water : DefD := ⟨("Chart", some "water"), "water", "Chart.water", defArgs s_p_Chart_water, defBody s_p_Chart_water, defScope s_p_Chart_water, [], []⟩
def D_tide_gate : DefD := ⟨("tide_gate", none), "tide_gate", "tide_gate", defArgs s_p_tide_gate, defBody s_p_tide_gate, defScope s_p_tide_gate, [], []⟩
def D_law_hand : DefD := ⟨("_law_hand", none), "_law_hand", "_law_hand", defArgs s_lhand, defBody s_lhand, defScope s_lhand, [], []⟩
def D_law_pick : DefD := ⟨("_law_pick", none), "_law_pick", "_law_pick", defArgs s_lpick, defBody s_lpick, defScope s_lpick, [], []⟩
def D_law_int : DefD := ⟨("_law_int", none), "_law_int", "_law_int", defArgs s_lint, defBody s_lint, defScope s_lint, [], []⟩
def D_law_some : DefD := ⟨("_law_some", none), "_law_some", "_law_some", defArgs s_lsome, defBody s_lsome, defScope s_lsome, [], []⟩
def D_law_sea : DefD := ⟨("_law_sea", none), "_law_sea", "_law_sea", defArgs s_lsea, defBody s_lsea, defScope s_lsea, [], []⟩
def D_law_chart : DefD := ⟨("_law_chart", none), "_law_chart", "_law_chart", defArgs s_lchart, defBody s_lchart, defScope s_lchart, [], []⟩
def D_law_water : DefD := ⟨("_law_water", none), "_law_water", "_law_water", defArgs s_lwater, defBody s_lwater, defScope s_lwater, [], []⟩
def D_law_tides : DefD := ⟨("_law_tides", none), "_law_tides", "_law_tides", defArgs s_ltides, defBody s_ltides, defScope s_ltides, [], []⟩
def D_law_question : DefD := ⟨("_law_question", none), "_law_question", "_law_question", defArgs s_lquestion, defBody s_lquestion, defScope s_lquestion, [], []⟩
def D_law_gate_holds : DefD := ⟨("_law_gate_holds", none), "_law_gate_holds", "_law_gate_holds", defArgs s_lgate_holds, defBody s_lgate_holds, defScope s_lgate_holds, [], []⟩
def D_law : DefD := ⟨("law", none), "law", "law", defArgs s_l_law, defBody s_l_law, defScope s_l_law, [], []⟩
def fn : List DefD := [D_Gate___init__, D_Gate___iter__, D_right_row, D_lower_first, D_right_lanes, D_right_zone, D_wrong_part_of_chart, D_places_beside, D_Chart___init__, D_Chart_water, D_tide_gate, D_law_hand, D_law_pick, D_law_int, D_law_some, D_law_sea, D_law_chart, D_law_water, D_law_tides, D_law_question, D_law_gate_holds, D_law]
def fa : List Fa := [.free "sorted", .free "tuple", .cls "Gate", .noat "Gate" "hours", .free "iter", .meth "Gate" "__iter__", .free "len", .int "LONGEST_ROW" 12, .free "all", .glo "right_row", .free "min", .free "max", .glo "lower_first", .free "set", .glo "right_lanes", .glo "right_zone", .int "GREATEST_DEPTH" 99, .int "GREATEST_TIDE" 20, .glo "wrong_part_of_chart", .glo "places_beside", .cls "Chart", .noat "Chart" "depths", .noat "Chart" "lanes", .noat "Chart" "tide", .noat "Chart" "harbours", .noat "Chart" "size", .free "range", .noat "Chart" "_beside", .meth "Chart" "water", .glo "tide_gate", .free "int", .glo "_law_hand", .glo "_law_pick", .free "isinstance", .free "bool", .glo "_law_int", .glo "_law_some", .glo "_law_sea", .free "list", .glo "_law_chart", .glo "_law_water", .glo "_law_tides", .glo "_law_question", .glo "Gate", .glo "_law_gate_holds", .mkr "Gate", .mkr "Chart", .glo "Chart", .glo "law"]
abbrev RR : PySem.W.OpenRow := PySem.W.OpenLaw.row PySem.Challenge.rw_fogfleet_k40_tide_gate
def ex (K : Kf) : Bool := tupAt (kwAt ("Chart", some "__init__") "tide" K) [V.int 0] K && tupAt (kwAt ("Chart", some "__init__") "harbours" K) [] K && insB K (ga K "Gate")
abbrev hk : PySem.W.Hook := hookE 6 fa fn ex
def ob (s : PySem.W.SharedT) : AlD × Bool := obsEG 6 fa fn ex (HandSHeadRun.getT s)
theorem ob_eq (s : PySem.W.SharedT) : ob s = hk.obs s.abs := obsEG_eq (HandSHeadRun.getT_eq s)
def loose : List PySem.Str := (["_wall", "Gate", "tide_gate", "FleetError", "InvalidChart", "right_zone", "LONGEST_ROW", "GREATEST_DEPTH", "GREATEST_TIDE", "right_row", "lower_first", "right_lanes", "wrong_part_of_chart", "places_beside", "Chart", "_law_hand", "_law_pick", "_law_int", "_law_some", "_law_sea"] : List PySem.Str) ++ (["_law_chart", "_law_water", "_law_tides", "_law_question", "_law_gate_holds"] : List PySem.Str)
theorem run (w : World) : HandSHeadRun.RunEq RR (PySem.W.view RR.prog [30]) hk ob 4000 loose w := by
  intro os
  kernel_rfl
theorem facts {P : Program} {w : World} {K : Kf} {h : Heap} {mg : Str → Option Value} {f : Addr} (X : K.In h) (G : h.Ns mainGlobals mg) (hfa : mg ("law" : PySem.Str) = some (.ref f)) (c : SaysD fa fn K) (hx : ex K = true) :
    ∃ fd : FuncData, (∀ (s : Shared) (v : Value), BindsTo s fd ⟨[v], []⟩ [("_law_script", v)]) ∧ ∀ base : Heap, K.In base → base.Ns mainGlobals mg → FnOk P w K mg base CX0 7 f fd ["_law_script"] (spF K (ι := FF.Sq Int) (fun d => [pr (α := FF.Sq Int) d]) (fun _ => True) (fun d => l_law d) (fun _ => [])) := by
  letI : HasC := ⟨ga K "Chart", ga K "Gate", kwAt ("Chart", some "__init__") "tide" K, kwAt ("Chart", some "__init__") "harbours" K⟩
  unfold ex at hx
  simp only [Bool.and_eq_true] at hx
  have hxd0 := hx.1.1
  have hxd1 := hx.1.2
  have hx_ins_Gate := hx.2
  obtain ⟨fd0, F0⟩ := c.def_ 0 (d := D_Gate___init__) rfl
  obtain ⟨fd1, F1⟩ := c.def_ 1 (d := D_Gate___iter__) rfl
  obtain ⟨fd2, F2⟩ := c.def_ 2 (d := D_right_row) rfl
  obtain ⟨fd3, F3⟩ := c.def_ 3 (d := D_lower_first) rfl
  obtain ⟨fd4, F4⟩ := c.def_ 4 (d := D_right_lanes) rfl
  obtain ⟨fd5, F5⟩ := c.def_ 5 (d := D_right_zone) rfl
  obtain ⟨fd6, F6⟩ := c.def_ 6 (d := D_wrong_part_of_chart) rfl
  obtain ⟨fd7, F7⟩ := c.def_ 7 (d := D_places_beside) rfl
  obtain ⟨fd8, F8⟩ := c.def_ 8 (d := D_Chart___init__) rfl
  obtain ⟨fd9, F9⟩ := c.def_ 9 (d := D_Chart_water) rfl
  obtain ⟨fd10, F10⟩ := c.def_ 10 (d := D_tide_gate) rfl
  obtain ⟨fd11, F11⟩ := c.def_ 11 (d := D_law_hand) rfl
  obtain ⟨fd12, F12⟩ := c.def_ 12 (d := D_law_pick) rfl
  obtain ⟨fd13, F13⟩ := c.def_ 13 (d := D_law_int) rfl
  obtain ⟨fd14, F14⟩ := c.def_ 14 (d := D_law_some) rfl
  obtain ⟨fd15, F15⟩ := c.def_ 15 (d := D_law_sea) rfl
  obtain ⟨fd16, F16⟩ := c.def_ 16 (d := D_law_chart) rfl
  obtain ⟨fd17, F17⟩ := c.def_ 17 (d := D_law_water) rfl
  obtain ⟨fd18, F18⟩ := c.def_ 18 (d := D_law_tides) rfl
  obtain ⟨fd19, F19⟩ := c.def_ 19 (d := D_law_question) rfl
  obtain ⟨fd20, F20⟩ := c.def_ 20 (d := D_law_gate_holds) rfl
  obtain ⟨fd21, F21⟩ := c.def_ 21 (d := D_law) rfl
  have e := hfa.symm.trans (glo_ok X G (c.fact 48 (f := .glo "law") rfl))
  cases e
  have b := FunD.bindsA (ps := ["_law_script"]) F21 fun _ _ _ _ _ _ us hl => match us, hl with | [_], _ => rfl
  refine ⟨fd21, fun s v => b s [v] rfl, fun base _ _ => ?_⟩
  have dv_Chart_tide : ∀ (H0 H : Hp) (σ : L2.St), arOk K H0 H σ (.ref (kwAt ("Chart", some "__init__") "tide" K)) (ap (α := (FF.Tu Int)) (FF.Tu.mk [0])) := fun H0 _ _ => ⟨_, _, rfl, tupAt_ok hxd0 H0, map_ints [0]⟩
  have dv_Chart_harbours : ∀ (H0 H : Hp) (σ : L2.St), arOk K H0 H σ (.ref (kwAt ("Chart", some "__init__") "harbours" K)) (ap (α := (FF.Tu Int)) (FF.Tu.mk [])) := fun H0 _ _ => ⟨_, _, rfl, tupAt_ok hxd1 H0, map_ints ([] : List Int)⟩
  have K_p_Gate___init__ : FnOk P w K mg base CX0 1 _ fd0 ["self", "hours"] (sp_p_Gate___init__ K) := ok_p_Gate___init__ (FF.FunD.toFun F0) ⟨free_ok X G (c.fact 0 (f := .free "sorted") rfl), free_ok X G (c.fact 1 (f := .free "tuple") rfl), cls_ok (c.fact 2 (f := .cls "Gate") rfl), noat_ok (c.fact 3 (f := .noat "Gate" "hours") rfl)⟩
  have mk_Gate_1_ : MkP P w K mg base 1 "Gate" (ga K "Gate") [] (sp_p_Gate___init__ K) := by
    exact ⟨_, fd0, _, [], mkr_ok (c.fact 45 (f := .mkr "Gate") rfl), K_p_Gate___init__, glo_ok X G (c.fact 43 (f := .glo "Gate") rfl), (F0.bindsN fun _ _ _ _ _ _ us hl => match us, hl with | [_, _], _ => rfl), .nil⟩
  have K_p_Gate___iter__ : IterOk P w K mg base 1 _ fd1 (ga K "Gate") "hours" := ok_p_Gate___iter__ (FF.FunD.toFun F1) ⟨cls_ok (c.fact 2 (f := .cls "Gate") rfl), noat_ok (c.fact 3 (f := .noat "Gate" "hours") rfl), free_ok X G (c.fact 4 (f := .free "iter") rfl)⟩
  have I_p_Gate___iter__ : ItM P w K mg base 1 (ga K "Gate") "hours" := ⟨_, _, meth_ok (c.fact 5 (f := .meth "Gate" "__iter__") rfl), (F1.bindsN fun _ _ _ _ _ _ us hl => match us, hl with | [_], _ => rfl), K_p_Gate___iter__⟩
  have K_p_right_row_L : FnOk P w K mg base CX0 1 _ fd2 ["numbers", "greatest"] (sp_p_right_row_L K) := ok_p_right_row_L (FF.FunD.toFun F2) ⟨free_ok X G (c.fact 6 (f := .free "len") rfl), (let ⟨t, e⟩ := int_ok X G (c.fact 7 (f := .int "LONGEST_ROW" 12) rfl); ⟨_, e, t, rfl⟩), free_ok X G (c.fact 8 (f := .free "all") rfl)⟩
  have C_p_right_row_L : Cl P w K mg base 1 "right_row" (sp_p_right_row_L K) := ⟨_, _, _, K_p_right_row_L, glo_ok X G (c.fact 9 (f := .glo "right_row") rfl), F2.kp, (F2.bindsN fun _ _ _ _ _ _ us hl => match us, hl with | [_, _], _ => rfl)⟩
  have K_p_lower_first : FnOk P w K mg base CX0 1 _ fd3 ["lane"] (sp_p_lower_first K) := ok_p_lower_first (FF.FunD.toFun F3) ⟨free_ok X G (c.fact 10 (f := .free "min") rfl), free_ok X G (c.fact 11 (f := .free "max") rfl)⟩
  have C_p_lower_first : Cl P w K mg base 1 "lower_first" (sp_p_lower_first K) := ⟨_, _, _, K_p_lower_first, glo_ok X G (c.fact 12 (f := .glo "lower_first") rfl), F3.kp, (F3.bindsN fun _ _ _ _ _ _ us hl => match us, hl with | [_], _ => rfl)⟩
  have K_p_right_lanes_L : FnOk P w K mg base CX0 2 _ fd4 ["lanes", "size"] (sp_p_right_lanes_L K) := ok_p_right_lanes_L (FF.FunD.toFun F4) ⟨C_p_lower_first, free_ok X G (c.fact 8 (f := .free "all") rfl), free_ok X G (c.fact 6 (f := .free "len") rfl), free_ok X G (c.fact 13 (f := .free "set") rfl)⟩
  have C_p_right_lanes_L : Cl P w K mg base 2 "right_lanes" (sp_p_right_lanes_L K) := ⟨_, _, _, K_p_right_lanes_L, glo_ok X G (c.fact 14 (f := .glo "right_lanes") rfl), F4.kp, (F4.bindsN fun _ _ _ _ _ _ us hl => match us, hl with | [_, _], _ => rfl)⟩
  have K_p_right_zone_L : FnOk P w K mg base CX0 1 _ fd5 ["places", "size"] (sp_p_right_zone_L K) := ok_p_right_zone_L (FF.FunD.toFun F5) ⟨free_ok X G (c.fact 8 (f := .free "all") rfl), free_ok X G (c.fact 6 (f := .free "len") rfl), free_ok X G (c.fact 13 (f := .free "set") rfl)⟩
  have C_p_right_zone_L : Cl P w K mg base 1 "right_zone" (sp_p_right_zone_L K) := ⟨_, _, _, K_p_right_zone_L, glo_ok X G (c.fact 15 (f := .glo "right_zone") rfl), F5.kp, (F5.bindsN fun _ _ _ _ _ _ us hl => match us, hl with | [_, _], _ => rfl)⟩
  have K_p_wrong_part_of_chart_LLLL : FnOk P w K mg base CX0 3 _ fd6 ["depths", "lanes", "tide", "harbours"] (sp_p_wrong_part_of_chart_LLLL K) := ok_p_wrong_part_of_chart_LLLL (FF.FunD.toFun F6) ⟨(let ⟨t, e⟩ := int_ok X G (c.fact 16 (f := .int "GREATEST_DEPTH" 99) rfl); ⟨_, e, t, rfl⟩), C_p_right_row_L, free_ok X G (c.fact 6 (f := .free "len") rfl), C_p_right_lanes_L, (let ⟨t, e⟩ := int_ok X G (c.fact 17 (f := .int "GREATEST_TIDE" 20) rfl); ⟨_, e, t, rfl⟩), C_p_right_zone_L⟩
  have C_p_wrong_part_of_chart_LLLL : Cl P w K mg base 3 "wrong_part_of_chart" (sp_p_wrong_part_of_chart_LLLL K) := ⟨_, _, _, K_p_wrong_part_of_chart_LLLL, glo_ok X G (c.fact 18 (f := .glo "wrong_part_of_chart") rfl), F6.kp, (F6.bindsN fun _ _ _ _ _ _ us hl => match us, hl with | [_, _, _, _], _ => rfl)⟩
  have K_p_places_beside : FnOk P w K mg base CX0 1 _ fd7 ["lanes", "place"] (sp_p_places_beside K) := ok_p_places_beside (FF.FunD.toFun F7) ⟨free_ok X G (c.fact 0 (f := .free "sorted") rfl), free_ok X G (c.fact 1 (f := .free "tuple") rfl)⟩
  have C_p_places_beside : Cl P w K mg base 1 "places_beside" (sp_p_places_beside K) := ⟨_, _, _, K_p_places_beside, glo_ok X G (c.fact 19 (f := .glo "places_beside") rfl), F7.kp, (F7.bindsN fun _ _ _ _ _ _ us hl => match us, hl with | [_, _], _ => rfl)⟩
  have K_p_Chart___init___LLLL : FnOk P w K mg base CX0 4 _ fd8 ["self", "depths", "lanes", "tide", "harbours"] (sp_p_Chart___init___LLLL K) := ok_p_Chart___init___LLLL (FF.FunD.toFun F8) ⟨C_p_wrong_part_of_chart_LLLL, free_ok X G (c.fact 1 (f := .free "tuple") rfl), cls_ok (c.fact 20 (f := .cls "Chart") rfl), noat_ok (c.fact 21 (f := .noat "Chart" "depths") rfl), C_p_lower_first, free_ok X G (c.fact 0 (f := .free "sorted") rfl), noat_ok (c.fact 22 (f := .noat "Chart" "lanes") rfl), noat_ok (c.fact 23 (f := .noat "Chart" "tide") rfl), noat_ok (c.fact 24 (f := .noat "Chart" "harbours") rfl), free_ok X G (c.fact 6 (f := .free "len") rfl), noat_ok (c.fact 25 (f := .noat "Chart" "size") rfl), free_ok X G (c.fact 26 (f := .free "range") rfl), C_p_places_beside, noat_ok (c.fact 27 (f := .noat "Chart" "_beside") rfl)⟩
  have mk_Chart_LLLL_2_tide_harbours : MkF P w K mg base 4 "Chart" (ga K "Chart") 2 ["tide", "harbours"] (fun vs zs => vs ++ (zs ++ [])) (sp_p_Chart___init___LLLL K) := by
    obtain ⟨mv, hB⟩ := F8.kbinds0 (ps := ["self", "depths", "lanes", "tide", "harbours"]) 3 ["tide", "harbours"] [] (fun us mv ws => us ++ (ws ++ mv)) (by simp [He.DefD.kws, D_Chart___init__]) (by intro q hq; first | (cases hq; done) | exact hq | exact List.mem_cons_of_mem _ hq | exact List.mem_cons_of_mem _ (List.mem_cons_of_mem _ hq) | (simp only [List.mem_cons, List.not_mem_nil, or_false] at hq; rcases hq with rfl | rfl | rfl | rfl | rfl <;> simp [He.DefD.kws, D_Chart___init__, He.Dv.v]) | (simp only [List.mem_cons, List.not_mem_nil, or_false] at hq; rcases hq with rfl | rfl | rfl | rfl <;> simp [He.DefD.kws, D_Chart___init__, He.Dv.v]) | (simp only [List.mem_cons, List.not_mem_nil, or_false] at hq; rcases hq with rfl | rfl | rfl <;> simp [He.DefD.kws, D_Chart___init__, He.Dv.v]) | (simp only [List.mem_cons, List.not_mem_nil, or_false] at hq; rcases hq with rfl | rfl <;> simp [He.DefD.kws, D_Chart___init__, He.Dv.v]) | (simp only [List.mem_cons, List.not_mem_nil, or_false] at hq; subst hq; simp [He.DefD.kws, D_Chart___init__, He.Dv.v])) (fun r1 r2 r3 => r1.append (r3.append r2)) (fun D doc pm an cdv ct us mv ws h1 h2 h3 => match us, h1, mv, h2, ws, h3 with | [_, _, _], _, [], _, [_, _], _ => rfl)
    exact ⟨_, fd8, _, _, mkr_ok (c.fact 46 (f := .mkr "Chart") rfl), K_p_Chart___init___LLLL, glo_ok X G (c.fact 47 (f := .glo "Chart") rfl), hB⟩
  have K_p_Chart_water : FnOk P w K mg base CX0 1 _ fd9 ["self", "place", "hour"] (sp_p_Chart_water K) := ok_p_Chart_water (FF.FunD.toFun F9) ⟨cls_ok (c.fact 20 (f := .cls "Chart") rfl), noat_ok (c.fact 21 (f := .noat "Chart" "depths") rfl), noat_ok (c.fact 23 (f := .noat "Chart" "tide") rfl), free_ok X G (c.fact 6 (f := .free "len") rfl)⟩
  have M_p_Chart_water : Mh P w K mg base 1 (ga K "Chart") "water" (sp_p_Chart_water K) := ⟨_, _, _, cls_ok (c.fact 20 (f := .cls "Chart") rfl), meth_ok (c.fact 28 (f := .meth "Chart" "water") rfl), K_p_Chart_water, (F9.bindsN fun _ _ _ _ _ _ us hl => match us, hl with | [_, _, _], _ => rfl)⟩
  have K_p_tide_gate : FnOk P w K mg base CX0 3 _ fd10 ["chart", "place", "draught", "last"] (sp_p_tide_gate K) := ok_p_tide_gate (FF.FunD.toFun F10) ⟨free_ok X G (c.fact 26 (f := .free "range") rfl), M_p_Chart_water, mk_Gate_1_⟩
  have C_p_tide_gate : Cl P w K mg base 3 "tide_gate" (sp_p_tide_gate K) := ⟨_, _, _, K_p_tide_gate, glo_ok X G (c.fact 29 (f := .glo "tide_gate") rfl), F10.kp, (F10.bindsN fun _ _ _ _ _ _ us hl => match us, hl with | [_, _, _, _], _ => rfl)⟩
  have K_lhand : FnOk P w K mg base CX0 1 _ fd11 ["_law_script", "_law_k"] (sp_lhand K) := ok_lhand (FF.FunD.toFun F11) ⟨free_ok X G (c.fact 6 (f := .free "len") rfl), free_ok X G (c.fact 30 (f := .free "int") rfl)⟩
  have C_lhand : Cl P w K mg base 1 "_law_hand" (sp_lhand K) := ⟨_, _, _, K_lhand, glo_ok X G (c.fact 31 (f := .glo "_law_hand") rfl), F11.kp, (F11.bindsN fun _ _ _ _ _ _ us hl => match us, hl with | [_, _], _ => rfl)⟩
  have K_lpick : FnOk P w K mg base CX0 1 _ fd12 ["_law_hand_here", "_law_size"] (sp_lpick K) := ok_lpick (FF.FunD.toFun F12) ⟨free_ok X G (c.fact 30 (f := .free "int") rfl)⟩
  have C_lpick : Cl P w K mg base 1 "_law_pick" (sp_lpick K) := ⟨_, _, _, K_lpick, glo_ok X G (c.fact 32 (f := .glo "_law_pick") rfl), F12.kp, (F12.bindsN fun _ _ _ _ _ _ us hl => match us, hl with | [_, _], _ => rfl)⟩
  have K_lint : FnOk P w K mg base CX0 1 _ fd13 ["_law_x"] (sp_lint K) := ok_lint (FF.FunD.toFun F13) ⟨free_ok X G (c.fact 33 (f := .free "isinstance") rfl), free_ok X G (c.fact 30 (f := .free "int") rfl), free_ok X G (c.fact 34 (f := .free "bool") rfl)⟩
  have C_lint : Cl P w K mg base 1 "_law_int" (sp_lint K) := ⟨_, _, _, K_lint, glo_ok X G (c.fact 35 (f := .glo "_law_int") rfl), F13.kp, (F13.bindsN fun _ _ _ _ _ _ us hl => match us, hl with | [_], _ => rfl)⟩
  have K_lsome : FnOk P w K mg base CX0 2 _ fd14 ["_law_hand_here", "_law_size", "_law_share"] (sp_lsome K) := ok_lsome (FF.FunD.toFun F14) ⟨free_ok X G (c.fact 26 (f := .free "range") rfl), C_lpick⟩
  have C_lsome : Cl P w K mg base 2 "_law_some" (sp_lsome K) := ⟨_, _, _, K_lsome, glo_ok X G (c.fact 36 (f := .glo "_law_some") rfl), F14.kp, (F14.bindsN fun _ _ _ _ _ _ us hl => match us, hl with | [_, _, _], _ => rfl)⟩
  have K_lsea : FnOk P w K mg base CX0 3 _ fd15 ["_law_hand_here", "_law_most"] (sp_lsea K) := ok_lsea (FF.FunD.toFun F15) ⟨C_lpick, free_ok X G (c.fact 26 (f := .free "range") rfl), C_lsome⟩
  have C_lsea : Cl P w K mg base 3 "_law_sea" (sp_lsea K) := ⟨_, _, _, K_lsea, glo_ok X G (c.fact 37 (f := .glo "_law_sea") rfl), F15.kp, (F15.bindsN fun _ _ _ _ _ _ us hl => match us, hl with | [_, _], _ => rfl)⟩
  have K_lchart : FnOk P w K mg base CX0 6 _ fd16 ["_law_sea_here"] (sp_lchart K) := ok_lchart (FF.FunD.toFun F16) ⟨free_ok X G (c.fact 38 (f := .free "list") rfl), mk_Chart_LLLL_2_tide_harbours⟩
  have C_lchart : Cl P w K mg base 6 "_law_chart" (sp_lchart K) := ⟨_, _, _, K_lchart, glo_ok X G (c.fact 39 (f := .glo "_law_chart") rfl), F16.kp, (F16.bindsN fun _ _ _ _ _ _ us hl => match us, hl with | [_], _ => rfl)⟩
  have K_lwater : FnOk P w K mg base CX0 1 _ fd17 ["_law_sea_here", "_law_place", "_law_when"] (sp_lwater K) := ok_lwater (FF.FunD.toFun F17) ⟨free_ok X G (c.fact 30 (f := .free "int") rfl), free_ok X G (c.fact 6 (f := .free "len") rfl)⟩
  have C_lwater : Cl P w K mg base 1 "_law_water" (sp_lwater K) := ⟨_, _, _, K_lwater, glo_ok X G (c.fact 40 (f := .glo "_law_water") rfl), F17.kp, (F17.bindsN fun _ _ _ _ _ _ us hl => match us, hl with | [_, _, _], _ => rfl)⟩
  have K_ltides : FnOk P w K mg base CX0 2 _ fd18 ["_law_hand_here", "_law_sea_here"] (sp_ltides K) := ok_ltides (FF.FunD.toFun F18) ⟨free_ok X G (c.fact 26 (f := .free "range") rfl), C_lpick⟩
  have C_ltides : Cl P w K mg base 2 "_law_tides" (sp_ltides K) := ⟨_, _, _, K_ltides, glo_ok X G (c.fact 41 (f := .glo "_law_tides") rfl), F18.kp, (F18.bindsN fun _ _ _ _ _ _ us hl => match us, hl with | [_, _], _ => rfl)⟩
  have K_lquestion : FnOk P w K mg base CX0 2 _ fd19 ["_law_hand_here", "_law_sea_here"] (sp_lquestion K) := ok_lquestion (FF.FunD.toFun F19) ⟨free_ok X G (c.fact 6 (f := .free "len") rfl), C_lpick, C_lwater, free_ok X G (c.fact 10 (f := .free "min") rfl), free_ok X G (c.fact 11 (f := .free "max") rfl)⟩
  have C_lquestion : Cl P w K mg base 2 "_law_question" (sp_lquestion K) := ⟨_, _, _, K_lquestion, glo_ok X G (c.fact 42 (f := .glo "_law_question") rfl), F19.kp, (F19.bindsN fun _ _ _ _ _ _ us hl => match us, hl with | [_, _], _ => rfl)⟩
  have K_lgate_holds : FnOk P w K mg base CX0 2 _ fd20 ["_law_gate", "_law_due"] (sp_lgate_holds K) := ok_lgate_holds (FF.FunD.toFun F20) ⟨free_ok X G (c.fact 33 (f := .free "isinstance") rfl), cls_ok (c.fact 2 (f := .cls "Gate") rfl), insB_ok (cls_ok (c.fact 2 (f := .cls "Gate") rfl)) hx_ins_Gate, ⟨_, glo_ok X G (c.fact 43 (f := .glo "Gate") rfl), rfl⟩, noat_ok (c.fact 3 (f := .noat "Gate" "hours") rfl), free_ok X G (c.fact 1 (f := .free "tuple") rfl), free_ok X G (c.fact 38 (f := .free "list") rfl), C_lint, free_ok X G (c.fact 6 (f := .free "len") rfl), I_p_Gate___iter__⟩
  have C_lgate_holds : Cl P w K mg base 2 "_law_gate_holds" (sp_lgate_holds K) := ⟨_, _, _, K_lgate_holds, glo_ok X G (c.fact 44 (f := .glo "_law_gate_holds") rfl), F20.kp, (F20.bindsN fun _ _ _ _ _ _ us hl => match us, hl with | [_, _], _ => rfl)⟩
  have K_l_law : FnOk P w K mg base CX0 7 _ fd21 ["_law_script"] (sp_l_law K) := ok_l_law (FF.FunD.toFun F21) ⟨C_lhand, C_lpick, C_lsea, C_ltides, C_lquestion, C_lchart, free_ok X G (c.fact 26 (f := .free "range") rfl), C_lwater, C_p_tide_gate, C_lgate_holds⟩
  exact K_l_law
end LW
open PySem PySem.W PySem.Calls PyProof.Rows
theorem PySem.Challenge.cw_fogfleet_k40_tide_gate_holds : PySem.Challenge.rw_fogfleet_k40_tide_gate.Holds := by
  w_on; o_law
  refine HandSHeadRun.head_any (r := OpenLaw.row PySem.Challenge.rw_fogfleet_k40_tide_gate) (q := view (OpenLaw.row PySem.Challenge.rw_fogfleet_k40_tide_gate).prog [30]) (H := LW.hk) (ob := LW.ob) (M := 4000) (loose := LW.loose) (d := HandSHeadRun.topDef (OpenLaw.row PySem.Challenge.rw_fogfleet_k40_tide_gate).prog 30) (kwd := []) LW.ob_eq
    (by kernel_rfl) (fun s => by kernel_rfl) LW.run (by kernel_rfl) (by kernel_rfl) (by kernel_rfl) (by rfl) (by first | assumption | decide +kernel) (by decide +kernel) ⟨rfl, rfl, rfl, rfl, rfl, by decide +kernel⟩ ?hw ?hc
  case hw => w_witness2
  case hc =>
    refine L2.walk_ofE (l := PySem.Challenge.rw_fogfleet_k40_tide_gate) (n := 63) (k := 7) (x := "_law_script") (CX := L2.CX0) rfl (by decide) (by kernel_rfl) ⟨rfl, by decide, by decide⟩ ?F (fun _ _ _ _ z => z)
    intro w mg fa h Y G hmg0
    obtain ⟨K, KX, c, hx⟩ := Y
    have hmg : mg ("law" : PySem.Str) = some (.ref fa) := by
      have e : (HandSHeadRun.topDef (OpenLaw.row PySem.Challenge.rw_fogfleet_k40_tide_gate).prog 30).name = ("law" : PySem.Str) := by kernel_rfl
      rw [← e]
      exact hmg0
    obtain ⟨fd, hb, hF⟩ := LW.facts (P := (PySem.Challenge.rw_fogfleet_k40_tide_gate).prog) (w := w) KX G hmg c hx
    exact ⟨K, fd, _, KX, hb, fun H a ns hl _ hS => FF.law_start (LW.law_true ns hl) hS, hF⟩
