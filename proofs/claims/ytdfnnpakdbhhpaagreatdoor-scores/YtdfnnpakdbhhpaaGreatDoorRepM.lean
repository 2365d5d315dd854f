/-
  What the reader lays in memory, as lists. Nothing of the dump but the types' numbers.
-/
import Derived.Test.YtdfnnpakdbhhpaaGreatDoorPsM
namespace Go.Proofs.YtdfnnpakdbhhpaaGreatDoor
open Go.RowKit

/-- Two lists, one by one. -/
def All2 {α β : Type} (R : α → β → Prop) : List α → List β → Prop
  | [], [] => True
  | a :: as, b :: bs => R a b ∧ All2 R as bs
  | _, _ => False
theorem All2.mono {α β : Type} {R S : α → β → Prop} (h : ∀ a b, R a b → S a b) : ∀ {as : List α} {bs : List β}, All2 R as bs → All2 S as bs
  | [], [], _ => trivial
  | _ :: _, _ :: _, hr => ⟨h _ _ hr.1, All2.mono h hr.2⟩
  | [], _ :: _, hr => hr.elim
  | _ :: _, [], hr => hr.elim
theorem All2.snoc {α β : Type} {R : α → β → Prop} {a : α} {b : β} (hab : R a b) : ∀ {as : List α} {bs : List β}, All2 R as bs → All2 R (as ++ [a]) (bs ++ [b])
  | [], [], _ => ⟨hab, trivial⟩
  | _ :: _, _ :: _, hr => ⟨hr.1, All2.snoc hab hr.2⟩
  | [], _ :: _, hr => hr.elim
  | _ :: _, [], hr => hr.elim
theorem All2.len {α β : Type} {R : α → β → Prop} : ∀ {as : List α} {bs : List β}, All2 R as bs → as.length = bs.length
  | [], [], _ => rfl
  | _ :: _, _ :: _, hr => by simp [All2.len hr.2]
  | [], _ :: _, hr => hr.elim
  | _ :: _, [], hr => hr.elim

theorem own_mono {base base' : Nat} {w : World} {e : TypeId} {size : Nat} {v : Value} {n : Nat} {xs : List Value} (h : w.ownsRow base e size v n xs) (hb : base' ≤ base) : w.ownsRow base' e size v n xs := by
  refine ⟨h.1, ?_⟩
  rcases h.2 with h2 | ⟨g, cap, cur, a, b, c⟩
  · exact Or.inl h2
  · exact Or.inr ⟨g, cap, cur, a, Nat.le_trans hb b, c⟩
/-- Rows of two kinds lie in two blocks. -/
theorem own_ne {b1 b2 : Nat} {w : World} {e1 e2 : TypeId} {s1 s2 : Nat} {v1 v2 : Value} {n1 n2 : Nat} {x1 x2 : List Value} (h1 : w.ownsRow b1 e1 s1 v1 n1 x1) (h2 : w.ownsRow b2 e2 s2 v2 n2 x2) (he : e1 ≠ e2) : v1.ownBlock = none ∨ v1.ownBlock ≠ v2.ownBlock := by
  rcases h1.2 with ⟨rfl, _⟩ | ⟨g, cap, cur, rfl, _, hg, _⟩
  · exact Or.inl rfl
  · refine Or.inr ?_
    rcases h2.2 with ⟨rfl, _⟩ | ⟨g', cap', cur', rfl, _, hg', _⟩
    · simp [Value.ownBlock]
    · intro e
      simp [Value.ownBlock] at e
      subst e
      rw [hg] at hg'
      simp at hg'
      exact he hg'.2

/-- Constraints in memory, above the reader's block. -/
def CsAt (B : Nat) (w : World) (v : Value) (l : List Cn) : Prop := w.ownsRow (B + 1) 121 3 v l.length (cnFlat l)
theorem CsAt.kp {B : Nat} {w w' : World} {v : Value} {l : List Cn} (h : CsAt B w v l) (hk : Kp B w w') : CsAt B w' v l := own_kp h hk (by omega)
theorem CsAt.alloc {B : Nat} {w : World} {v : Value} {l : List Cn} (h : CsAt B w v l) (o : Obj) : CsAt B (w.alloc o) v l := World.ownsRow.alloc h o
/-- A row of another kind is written. -/
theorem CsAt.other {B : Nat} {w w' : World} {v : Value} {l : List Cn} (h : CsAt B w v l) {b : Nat} {e : TypeId} {sz : Nat} {o : Value} {n : Nat} {xs : List Value} (ho : w.ownsRow b e sz o n xs) (he : 121 ≠ e) (hg : w.grownBy w' o.ownBlock) : CsAt B w' v l :=
  World.ownsRow.kept h hg (own_ne h ho he)
def NsAt (B : Nat) (w : World) (v : Value) (l : List (List Cn)) : Prop := ∃ vs, w.ownsRow (B + 1) 124 1 v l.length vs ∧ All2 (CsAt B w) vs l
theorem NsAt.kp {B : Nat} {w w' : World} {v : Value} {l : List (List Cn)} (h : NsAt B w v l) (hk : Kp B w w') : NsAt B w' v l := by
  obtain ⟨vs, h1, h2⟩ := h
  exact ⟨vs, own_kp h1 hk (by omega), h2.mono fun _ _ h => h.kp hk⟩
theorem NsAt.alloc {B : Nat} {w : World} {v : Value} {l : List (List Cn)} (h : NsAt B w v l) (o : Obj) : NsAt B (w.alloc o) v l := by
  obtain ⟨vs, h1, h2⟩ := h
  exact ⟨vs, h1.alloc o, h2.mono fun _ _ h => h.alloc o⟩
theorem NsAt.other {B : Nat} {w w' : World} {v : Value} {l : List (List Cn)} (h : NsAt B w v l) {b : Nat} {e : TypeId} {sz : Nat} {o : Value} {n : Nat} {xs : List Value} (ho : w.ownsRow b e sz o n xs) (he : 121 ≠ e) (he' : 124 ≠ e) (hg : w.grownBy w' o.ownBlock) : NsAt B w' v l := by
  obtain ⟨vs, h1, h2⟩ := h
  exact ⟨vs, h1.kept hg (own_ne h1 ho he'), h2.mono fun _ _ h => h.other ho he hg⟩
def BsAt (B : Nat) (w : World) (v : Value) (l : List Nat) : Prop := w.ownsRow (B + 1) 5 1 v l.length (l.map fun (c : Nat) => .int .u8 (c : Int))
theorem BsAt.kp {B : Nat} {w w' : World} {v : Value} {l : List Nat} (h : BsAt B w v l) (hk : Kp B w w') : BsAt B w' v l := own_kp h hk (by omega)
theorem BsAt.alloc {B : Nat} {w : World} {v : Value} {l : List Nat} (h : BsAt B w v l) (o : Obj) : BsAt B (w.alloc o) v l := World.ownsRow.alloc h o
theorem BsAt.other {B : Nat} {w w' : World} {v : Value} {l : List Nat} (h : BsAt B w v l) {b : Nat} {e : TypeId} {sz : Nat} {o : Value} {n : Nat} {xs : List Value} (ho : w.ownsRow b e sz o n xs) (he : 5 ≠ e) (hg : w.grownBy w' o.ownBlock) : BsAt B w' v l :=
  World.ownsRow.kept h hg (own_ne h ho he)

theorem ndF_yes (t : List UInt8) (f : Nat) (st : St) : ndF t (f + 1) true st = ((apT t 124 st).1 :: (ndF t f (acB t 44 (apT t 124 st).2.1 (apT t 124 st).2.2) (acS t 44 (apT t 124 st).2)).1, (ndF t f (acB t 44 (apT t 124 st).2.1 (apT t 124 st).2.2) (acS t 44 (apT t 124 st).2)).2) := by rw [ndF, if_pos rfl]
theorem ndF_no (t : List UInt8) (f : Nat) (st : St) : ndF t f false st = ([], st) := by cases f <;> simp [ndF]
theorem nsF_yes (t : List UInt8) (f : Nat) (st : St) : nsF t (f + 1) true st = (naV t st.1 st.2 :: (nsF t f (acB t 44 (naS t st).1 (naS t st).2) (acS t 44 (naS t st))).1, (nsF t f (acB t 44 (naS t st).1 (naS t st).2) (acS t 44 (naS t st))).2) := by rw [nsF, if_pos rfl]
theorem nsF_no (t : List UInt8) (f : Nat) (st : St) : nsF t f false st = ([], st) := by cases f <;> simp [nsF]
theorem apF_ge (t : List UInt8) (x : Nat) : ∀ (f : Nat) (st : St), st.1 ≤ (apF t x f st).2.1
  | 0, st => Nat.le_refl _
  | f + 1, st => by
    have h1 := cnS_ge t st
    have h2 := acI_ge t x (cnS t st).1 (cnS t st).2
    rw [apF]
    split
    · exact Nat.le_trans h1 (Nat.le_trans h2 (apF_ge t x f (acS t x (cnS t st))))
    · exact Nat.le_trans h1 h2
theorem apT_ge (t : List UInt8) (x : Nat) (st : St) : st.1 ≤ (apT t x st).2.1 := apF_ge t x _ st
theorem own_setT {base : Nat} {w : World} {e : TypeId} {size : Nat} {v : Value} {n : Nat} {xs : List Value} (h : w.ownsRow base e size v n xs) {k : Nat} {cur : Array Value} {T : TypeId} {m : Nat × Nat} (hk : w.heap[k]? = some (.cells cur T m)) (hT : e ≠ T) (o : Nat) (u : Value) : (w.setCell ⟨k, o, none⟩ u).ownsRow base e size v n xs := by
  refine own_set h ?_ u
  rcases h.2 with ⟨rfl, _⟩ | ⟨g, cap, cur', rfl, _, hg, _⟩
  · simp [Value.ownBlock]
  · intro e
    simp [Value.ownBlock] at e
    subst e
    rw [hg] at hk
    simp at hk
    exact hT hk.2.1
theorem CsAt.setT {B : Nat} {w : World} {v : Value} {l : List Cn} (h : CsAt B w v l) {k : Nat} {cur : Array Value} {T : TypeId} {m : Nat × Nat} (hk : w.heap[k]? = some (.cells cur T m)) (hT : 121 ≠ T) (o : Nat) (u : Value) : CsAt B (w.setCell ⟨k, o, none⟩ u) v l := own_setT h hk hT o u
theorem BsAt.setT {B : Nat} {w : World} {v : Value} {l : List Nat} (h : BsAt B w v l) {k : Nat} {cur : Array Value} {T : TypeId} {m : Nat × Nat} (hk : w.heap[k]? = some (.cells cur T m)) (hT : 5 ≠ T) (o : Nat) (u : Value) : BsAt B (w.setCell ⟨k, o, none⟩ u) v l := own_setT h hk hT o u
theorem NsAt.setT {B : Nat} {w : World} {v : Value} {l : List (List Cn)} (h : NsAt B w v l) {k : Nat} {cur : Array Value} {T : TypeId} {m : Nat × Nat} (hk : w.heap[k]? = some (.cells cur T m)) (hT : 121 ≠ T) (hT' : 124 ≠ T) (o : Nat) (u : Value) : NsAt B (w.setCell ⟨k, o, none⟩ u) v l := by
  obtain ⟨vs, h1, h2⟩ := h
  exact ⟨vs, own_setT h1 hk hT' o u, h2.mono fun _ _ h => h.setT hk hT o u⟩
/-- A package's cells. -/
def pkCells (p : Pk) (vn vc vp : Value) : List Value := [.int .u8 p.n, .int .u8 p.v, .int .i64 p.m, vn, vc, vp]
def PkAt (B : Nat) (w : World) (p : Pk) (vn vc vp : Value) : Prop := NsAt B w vn p.needs ∧ CsAt B w vc p.conf ∧ BsAt B w vp p.prov

end Go.Proofs.YtdfnnpakdbhhpaaGreatDoor
