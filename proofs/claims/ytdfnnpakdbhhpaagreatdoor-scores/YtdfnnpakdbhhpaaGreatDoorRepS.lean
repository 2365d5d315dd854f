/-
  What the document's answer lays in memory: rows of texts, its packages.
-/
import Derived.Test.YtdfnnpakdbhhpaaGreatDoorRepR
import Derived.Test.YtdfnnpakdbhhpaaGreatDoorSpM
namespace Go.Proofs.YtdfnnpakdbhhpaaGreatDoor
open Go.RowKit

def StAt (w : World) (v : Value) (l : List (List UInt8)) : Prop := w.ownsRow 0 9 1 v l.length (l.map strV)
theorem StAt.below {w w' : World} {v : Value} {l : List (List UInt8)} (h : StAt w v l) (hb : Below w.heap.size w w') : StAt w' v l :=
  World.ownsRow.kept (row := none) h ⟨hb.os, hb.tape, hb.output, hb.size, fun k hk _ => hb.block k hk⟩ (by rcases v.ownBlock with _ | k <;> simp)
theorem StAt.alloc {w : World} {v : Value} {l : List (List UInt8)} (h : StAt w v l) (o : Obj) : StAt (w.alloc o) v l := World.ownsRow.alloc h o
theorem StAt.drew {w : World} {v : Value} {l : List (List UInt8)} (h : StAt w v l) : StAt w.drew v l := h
theorem StAt.drewN {w : World} {v : Value} {l : List (List UInt8)} (h : StAt w v l) (n : Nat) : StAt (w.drewN n) v l := h
theorem StAt.setT {w : World} {v : Value} {l : List (List UInt8)} (h : StAt w v l) {k : Nat} {cur : Array Value} {T : TypeId} {m : Nat × Nat} (hk : w.heap[k]? = some (.cells cur T m)) (hT : 9 ≠ T) (o : Nat) (u : Value) : StAt (w.setCell ⟨k, o, none⟩ u) v l := own_setT h hk hT o u
theorem StAt.other {w w' : World} {v : Value} {l : List (List UInt8)} (h : StAt w v l) {b : Nat} {e : TypeId} {sz : Nat} {o : Value} {n : Nat} {xs : List Value} (ho : w.ownsRow b e sz o n xs) (he : 9 ≠ e) (hg : w.grownBy w' o.ownBlock) : StAt w' v l := World.ownsRow.kept h hg (own_ne h ho he)
theorem StAt.of {w : World} {base : Nat} {v : Value} {l : List (List UInt8)} (h : w.ownsRow base 9 1 v l.length (l.map strV)) : StAt w v l := own_mono h (Nat.zero_le _)
/-- A row of texts: nil, or its cells. -/
theorem StAt.cells {w : World} {v : Value} {l : List (List UInt8)} (h : StAt w v l) : (v = .slice none 0 0 ∧ l = []) ∨ ∃ g cap, v = .slice (some ⟨g, 0, none⟩) l.length cap ∧ g < w.heap.size ∧ ∀ j (x : List UInt8), l[j]? = some x → w.cell? ⟨g, j, none⟩ = some (strV x) := by
  rcases own_shape h with ⟨rfl, h0⟩ | ⟨g, cap, rfl, hc⟩
  · exact Or.inl ⟨rfl, List.eq_nil_of_length_eq_zero h0⟩
  · exact Or.inr ⟨g, cap, rfl, own_lt h, fun j x hx => own_cell h j _ (by simp [hx])⟩
theorem StAt.shape {w : World} {v : Value} {l : List (List UInt8)} (h : StAt w v l) : ∃ a n c, v = .slice a n c := by
  rcases own_shape h with ⟨rfl, _⟩ | ⟨g, cap, rfl, _⟩ <;> exact ⟨_, _, _, rfl⟩

end Go.Proofs.YtdfnnpakdbhhpaaGreatDoor
