/-
  The reader as plain functions: a place and a mark that it has stopped. Nothing of the dump.
-/
import Derived.Test.YtdfnnpakdbhhpaaGreatDoorHeap
namespace Go.Proofs.YtdfnnpakdbhhpaaGreatDoor
open Go.RowKit

/-- The byte ahead, or 0. -/
def ahF (t : List UInt8) (i : Nat) (bad : Bool) : Nat := if bad then 0 else match t[i]? with | some c => c.toNat | none => 0
/-- accept: is it passed? -/
def acB (t : List UInt8) (x : Nat) (i : Nat) (bad : Bool) : Bool := !(ahF t i bad == 0) && ahF t i bad == x
def acI (t : List UInt8) (x : Nat) (i : Nat) (bad : Bool) : Nat := if acB t x i bad then i + 1 else i
/-- expect: the mark behind it. -/
def exBad (t : List UInt8) (x : Nat) (i : Nat) (bad : Bool) : Bool := if acB t x i bad then bad else true
def naB (t : List UInt8) (i : Nat) (bad : Bool) : Bool := nmB (ahF t i bad)
def naV (t : List UInt8) (i : Nat) (bad : Bool) : Nat := if naB t i bad then ahF t i bad else 0
def naI (t : List UInt8) (i : Nat) (bad : Bool) : Nat := if naB t i bad then i + 1 else i
def naBad (t : List UInt8) (i : Nat) (bad : Bool) : Bool := if naB t i bad then bad else true
def veB (t : List UInt8) (i : Nat) (bad : Bool) : Bool := vrB (ahF t i bad)
def veV (t : List UInt8) (i : Nat) (bad : Bool) : Nat := if veB t i bad then ahF t i bad else 0
def veI (t : List UInt8) (i : Nat) (bad : Bool) : Nat := if veB t i bad then i + 1 else i
def veBad (t : List UInt8) (i : Nat) (bad : Bool) : Bool := if veB t i bad then bad else true
def siB (t : List UInt8) (i : Nat) (bad : Bool) : Bool := sgB (ahF t i bad)
def siV (t : List UInt8) (i : Nat) (bad : Bool) : Nat := if siB t i bad then ahF t i bad else 0
def siI (t : List UInt8) (i : Nat) (bad : Bool) : Nat := if siB t i bad then i + 1 else i

theorem ahF_lt (t : List UInt8) (i : Nat) (bad : Bool) : ahF t i bad < 256 := by
  unfold ahF; split
  · omega
  · split
    · exact UInt8.toNat_lt _
    · omega
theorem ahF_bad (t : List UInt8) (i : Nat) : ahF t i true = 0 := rfl
theorem ahF_end (t : List UInt8) (i : Nat) (h : t.length ≤ i) (bad : Bool) : ahF t i bad = 0 := by
  unfold ahF; rw [List.getElem?_eq_none h]; split <;> rfl
theorem ahF_at (s : ByteArray) (i : Nat) (h : i < s.size) : ahF s.data.toList i false = s[i].toNat := by
  unfold ahF
  rw [List.getElem?_eq_getElem (by simpa using h)]; rfl
/-- Where the byte ahead is not 0 the reader stands within the text and has not stopped. -/
theorem ahF_in (t : List UInt8) (i : Nat) (bad : Bool) (h : ahF t i bad ≠ 0) : bad = false ∧ i < t.length := by
  rcases Nat.lt_or_ge i t.length with h1 | h1
  · cases bad
    · exact ⟨rfl, h1⟩
    · exact absurd (ahF_bad t i) h
  · exact absurd (ahF_end t i h1 bad) h

/-- The reader's block. -/
def Rd (B : Nat) (w : World) (s : ByteArray) (i : Nat) (bad : Bool) : Prop := w.heap[B]? = some (.cells #[.string s, .int .i64 i, .bool bad] 82 (0, 0))

theorem Rd.c0 {B : Nat} {w : World} {s : ByteArray} {i : Nat} {bad : Bool} (h : Rd B w s i bad) : w.cell? ⟨B, 0, none⟩ = some (.string s) := by rw [cellAt h]; rfl
theorem Rd.c1 {B : Nat} {w : World} {s : ByteArray} {i : Nat} {bad : Bool} (h : Rd B w s i bad) : w.cell? ⟨B, 1, none⟩ = some (.int .i64 i) := by rw [cellAt h]; rfl
theorem Rd.c2 {B : Nat} {w : World} {s : ByteArray} {i : Nat} {bad : Bool} (h : Rd B w s i bad) : w.cell? ⟨B, 2, none⟩ = some (.bool bad) := by rw [cellAt h]; rfl
theorem Rd.f1 {B : Nat} {w : World} {s : ByteArray} {i : Nat} {bad : Bool} (h : Rd B w s i bad) : w.frozen? ⟨B, 1, none⟩ = false := freeAt h 1
theorem Rd.f2 {B : Nat} {w : World} {s : ByteArray} {i : Nat} {bad : Bool} (h : Rd B w s i bad) : w.frozen? ⟨B, 2, none⟩ = false := freeAt h 2
theorem Rd.lt {B : Nat} {w : World} {s : ByteArray} {i : Nat} {bad : Bool} (h : Rd B w s i bad) : B < w.heap.size := ltAt h
theorem Rd.set1 {B : Nat} {w : World} {s : ByteArray} {i : Nat} {bad : Bool} (h : Rd B w s i bad) (j : Nat) : Rd B (w.setCell ⟨B, 1, none⟩ (.int .i64 j)) s j bad := setAt h 1 _
theorem Rd.set2 {B : Nat} {w : World} {s : ByteArray} {i : Nat} {bad : Bool} (h : Rd B w s i bad) (b : Bool) : Rd B (w.setCell ⟨B, 2, none⟩ (.bool b)) s i b := setAt h 2 _
theorem Rd.below {B : Nat} {w w' : World} {s : ByteArray} {i : Nat} {bad : Bool} (h : Rd B w s i bad) (k : Below w.heap.size w w') : Rd B w' s i bad := (k.block B h.lt).trans h
theorem Rd.alloc {B : Nat} {w : World} {s : ByteArray} {i : Nat} {bad : Bool} (h : Rd B w s i bad) (o : Obj) : Rd B (w.alloc o) s i bad := h.below ((Below.refl _ _).alloc (Nat.le_refl _) o)
theorem Rd.setNew {B : Nat} {w : World} {s : ByteArray} {i : Nat} {bad : Bool} (h : Rd B w s i bad) {p : Addr} (hp : p.block ≠ B) (v : Value) : Rd B (w.setCell p v) s i bad := (Below.heap_setCell _ _ _ _ (Ne.symm hp)).trans h
theorem Rd.grown {B : Nat} {w w' : World} {s : ByteArray} {i : Nat} {bad : Bool} {row : Option Nat} (h : Rd B w s i bad) (hg : w.grownBy w' row) (hn : row ≠ some B) : Rd B w' s i bad := (hg.block B h.lt (Ne.symm hn)).trans h
theorem Rd.drewN {B : Nat} {w : World} {s : ByteArray} {i : Nat} {bad : Bool} (h : Rd B w s i bad) (n : Nat) : Rd B (w.drewN n) s i bad := h

end Go.Proofs.YtdfnnpakdbhhpaaGreatDoor
