import Derived.Test.YtenbnmbbfeekpabGreatDoorRows
import Derived.Test.YtenbnmbbfeekpabGreatDoorXO0
import Derived.Test.YtenbnmbbfeekpabGreatDoorXQ
namespace Go.Proofs.YtenbnmbbfeekpabGreatDoor
open Go.RowKit

/-- Solve, called. -/
def SolveC (T : List UInt8 → List UInt8 → List UInt8) (B : List UInt8 → List UInt8 → Bool) : Prop :=
  ∀ (C A : List UInt8) (w : World), C.length ≤ maxLen → A.length ≤ maxLen → Calls Tryz.prog 9 #[.string (bs C), .string (bs A)] w fun r w' => r = .returned (.tuple #[.string (bs (T C A)), .bool (B C A), .int .i64 (rfE C A : Nat)]) ∧ Below w.heap.size w w'
theorem bs_back (q : ByteArray) : bs q.data.toList = q := by cases q; simp [bs]
theorem kTl (l : List UInt8) : (bs l).toList = l := by rw [ByteArray.toList_eq, bs_list]
theorem kApp (a b : List UInt8) : bs a ++ bs b = bs (a ++ b) := by
  apply ByteArray.ext
  simp [bs]
theorem kAt (l : List UInt8) (i : Nat) (h : i < (bs l).size) : (bs l)[i] = l[i]'(by rw [bs_size] at h; exact h) := rfl
theorem kStr {a b : ByteArray} (h : a = b) : Ending.returned (.string a) = .returned (.string b) := by rw [h]

end Go.Proofs.YtenbnmbbfeekpabGreatDoor
