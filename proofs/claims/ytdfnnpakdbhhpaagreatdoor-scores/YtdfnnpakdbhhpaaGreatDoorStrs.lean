/-
  Plain facts on texts as lists of bytes; rows of the heap behind a call's frame. Nothing of the dump.
-/
import Derived.Test.YtdfnnpakdbhhpaaGreatDoorMath
namespace Go.Proofs.YtdfnnpakdbhhpaaGreatDoor
open Go.RowKit

def bs (l : List UInt8) : ByteArray := ⟨l.toArray⟩
def strV (l : List UInt8) : Value := .string (bs l)
theorem bs_toList (s : ByteArray) : bs s.data.toList = s := rfl
theorem bs_list (l : List UInt8) : (bs l).data.toList = l := by simp [bs]
theorem bs_size (l : List UInt8) : (bs l).size = l.length := by simp [bs, ByteArray.size]
theorem bs_inj {a b : List UInt8} (h : bs a = bs b) : a = b := by have := congrArg (fun x : ByteArray => x.data.toList) h; simpa [bs_list] using this
theorem extract_bs (s : ByteArray) (a b : Nat) : s.extract a b = bs ((s.data.toList.take b).drop a) := by
  apply ByteArray.ext
  simp [bs, ByteArray.data_extract, Array.toList_extract, List.drop_take, ← Array.toList_inj]

/-- The pieces between the bytes c; cur: what the piece at hand holds so far. -/
def piecesGo (c : UInt8) : List UInt8 → List UInt8 → List (List UInt8)
  | cur, [] => [cur]
  | cur, x :: l => if x == c then cur :: piecesGo c [] l else piecesGo c (cur ++ [x]) l
def splitL (c : UInt8) (l : List UInt8) : List (List UInt8) := if l.isEmpty then [] else piecesGo c [] l
def piecesL (c : UInt8) (l : List UInt8) : List (List UInt8) := piecesGo c [] l

theorem piecesGo_len (c : UInt8) : ∀ (l cur : List UInt8), (piecesGo c cur l).length ≤ l.length + 1
  | [], _ => by simp [piecesGo]
  | x :: l, cur => by
    unfold piecesGo
    split
    · have := piecesGo_len c l []; simp; omega
    · have := piecesGo_len c l (cur ++ [x]); simp; omega
theorem splitL_len (c : UInt8) (l : List UInt8) : (splitL c l).length ≤ l.length + 1 := by
  unfold splitL; split
  · simp
  · exact piecesGo_len c l []

theorem take_snoc' (l : List UInt8) (f k : Nat) (x : UInt8) (r : List UInt8) (hf : f ≤ k) (h : l.drop k = x :: r) : (l.take (k + 1)).drop f = (l.take k).drop f ++ [x] := by
  have hk : k < l.length := by
    rcases Nat.lt_or_ge k l.length with h1 | h1
    · exact h1
    · rw [List.drop_of_length_le h1] at h; cases h
  have hx : l[k] = x := by rw [List.drop_eq_getElem_cons hk] at h; exact (List.cons.inj h).1
  rw [List.take_succ_eq_append_getElem hk, hx, List.drop_append_of_le_length (by simp; omega)]

end Go.Proofs.YtdfnnpakdbhhpaaGreatDoor
