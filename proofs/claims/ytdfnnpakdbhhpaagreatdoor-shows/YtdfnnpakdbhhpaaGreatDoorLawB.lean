import Derived.Test.YtdfnnpakdbhhpaaGreatDoorLawA
import Derived.Test.YtdfnnpakdbhhpaaGreatDoorRfD
import Derived.Test.YtdfnnpakdbhhpaaGreatDoorShG
namespace Go.Proofs.YtdfnnpakdbhhpaaGreatDoor
open Go.RowKit

set_option maxHeartbeats 800000 in
theorem law_texts2 (n : Int) (S T U : ByteArray) (w : World) (hS : S.size ≤ maxLen) : Calls Tryz.prog 16 #[.agg #[.int .i64 2, .int .i64 n, .string S, .string T, .string U]] w fun e w' => e = .returned (.bool true) ∧ Below w.heap.size w w' := by
  go_enter Tryz.func16, Tryz.ntmps16
  go_wp2_with fail
  refine (up_Show S _ hS).mono ?_
  rintro e w1 ⟨rfl, hb1⟩
  rw [show_same]
  have hb : Below w.heap.size w w1 := ((Below.refl _ _).alloc (Nat.le_refl _) _).trans (hb1.mono (by simp))
  have hbx := blk_below hb1 (blk_new w (.cells #[.int .i64 2, .int .i64 n, .string S, .string T, .string U] 27)) (by simp)
  have c2 := cellAt hbx 2
  simp at c2
  have HB : Hid (Below w.heap.size w w1) := hb
  clear hb hb1 hbx
  go_wp2_with fail
  refine (ref_Show S _ hS).mono ?_
  rintro e w2 ⟨rfl, hb2⟩
  have HB2 : Hid (Below w.heap.size w w2) := HB.out.trans (hb2.mono HB.out.size)
  clear hb2 HB c2
  go_wp2_with (go_at_call 18; refine (law_num _ _).mono ?_; rintro e w' ⟨rfl, rfl⟩)
  all_goals go_ret
  all_goals exact ⟨ret_bool (by simp), HB2.out⟩

set_option maxHeartbeats 800000 in
theorem law_plays2 (n : Int) (S T U : ByteArray) (w : World) (hS : S.size ≤ maxLen) : Calls Tryz.prog 9 #[.agg #[.int .i64 2, .int .i64 n, .string S, .string T, .string U]] w fun e w' => e = .returned (.bool true) ∧ Below w.heap.size w w' := by
  go_enter Tryz.func9, Tryz.ntmps9
  go_wp2_with fail
  refine (law_texts2 n S T U _ hS).mono ?_
  rintro e w1 ⟨rfl, hb1⟩
  have HB : Hid (Below w.heap.size w w1) := ((Below.refl _ _).alloc (Nat.le_refl _) _).trans (hb1.mono (by simp))
  clear hb1
  go_wp2
  go_ret
  exact ⟨rfl, HB.out⟩

/-- The document's own example of Show. -/
def headT : List UInt8 := [98, 50, 43, 58, 97, 60, 50, 124, 97, 124, 97, 44, 97, 58, 99, 44, 98, 58, 59, 97, 49, 58, 58, 58, 59, 47, 47, 98, 44, 97, 44, 98, 47]
def headU : List UInt8 := [97, 49, 58, 58, 58, 59, 98, 50, 43, 58, 97, 44, 97, 124, 97, 60, 50, 58, 98, 44, 99, 58, 59, 47, 47, 97, 44, 98, 47]
theorem head2E : rdE headT = 0 := by decide +kernel
theorem head2S : shT headT = headU := by decide +kernel

set_option maxHeartbeats 800000 in
theorem law_heads2 (w : World) : Calls Tryz.prog 8 #[.int .i64 2] w fun e w' => e = .returned (.bool true) ∧ Below w.heap.size w w' := by
  go_enter Tryz.func8, Tryz.ntmps8
  go_wp2_with fail
  refine (up_Show (bs headT) _ (by unfold maxLen; decide)).mono ?_
  rintro e w1 ⟨rfl, hb1⟩
  rw [bs_list, head2E, head2S]
  have he : ((bs headU).toList == [97, 49, 58, 58, 58, 59, 98, 50, 43, 58, 97, 44, 97, 124, 97, 60, 50, 58, 98, 44, 99, 58, 59, 47, 47, 97, 44, 98, 47]) = true := by rw [tl]; decide
  go_wp2
  go_ret
  exact ⟨rfl, hb1⟩

end Go.Proofs.YtdfnnpakdbhhpaaGreatDoor
