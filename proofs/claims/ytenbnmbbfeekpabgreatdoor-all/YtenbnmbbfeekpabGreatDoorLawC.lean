import Derived.Test.YtenbnmbbfeekpabGreatDoorXE
import Derived.Test.YtenbnmbbfeekpabGreatDoorXO
import Derived.Test.YtenbnmbbfeekpabGreatDoorXNf
import Derived.Test.YtenbnmbbfeekpabGreatDoorXJ
namespace Go.Proofs.YtenbnmbbfeekpabGreatDoor
open Go.RowKit

set_option maxHeartbeats 800000 in
theorem law_plays3 (n : Int) (S T U : ByteArray) (w : World) (hS : S.size ≤ maxLen) (hT : T.size ≤ maxLen) : Calls Tryz.prog 15 #[.agg #[.int .i64 3, .int .i64 n, .string S, .string T, .string U]] w fun e w' => e = .returned (.bool true) ∧ Below w.heap.size w w' := by
  go_enter Tryz.func15, Tryz.ntmps15
  go_wp2_with fail
  refine (up_Valid S T _ hS hT).mono ?_
  rintro e w1 ⟨rfl, hb1⟩
  rw [(valid_same _ _).1, (valid_same _ _).2]
  have hb : Below w.heap.size w w1 := ((Below.refl _ _).alloc (Nat.le_refl _) _).trans (hb1.mono (by simp))
  have hbx := blk_below hb1 (blk_new w (.cells #[.int .i64 3, .int .i64 n, .string S, .string T, .string U] 39)) (by simp)
  have c2 := cellAt hbx 2
  have c3 := cellAt hbx 3
  simp at c2 c3
  have HB : Hid (Below w.heap.size w w1) := hb
  clear hb hb1 hbx
  go_wp2_with fail
  refine (ref_Valid S T _ hS hT).mono ?_
  rintro e w2 ⟨rfl, hb2⟩
  have HB2 : Hid (Below w.heap.size w w2) := HB.out.trans (hb2.mono HB.out.size)
  clear hb2 HB c2 c3
  go_wp2_with (go_at_call 33; refine (law_num _ _).mono ?_; rintro e w' ⟨rfl, rfl⟩)
  all_goals go_ret
  all_goals exact ⟨ret_bool (by simp), HB2.out⟩

/-- The document's own example of Valid. -/
def head3T : List UInt8 := [97, 49, 58, 58, 97, 44, 118, 58, 118, 59, 98, 49, 58, 58, 58, 118, 59, 47, 47, 47]
def head3P : List UInt8 := [97, 49, 98, 49]
theorem head3E : uvE head3T head3P = 0 := by decide +kernel
theorem head3R : uvR head3T head3P = 2 := by decide +kernel

set_option maxHeartbeats 800000 in
theorem law_heads3 (w : World) : Calls Tryz.prog 13 #[.int .i64 3] w fun e w' => e = .returned (.bool true) ∧ Below w.heap.size w w' := by
  go_enter Tryz.func13, Tryz.ntmps13
  go_wp2_with fail
  refine (up_Valid (bs head3T) (bs head3P) _ (by unfold maxLen; decide) (by unfold maxLen; decide)).mono ?_
  rintro e w1 ⟨rfl, hb1⟩
  rw [bs_list, bs_list, head3E, head3R]
  go_wp2
  go_ret
  exact ⟨rfl, hb1⟩

end Go.Proofs.YtenbnmbbfeekpabGreatDoor
