import Derived.Test.YtenbnmbbfeekpabGreatDoorXE
import Derived.Test.YtenbnmbbfeekpabGreatDoorXO
import Derived.Test.YtenbnmbbfeekpabGreatDoorXNf
import Derived.Test.YtenbnmbbfeekpabGreatDoorXK
namespace Go.Proofs.YtenbnmbbfeekpabGreatDoor
open Go.RowKit

set_option maxHeartbeats 800000 in
theorem law_plays4 (n : Int) (S T U : ByteArray) (w : World) (hS : S.size ≤ maxLen) (hT : T.size ≤ maxLen) (hU : U.size ≤ maxLen) : Calls Tryz.prog 15 #[.agg #[.int .i64 4, .int .i64 n, .string S, .string T, .string U]] w fun e w' => e = .returned (.bool true) ∧ Below w.heap.size w w' := by
  obtain ⟨P, rfl⟩ : ∃ P, T = bs P := ⟨_, (bs_data T).symm⟩
  obtain ⟨C, rfl⟩ : ∃ C, U = bs C := ⟨_, (bs_data U).symm⟩
  rw [bs_size] at hT hU
  have hT' : (P.length : Int) ≤ maxLen := by exact_mod_cast hT
  have hU' : (C.length : Int) ≤ maxLen := by exact_mod_cast hU
  go_enter Tryz.func15, Tryz.ntmps15
  go_wp2_with fail
  refine (up_Score S C P _ hS hU' hT').mono ?_
  rintro e w1 ⟨rfl, hb1⟩
  rw [(score_same _ _ _).1, (score_same _ _ _).2]
  have hb : Below w.heap.size w w1 := ((Below.refl _ _).alloc (Nat.le_refl _) _).trans (hb1.mono (by simp))
  have hbx := blk_below hb1 (blk_new w (.cells #[.int .i64 4, .int .i64 n, .string S, .string (bs P), .string (bs C)] 39)) (by simp)
  have c2 := cellAt hbx 2
  have c3 := cellAt hbx 3
  have c4 := cellAt hbx 4
  simp at c2 c3 c4
  have HB : Hid (Below w.heap.size w w1) := hb
  clear hb hb1 hbx
  go_wp2_with fail
  refine (ref_Score S C P _ hS hU hT).mono ?_
  rintro e w2 ⟨rfl, hb2⟩
  have HB2 : Hid (Below w.heap.size w w2) := HB.out.trans (hb2.mono HB.out.size)
  clear hb2 HB c2 c3 c4
  go_wp2_with (go_at_call 33; refine (law_num _ _).mono ?_; rintro e w' ⟨rfl, rfl⟩)
  all_goals go_ret
  all_goals exact ⟨ret_bool (by simp), HB2.out⟩

/-- The document's own example of Score. -/
def head4T : List UInt8 := [97, 49, 43, 58, 58, 58, 59, 98, 49, 43, 58, 58, 58, 59, 98, 50, 58, 58, 58, 59, 99, 49, 58, 58, 58, 59, 47, 47, 47]
def head4C : List UInt8 := [45, 114, 45, 110, 45, 99, 45, 117]
def head4P : List UInt8 := [98, 49, 99, 49]
def head4U : List UInt8 := [49, 44, 49, 44, 50, 44, 49]
theorem head4E : usE head4T head4C head4P = 0 := by decide +kernel
theorem head4R : usT head4T head4C head4P = head4U := by decide +kernel

set_option maxHeartbeats 800000 in
theorem law_heads4 (w : World) : Calls Tryz.prog 13 #[.int .i64 4] w fun e w' => e = .returned (.bool true) ∧ Below w.heap.size w w' := by
  go_enter Tryz.func13, Tryz.ntmps13
  go_wp2_with fail
  refine (up_Score (bs head4T) head4C head4P _ (by unfold maxLen; decide) (by unfold maxLen; decide) (by unfold maxLen; decide)).mono ?_
  rintro e w1 ⟨rfl, hb1⟩
  rw [bs_list, head4E, head4R]
  have he : ((bs head4U).toList == [49, 44, 49, 44, 50, 44, 49]) = true := by rw [tl]; decide
  go_wp2
  go_ret
  exact ⟨rfl, hb1⟩

end Go.Proofs.YtenbnmbbfeekpabGreatDoor
