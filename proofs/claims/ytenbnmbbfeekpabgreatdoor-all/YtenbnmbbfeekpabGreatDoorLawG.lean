import Derived.Test.YtenbnmbbfeekpabGreatDoorLawF
namespace Go.Proofs.YtenbnmbbfeekpabGreatDoor
open Go.RowKit

set_option maxHeartbeats 1600000 in
theorem law_heads6 {T : List UInt8 → List UInt8 → List UInt8} {E : List UInt8 → List UInt8 → Nat} (hp : ChooseP T E) (hc : ChooseC T E) (w : World) : Calls Tryz.prog 13 #[.int .i64 6] w fun e w' => e = .returned (.bool true) ∧ Below w.heap.size w w' := by
  have HCC : Hid (ChooseC T E) := hc
  have H6 : Hid (T head6T [45, 99] = head6U ∧ E head6T [45, 99] = 0) := head6 hp
  clear hp hc
  go_enter Tryz.func13, Tryz.ntmps13
  go_wp2_with fail
  refine (HCC.out head6T [45, 99] _ (by unfold maxLen; decide) (by unfold maxLen; decide)).mono ?_
  rintro e w1 ⟨rfl, hb1⟩
  rw [H6.out.1, H6.out.2]
  have he : ((bs head6U).toList == [97, 49, 98, 50]) = true := by rw [tl]; decide
  go_wp2
  go_ret
  exact ⟨rfl, hb1⟩

end Go.Proofs.YtenbnmbbfeekpabGreatDoor
