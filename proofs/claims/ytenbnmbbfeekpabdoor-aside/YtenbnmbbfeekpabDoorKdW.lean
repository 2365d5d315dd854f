import Derived.Test.YtenbnmbbfeekpabDoorXT
import Derived.Test.YtenbnmbbfeekpabDoorXNf
namespace Go.Proofs.YtenbnmbbfeekpabDoor
open Go.RowKit

set_option maxHeartbeats 3200000 in
theorem keep_works {T : List UInt8 → List UInt8 → List UInt8} {E : List UInt8 → List UInt8 → Nat} (hp : ChooseP T E) (hc : ChooseC T E) (w : World) : Calls Tryd.prog 4 #[] w fun e w' => e = .returned (.bool true) ∧ Below w.heap.size w w' := by
  have HCC : Hid (ChooseC T E) := hc
  have H1 : Hid (T wk3 [45, 99] = [97, 49, 98, 49] ∧ E wk3 [45, 99] = 0) := wk_c1 hp
  have H2 : Hid (T wk4 [43, 110] = [] ∧ E wk4 [43, 110] = 7) := wk_c2 hp
  clear hp hc
  go_enter Tryd.func4, Tryd.ntmps4
  go_wp2_with fail
  refine (up_Valid (bs wk1) (bs [97, 49]) _ (by unfold maxLen; decide) (by unfold maxLen; decide)).mono ?_
  rintro e w1 ⟨rfl, hb1⟩
  rw [bs_list, bs_list, wk_v1.1, wk_v1.2]
  have HB1 : Hid (Below w.heap.size w w1) := hb1
  clear hb1
  go_wp2_with fail
  refine (up_Valid (bs wk1) (bs [97, 49, 98, 50]) _ (by unfold maxLen; decide) (by unfold maxLen; decide)).mono ?_
  rintro e w2 ⟨rfl, hb2⟩
  rw [bs_list, bs_list, wk_v2.1, wk_v2.2]
  have HB2 : Hid (Below w.heap.size w w2) := HB1.out.trans (hb2.mono HB1.out.size)
  clear hb2
  go_wp2_with fail
  refine (up_Score (bs wk2) [45, 99] [98, 49, 99, 49] _ (by unfold maxLen; decide) (by unfold maxLen; decide) (by unfold maxLen; decide)).mono ?_
  rintro e w3 ⟨rfl, hb3⟩
  rw [bs_list, wk_s.1, wk_s.2]
  have HB3 : Hid (Below w.heap.size w w3) := HB2.out.trans (hb3.mono HB2.out.size)
  clear hb3
  have he1 : ((bs [50]).toList == [50]) = true := by rw [tl]; decide
  have he1' : ((bs [50]).toList != [50]) = false := by rw [tl]; decide
  have he2 : ((bs [97, 49, 98, 49]).toList == [97, 49, 98, 49]) = true := by rw [tl]; decide
  have he3 : (((bs []).toList == []) : Bool) = true := by rw [tl]; rfl
  have he4 : (bs []).toList.isEmpty = true := by rw [tl]; rfl
  go_wp2_with fail
  refine (HCC.out wk3 [45, 99] _ (by unfold maxLen; decide) (by unfold maxLen; decide)).mono ?_
  rintro e w4 ⟨rfl, hb4⟩
  rw [H1.out.1, H1.out.2]
  have HB4 : Hid (Below w.heap.size w w4) := HB3.out.trans (hb4.mono HB3.out.size)
  clear hb4
  go_wp2_with fail
  refine (HCC.out wk4 [43, 110] _ (by unfold maxLen; decide) (by unfold maxLen; decide)).mono ?_
  rintro e w5 ⟨rfl, hb5⟩
  rw [H2.out.1, H2.out.2]
  have HB5 : Hid (Below w.heap.size w w5) := HB4.out.trans (hb5.mono HB4.out.size)
  clear hb5
  go_wp2
  go_ret
  exact ⟨rfl, HB5.out⟩

/-- A row of numbers in memory. -/
def IntsAt (w : World) (ao : Option Addr) (len : Nat) : Prop := ∀ i, i < len → ∃ b off c, ao = some ⟨b, off, none⟩ ∧ w.cell? ⟨b, off + i, none⟩ = some (.int .i64 c) ∧ -9223372036854775808 ≤ c ∧ c ≤ 9223372036854775807

end Go.Proofs.YtenbnmbbfeekpabDoor
