import Derived.Test.YtdfnnpakdbhhpaaGreatDoorRows
import Derived.Test.YtdfnnpakdbhhpaaGreatDoorMath
namespace Go.Proofs.YtdfnnpakdbhhpaaGreatDoor
open Go.RowKit

set_option maxHeartbeats 400000 in
theorem ref_name (c : Int) (w : World) : Calls Tryz.prog 112 #[.int .u8 c] w fun e w' => e = .returned (.bool (nmB c)) ∧ w' = w := by
  go_enter Tryz.func112, Tryz.ntmps112
  go_wp2
  all_goals go_ret
  all_goals simp_all [nmB]
  all_goals omega

set_option maxHeartbeats 400000 in
theorem ref_version (c : Int) (w : World) : Calls Tryz.prog 113 #[.int .u8 c] w fun e w' => e = .returned (.bool (vrB c)) ∧ w' = w := by
  go_enter Tryz.func113, Tryz.ntmps113
  go_wp2
  all_goals go_ret
  all_goals simp_all [vrB]
  all_goals omega

set_option maxHeartbeats 400000 in
theorem ref_sign (c : Int) (w : World) : Calls Tryz.prog 114 #[.int .u8 c] w fun e w' => e = .returned (.bool (sgB c)) ∧ w' = w := by
  go_enter Tryz.func114, Tryz.ntmps114
  go_wp2
  all_goals go_ret
  all_goals simp_all [sgB]
  all_goals rw [Bool.or_assoc]

set_option maxHeartbeats 800000 in
theorem ref_head (q c : Int) (w : World) (h0 : 0 ≤ q) (h1 : q < 5) : Calls Tryz.prog 93 #[.int .i64 q, .int .u8 c] w fun e w' => e = .returned (.int .i64 (headF q c)) ∧ w' = w := by
  rcases (by omega : q = 0 ∨ q = 1 ∨ q = 2 ∨ q = 3 ∨ q = 4) with rfl | rfl | rfl | rfl | rfl
  all_goals
    go_enter Tryz.func93, Tryz.ntmps93
    go_wp2_with (first | (go_at_call 112; refine (ref_name _ _).mono ?_; rintro e w' ⟨rfl, rfl⟩) | (go_at_call 113; refine (ref_version _ _).mono ?_; rintro e w' ⟨rfl, rfl⟩))
    all_goals go_ret
    all_goals simp_all [headF]

set_option maxHeartbeats 800000 in
theorem ref_needs (q c : Int) (w : World) (h0 : 5 ≤ q) (h1 : q < 13) : Calls Tryz.prog 94 #[.int .i64 q, .int .u8 c] w fun e w' => e = .returned (.int .i64 (needF q c)) ∧ w' = w := by
  rcases (by omega : q = 5 ∨ q = 6 ∨ q = 7 ∨ q = 8 ∨ q = 9 ∨ q = 10 ∨ q = 11 ∨ q = 12) with rfl | rfl | rfl | rfl | rfl | rfl | rfl | rfl
  all_goals
    go_enter Tryz.func94, Tryz.ntmps94
    go_wp2_with (first | (go_at_call 112; refine (ref_name _ _).mono ?_; rintro e w' ⟨rfl, rfl⟩) | (go_at_call 113; refine (ref_version _ _).mono ?_; rintro e w' ⟨rfl, rfl⟩) | (go_at_call 114; refine (ref_sign _ _).mono ?_; rintro e w' ⟨rfl, rfl⟩))
    all_goals go_ret
    all_goals simp_all [needF]

set_option maxHeartbeats 1600000 in
theorem ref_lists (k q c : Int) (w : World) (k0 : 0 ≤ k) (k1 : k ≤ 3) (h0 : 0 ≤ q) (h1 : q < 5) : Calls Tryz.prog 95 #[.int .i64 k, .int .i64 q, .int .u8 c] w fun e w' => e = .returned (.int .i64 (listF k q c)) ∧ w' = w := by
  rcases (by omega : q = 0 ∨ q = 1 ∨ q = 2 ∨ q = 3 ∨ q = 4) with rfl | rfl | rfl | rfl | rfl
  all_goals
    rcases (by omega : k = 0 ∨ k = 1 ∨ k = 2 ∨ k = 3) with rfl | rfl | rfl | rfl
    all_goals
      go_enter Tryz.func95, Tryz.ntmps95
      go_wp2_with (first | (go_at_call 112; refine (ref_name _ _).mono ?_; rintro e w' ⟨rfl, rfl⟩) | (go_at_call 113; refine (ref_version _ _).mono ?_; rintro e w' ⟨rfl, rfl⟩) | (go_at_call 114; refine (ref_sign _ _).mono ?_; rintro e w' ⟨rfl, rfl⟩))
      all_goals go_ret
      all_goals simp_all [listF]

end Go.Proofs.YtdfnnpakdbhhpaaGreatDoor
