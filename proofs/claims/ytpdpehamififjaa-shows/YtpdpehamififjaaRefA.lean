import Derived.Test.YtpdpehamififjaaRows
import Derived.Test.YtpdpehamififjaaMath
namespace Go.Proofs.Ytpdpehamififjaa
open Go.RowKit

set_option maxHeartbeats 400000 in
theorem ref_name (c : Int) (w : World) : Calls Try.prog 82 #[.int .u8 c] w fun e w' => e = .returned (.bool (nmB c)) ∧ w' = w := by
  go_enter Try.func82, Try.ntmps82
  go_wp2
  all_goals go_ret
  all_goals simp_all [nmB]
  all_goals omega

set_option maxHeartbeats 400000 in
theorem ref_version (c : Int) (w : World) : Calls Try.prog 83 #[.int .u8 c] w fun e w' => e = .returned (.bool (vrB c)) ∧ w' = w := by
  go_enter Try.func83, Try.ntmps83
  go_wp2
  all_goals go_ret
  all_goals simp_all [vrB]
  all_goals omega

set_option maxHeartbeats 400000 in
theorem ref_sign (c : Int) (w : World) : Calls Try.prog 84 #[.int .u8 c] w fun e w' => e = .returned (.bool (sgB c)) ∧ w' = w := by
  go_enter Try.func84, Try.ntmps84
  go_wp2
  all_goals go_ret
  all_goals simp_all [sgB]
  all_goals rw [Bool.or_assoc]

set_option maxHeartbeats 800000 in
theorem ref_head (q c : Int) (w : World) (h0 : 0 ≤ q) (h1 : q < 5) : Calls Try.prog 67 #[.int .i64 q, .int .u8 c] w fun e w' => e = .returned (.int .i64 (headF q c)) ∧ w' = w := by
  rcases (by omega : q = 0 ∨ q = 1 ∨ q = 2 ∨ q = 3 ∨ q = 4) with rfl | rfl | rfl | rfl | rfl
  all_goals
    go_enter Try.func67, Try.ntmps67
    go_wp2_with (first | (go_at_call 82; refine (ref_name _ _).mono ?_; rintro e w' ⟨rfl, rfl⟩) | (go_at_call 83; refine (ref_version _ _).mono ?_; rintro e w' ⟨rfl, rfl⟩))
    all_goals go_ret
    all_goals simp_all [headF]

set_option maxHeartbeats 800000 in
theorem ref_needs (q c : Int) (w : World) (h0 : 5 ≤ q) (h1 : q < 13) : Calls Try.prog 68 #[.int .i64 q, .int .u8 c] w fun e w' => e = .returned (.int .i64 (needF q c)) ∧ w' = w := by
  rcases (by omega : q = 5 ∨ q = 6 ∨ q = 7 ∨ q = 8 ∨ q = 9 ∨ q = 10 ∨ q = 11 ∨ q = 12) with rfl | rfl | rfl | rfl | rfl | rfl | rfl | rfl
  all_goals
    go_enter Try.func68, Try.ntmps68
    go_wp2_with (first | (go_at_call 82; refine (ref_name _ _).mono ?_; rintro e w' ⟨rfl, rfl⟩) | (go_at_call 83; refine (ref_version _ _).mono ?_; rintro e w' ⟨rfl, rfl⟩) | (go_at_call 84; refine (ref_sign _ _).mono ?_; rintro e w' ⟨rfl, rfl⟩))
    all_goals go_ret
    all_goals simp_all [needF]

set_option maxHeartbeats 1600000 in
theorem ref_lists (k q c : Int) (w : World) (k0 : 0 ≤ k) (k1 : k ≤ 3) (h0 : 0 ≤ q) (h1 : q < 5) : Calls Try.prog 69 #[.int .i64 k, .int .i64 q, .int .u8 c] w fun e w' => e = .returned (.int .i64 (listF k q c)) ∧ w' = w := by
  rcases (by omega : q = 0 ∨ q = 1 ∨ q = 2 ∨ q = 3 ∨ q = 4) with rfl | rfl | rfl | rfl | rfl
  all_goals
    rcases (by omega : k = 0 ∨ k = 1 ∨ k = 2 ∨ k = 3) with rfl | rfl | rfl | rfl
    all_goals
      go_enter Try.func69, Try.ntmps69
      go_wp2_with (first | (go_at_call 82; refine (ref_name _ _).mono ?_; rintro e w' ⟨rfl, rfl⟩) | (go_at_call 83; refine (ref_version _ _).mono ?_; rintro e w' ⟨rfl, rfl⟩) | (go_at_call 84; refine (ref_sign _ _).mono ?_; rintro e w' ⟨rfl, rfl⟩))
      all_goals go_ret
      all_goals simp_all [listF]

end Go.Proofs.Ytpdpehamififjaa
