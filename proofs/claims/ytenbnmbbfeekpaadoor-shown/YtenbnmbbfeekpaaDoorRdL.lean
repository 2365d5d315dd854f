import Derived.Test.YtenbnmbbfeekpaaDoorXC
namespace Go.Proofs.YtenbnmbbfeekpaaDoor
open Go.RowKit

set_option maxHeartbeats 400000 in
theorem up_Check (s : ByteArray) (w : World) (hs : s.size ≤ maxLen) : Calls Tryd.prog 11 #[.string s] w fun e w' => e = .returned (.tuple #[.int .i64 (rdE s.data.toList), .int .i64 (rdP s.data.toList)]) ∧ Below w.heap.size w w' := by
  go_enter Tryd.func11, Tryd.ntmps11
  go_wp2_with fail
  refine (doc_Read s _ hs).mono ?_
  rintro e w1 ⟨ap, np, cp, ai, ni, ci, ar, nr, cr, au, nu, cu, rfl, hb, _⟩
  go_wp2_with fail
  go_quiet (fail)
  go_wp2
  go_ret2
  exact ⟨rfl, (hb.alloc hb.size _).trans ⟨rfl, rfl, rfl, Nat.le_refl _, fun _ _ => rfl⟩⟩

end Go.Proofs.YtenbnmbbfeekpaaDoor
