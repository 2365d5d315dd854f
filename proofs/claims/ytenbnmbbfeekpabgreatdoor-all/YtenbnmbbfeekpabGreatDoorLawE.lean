import Derived.Test.YtenbnmbbfeekpabGreatDoorXE
import Derived.Test.YtenbnmbbfeekpabGreatDoorXR
import Derived.Test.YtenbnmbbfeekpabGreatDoorSvC
import Derived.BigQuiet
import Derived.Deep.QuietTactic
namespace Go.Proofs.YtenbnmbbfeekpabGreatDoor
open Go.RowKit

set_option maxHeartbeats 1600000 in
theorem law_plays5 {T : List UInt8 → List UInt8 → List UInt8} {B : List UInt8 → List UInt8 → Bool} (hp : SolveP T B) (hc : SolveC T B) (n : Int) (S' T' U : ByteArray) (w : World) (hS : S'.size ≤ maxLen) (hT : T'.size ≤ maxLen) : Calls Tryz.prog 15 #[.agg #[.int .i64 5, .int .i64 n, .string S', .string T', .string U]] w fun e w' => e = .returned (.bool true) ∧ Below w.heap.size w w' := by
  obtain ⟨C, rfl⟩ : ∃ C, S' = bs C := ⟨_, (bs_back S').symm⟩
  obtain ⟨A, rfl⟩ : ∃ A, T' = bs A := ⟨_, (bs_back T').symm⟩
  rw [bs_size] at hS hT
  have HC : Hid (C.length ≤ maxLen) := hS
  have HA : Hid (A.length ≤ maxLen) := hT
  have HSC : Hid (SolveC T B) := hc
  have HSL : Hid (slB C A (T C A) (B C A) (rfE C A) n = true) := hp.solved C A n
  have HLI : Hid (∀ x ∈ T C A, litB x.toNat = true) := hp.lits C A
  have hln := hp.len C A
  have hrf := rf_le C A
  clear hS hT hp hc
  go_enter Tryz.func15, Tryz.ntmps15
  go_wp2_with fail
  refine (HSC.out C A _ HC.out HA.out).mono ?_
  rintro e w1 ⟨rfl, hb1⟩
  have hb : Below w.heap.size w w1 := ((Below.refl _ _).alloc (Nat.le_refl _) _).trans (hb1.mono (by simp))
  have hbx := blk_below hb1 (blk_new w (.cells #[.int .i64 5, .int .i64 n, .string (bs C), .string (bs A), .string U] 39)) (by simp)
  have c1 := cellAt hbx 1
  have c2 := cellAt hbx 2
  have c3 := cellAt hbx 3
  simp at c1 c2 c3
  have HB : Hid (Below w.heap.size w w1) := hb
  clear hb hb1 hbx
  generalize T C A = TT at *
  generalize B C A = BB at *
  generalize rfE C A = E at *
  go_wp2_with fail
  go_quiet (first | (go_at_call 33; refine Calls.quiet_of_same (law_num _ _)) | (go_at_call 35; refine Calls.quiet_of (ref_Solved C A TT BB E n _ HC.out HA.out (by omega) (by omega) HLI.out)))
  go_wp2
  go_ret
  exact ⟨ret_bool HSL.out, ⟨HB.out.os, HB.out.tape, HB.out.output, HB.out.size, HB.out.block⟩⟩

set_option maxHeartbeats 1600000 in
theorem law_heads5 {T : List UInt8 → List UInt8 → List UInt8} {B : List UInt8 → List UInt8 → Bool} (hp : SolveP T B) (hc : SolveC T B) (w : World) : Calls Tryz.prog 13 #[.int .i64 5] w fun e w' => e = .returned (.bool true) ∧ Below w.heap.size w w' := by
  have HSC : Hid (SolveC T B) := hc
  have H1 : Hid (T exC [66] = [66] ∧ B exC [66] = false) := hp.ex1
  have H3 : Hid (T [] [99, 65] = [65, 99] ∧ B [] [99, 65] = true) := hp.ex3
  clear hp hc
  go_enter Tryz.func13, Tryz.ntmps13
  go_wp2_with fail
  refine (HSC.out exC [66] _ (by unfold maxLen; decide) (by unfold maxLen; decide)).mono ?_
  rintro e w1 ⟨rfl, hb1⟩
  rw [H1.out.1, H1.out.2, ex1_rf]
  have HB1 : Hid (Below w.heap.size w w1) := hb1
  clear hb1
  go_wp2_with fail
  refine (HSC.out [] [99, 65] _ (by unfold maxLen; decide) (by unfold maxLen; decide)).mono ?_
  rintro e w2 ⟨rfl, hb2⟩
  rw [H3.out.1, H3.out.2, ex3_rf]
  have HB2 : Hid (Below w.heap.size w w2) := HB1.out.trans (hb2.mono HB1.out.size)
  clear hb2
  have he1 : ((bs [66]).toList == [66]) = true := by rw [tl]; decide
  have he2 : ((bs [65, 99]).toList == [65, 99]) = true := by rw [tl]; decide
  go_wp2
  go_ret
  exact ⟨rfl, HB2.out⟩

end Go.Proofs.YtenbnmbbfeekpabGreatDoor
