import Derived.Test.YtenbnmbbfeekpabGreatDoorSvC

namespace Go.Proofs.YtenbnmbbfeekpabGreatDoor
open Go.RowKit

set_option maxHeartbeats 800000 in
theorem keep_holds (b : Int) (c : Nat) (w : World) (hc : litB c = true) : Calls Tryz.prog 28 #[.int .i64 b, .int .u8 c] w fun e w' => e = .returned (.bool (trB (bitF b) c)) ∧ w' = w := by
  have hr := lit_rng hc
  have hv := litV_lt hc
  have HC : Hid (litB c = true) := hc
  clear hc
  by_cases h1 : 97 ≤ c
  · have e1 : (97 : Int) ≤ (c : Int) := by omega
    have e2 : (c : Int) ≤ 122 := by omega
    obtain ⟨V, hV⟩ : ∃ V, V = c - 97 := ⟨_, rfl⟩
    have cV : (c : Int) - 97 = (V : Int) := by omega
    have hV25 : V < 26 := by omega
    have HF : Hid (trB (bitF b) c = ((b / 2 ^ V) % 2 == 1)) := by
      show _ = _
      have e : litV c = V := by unfold litV; rw [if_pos h1, hV]
      have e2 : litS c = true := by unfold litS; simpa using h1
      unfold trB bitF
      rw [e, e2]
      simp
    clear hV
    have hm : min V 64 = V := by omega
    go_enter Tryz.func28, Tryz.ntmps28
    go_wp2
    go_ret
    exact ⟨ret_bool (by rw [HF.out, and_one_i64]), rfl⟩
  · have e1 : ¬ (97 : Int) ≤ (c : Int) := by omega
    have d1 : decide (97 ≤ c) = false := by simpa using h1
    have e3 : (65 : Int) ≤ (c : Int) := by omega
    have h90 : c ≤ 90 := by have := HC.out; unfold litB at this; simp at this; omega
    have e4 : (c : Int) ≤ 90 := by omega
    obtain ⟨V, hV⟩ : ∃ V, V = c - 65 := ⟨_, rfl⟩
    have cV : (c : Int) - 65 = (V : Int) := by omega
    have hV25 : V < 26 := by omega
    have HF : Hid (trB (bitF b) c = ((b / 2 ^ V) % 2 == 0)) := by
      show _ = _
      have e : litV c = V := by unfold litV; rw [if_neg h1, hV]
      have e2 : litS c = false := by unfold litS; simpa using h1
      unfold trB bitF
      rw [e, e2, Bool.eq_iff_iff]
      have := Int.emod_two_eq (b / 2 ^ V)
      rcases this with h | h <;> rw [h] <;> simp
    clear hV
    have hm : min V 64 = V := by omega
    go_enter Tryz.func28, Tryz.ntmps28
    go_wp2
    go_ret
    exact ⟨ret_bool (by rw [HF.out, and_one_i64]), rfl⟩

end Go.Proofs.YtenbnmbbfeekpabGreatDoor

namespace Go.Proofs.YtenbnmbbfeekpabGreatDoor
open Go.RowKit

set_option maxHeartbeats 1600000 in
theorem keep_tells {T : List UInt8 → List UInt8 → List UInt8} {B : List UInt8 → List UInt8 → Bool} (hp : SolveP T B) (hc : SolveC T B) (w : World) : Calls Tryz.prog 6 #[] w fun e w' => e = .returned (.bool true) ∧ Below w.heap.size w w' := by
  have HSC : Hid (SolveC T B) := hc
  have H1 : Hid (T exC [66] = [66] ∧ B exC [66] = false) := hp.ex1
  have H2 : Hid (T [] [97, 65] = [65, 97] ∧ B [] [97, 65] = false) := hp.ex2
  have H3 : Hid (T [] [99, 65] = [65, 99] ∧ B [] [99, 65] = true) := hp.ex3
  clear hp hc
  go_enter Tryz.func6, Tryz.ntmps6
  go_wp2_with fail
  refine (HSC.out exC [66] _ (by unfold maxLen; decide) (by unfold maxLen; decide)).mono ?_
  rintro e w1 ⟨rfl, hb1⟩
  rw [H1.out.1, H1.out.2, ex1_rf]
  have HB1 : Hid (Below w.heap.size w w1) := hb1
  clear hb1
  go_wp2_with fail
  refine (HSC.out [] [97, 65] _ (by unfold maxLen; decide) (by unfold maxLen; decide)).mono ?_
  rintro e w2 ⟨rfl, hb2⟩
  rw [H2.out.1, H2.out.2, ex2_rf]
  have HB2 : Hid (Below w.heap.size w w2) := HB1.out.trans (hb2.mono HB1.out.size)
  clear hb2
  go_wp2_with fail
  refine (HSC.out [] [99, 65] _ (by unfold maxLen; decide) (by unfold maxLen; decide)).mono ?_
  rintro e w3 ⟨rfl, hb3⟩
  rw [H3.out.1, H3.out.2, ex3_rf]
  have HB3 : Hid (Below w.heap.size w w3) := HB2.out.trans (hb3.mono HB2.out.size)
  clear hb3
  have he1 : ((bs [66]).toList == [66]) = true := by rw [kTl]; decide
  have he2 : ((bs [65, 97]).toList == [65, 97]) = true := by rw [kTl]; decide
  have he3 : ((bs [65, 99]).toList == [65, 99]) = true := by rw [kTl]; decide
  go_wp2
  go_ret
  exact ⟨rfl, HB3.out⟩

end Go.Proofs.YtenbnmbbfeekpabGreatDoor
