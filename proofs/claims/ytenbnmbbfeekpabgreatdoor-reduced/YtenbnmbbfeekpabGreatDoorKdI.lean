import Derived.Test.YtenbnmbbfeekpabGreatDoorKdW
import Derived.Test.YtenbnmbbfeekpabGreatDoorXZr
import Derived.Test.YtenbnmbbfeekpabGreatDoorXU0
import Derived.Deep.QuietTactic
import Derived.BigQuiet
namespace Go.Proofs.YtenbnmbbfeekpabGreatDoor
open Go.RowKit

theorem inB_cons (a b : UInt8) (r I : List UInt8) : inB (a :: b :: r) I = ([a, b] == I || inB r I) := by unfold inB; rw [ch2, List.any_cons]
theorem ex2 {s : List UInt8} {k : Nat} (h : 2 * k + 1 < s.length) : ((bs s).extract (2 * k) (2 * k + 2)).toList = [s[2 * k], s[2 * k + 1]] := by
  rw [extract_bs, bs_list, tl]
  rw [List.drop_take, show 2 * k + 2 - 2 * k = 2 by omega, List.drop_eq_getElem_cons (by omega), List.drop_eq_getElem_cons h]
  rfl

set_option maxHeartbeats 1600000 in
set_option maxRecDepth 100000 in
theorem keep_chosen (s I : List UInt8) (w : World) (hs : s.length ≤ 2000) : Calls Tryz.prog 11 #[.string (bs s), .string (bs I)] w fun e w' => e = .returned (.bool (inB s I)) ∧ w' = w := by
  have hsz : (bs s).size = s.length := bs_size s
  obtain ⟨R, hR⟩ : ∃ R, R = inB s I := ⟨_, rfl⟩
  have HR : Hid (inB s I = R) := hR.symm
  rw [← hR]
  clear hR
  go_enter Tryz.func11, Tryz.ntmps11
  go_wp2
  go_loop [5] (fun i => ∃ k : Nat, 2 * k ≤ s.length + 1 ∧ i = .int .i64 ((2 * k : Nat) : Int) ∧ Hid (inB (s.drop (2 * k)) I = R)) (fun i => s.length + 2 - (intOf i).toNat)
  case atStart => exact ⟨0, by omega, rfl, HR⟩
  case round =>
    obtain ⟨k, hk, rfl, HI⟩ := hrel
    by_cases hlt : 2 * k + 1 < s.length
    · have e1 : 2 * (k : Int) + 1 < (s.length : Int) := by omega
      have hx := ex2 hlt
      have ht := tl I
      have HD : Hid (([s[2 * k], s[2 * k + 1]] == I || inB (s.drop (2 * (k + 1))) I) = R) := by
        show _ = _
        rw [← HI.out, List.drop_eq_getElem_cons (show 2 * k < s.length by omega), List.drop_eq_getElem_cons hlt, inB_cons]
        rfl
      generalize [s[2 * k], s[2 * k + 1]] = Y at *
      clear HI
      cases he : (Y == I) with
      | true =>
        have HF : Hid (true = R) := by show _ = _; rw [← HD.out, he]; rfl
        clear HD
        go_wp2
        go_ret
        exact ⟨ret_bool HF.out, rfl⟩
      | false =>
        have HF : Hid (inB (s.drop (2 * (k + 1))) I = R) := by show _ = _; rw [← HD.out, he]; rfl
        clear HD
        go_wp2
        go_round
        case rel => exact ⟨k + 1, by omega, by go_num, HF⟩
        case measure => simp [intOf]; omega
    · have e1 : ¬ 2 * (k : Int) + 1 < (s.length : Int) := by omega
      have HF : Hid (false = R) := by
        show _ = _
        rw [← HI.out]
        have hl : (s.drop (2 * k)).length ≤ 1 := by simp; omega
        match s.drop (2 * k), hl with
        | [], _ => rfl
        | [_], _ => rfl
      clear HI
      go_wp2
      go_ret
      exact ⟨ret_bool HF.out, rfl⟩

end Go.Proofs.YtenbnmbbfeekpabGreatDoor
