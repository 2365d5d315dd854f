import Derived.Test.YtenbnmbbfeekpabDoorKdD
import Derived.Test.YtenbnmbbfeekpabDoorXZ
import Derived.Deep.QuietTactic
import Derived.BigQuiet
namespace Go.Proofs.YtenbnmbbfeekpabDoor
open Go.RowKit

def hasT (t : List UInt8) (c : Nat) : Bool := t.any fun y => y.toNat == c
def cntT (t : List UInt8) : Nat := t.countP fun y => y.toNat == 59
theorem cnt_cons (y : UInt8) (t : List UInt8) : cntT (y :: t) = cntT t + if y.toNat = 59 then 1 else 0 := by
  unfold cntT
  rw [List.countP_cons]
  simp

set_option maxHeartbeats 1600000 in
theorem keep_stands (t : List UInt8) (c : Nat) (w : World) (ht : t.length ≤ maxLen) : Calls Tryd.prog 6 #[.string (bs t), .int .u8 c] w fun e w' => e = .returned (.bool (hasT t c)) ∧ w' = w := by
  have hsz : (bs t).size = t.length := bs_size t
  unfold maxLen at ht
  obtain ⟨R, hR⟩ : ∃ R, R = hasT t c := ⟨_, rfl⟩
  have HR : Hid (hasT t c = R) := hR.symm
  rw [← hR]
  clear hR
  go_enter Tryd.func6, Tryd.ntmps6
  go_wp2
  go_loop [5] (fun i => ∃ k : Nat, k ≤ t.length ∧ i = .int .i64 k ∧ Hid (hasT (t.drop k) c = R)) (fun i => t.length - (intOf i).toNat)
  case atStart => exact ⟨0, by omega, rfl, HR⟩
  case round =>
    obtain ⟨k, hk, rfl, HI⟩ := hrel
    by_cases hlt : k < t.length
    · have hi : (k : Int) < ((bs t).size : Int) := by rw [hsz]; omega
      obtain ⟨X, hX⟩ : ∃ X, X = t[k].toNat := ⟨_, rfl⟩
      have q0 : ∀ h, ((bs t)[k]'h).toNat = X := fun h => by rw [bs_at, hX]
      have HD : Hid ((X == c || hasT (t.drop (k + 1)) c) = R) := by show _ = _; rw [← HI.out, List.drop_eq_getElem_cons hlt, hX]; rfl
      clear HI hX
      by_cases he : X = c
      · have e1 : ((X : Int) == (c : Int)) = true := by rw [beq_iff_eq]; omega
        have HF : Hid (true = R) := by show _ = _; rw [← HD.out, he]; simp
        clear HD he
        go_wp2
        go_ret
        exact ⟨ret_bool HF.out, rfl⟩
      · have e1 : ((X : Int) == (c : Int)) = false := by rw [beq_eq_false_iff_ne]; omega
        have HF : Hid (hasT (t.drop (k + 1)) c = R) := by show _ = _; rw [← HD.out]; have : (X == c) = false := by simpa using he
                                                          rw [this]; rfl
        clear HD he
        go_wp2
        go_round
        case rel => exact ⟨k + 1, by omega, by go_num, HF⟩
        case measure => simp [intOf]; omega
    · have HF : Hid (false = R) := by show _ = _; rw [← HI.out, List.drop_of_length_le (by omega)]; rfl
      clear HI
      go_wp2
      go_ret
      exact ⟨ret_bool HF.out, rfl⟩

set_option maxHeartbeats 1600000 in
theorem keep_packs (t : List UInt8) (w : World) (ht : t.length ≤ maxLen) : Calls Tryd.prog 8 #[.string (bs t)] w fun e w' => e = .returned (.int .i64 (cntT t : Nat)) ∧ w' = w := by
  have hsz : (bs t).size = t.length := bs_size t
  unfold maxLen at ht
  obtain ⟨R, hR⟩ : ∃ R, R = cntT t := ⟨_, rfl⟩
  have HR : Hid (0 + cntT t = R) := by show _ = _; omega
  rw [← hR]
  clear hR
  go_enter Tryd.func8, Tryd.ntmps8
  go_wp2
  go_loop [3, 4] (fun o i => ∃ k n : Nat, k ≤ t.length ∧ n ≤ k ∧ i = .int .i64 k ∧ o = .int .i64 n ∧ Hid (n + cntT (t.drop k) = R)) (fun _ i => t.length - (intOf i).toNat)
  case atStart => exact ⟨0, 0, by omega, by omega, rfl, rfl, HR⟩
  case round =>
    obtain ⟨k, n, hk, hn, rfl, rfl, HI⟩ := hrel
    by_cases hlt : k < t.length
    · have hi : (k : Int) < ((bs t).size : Int) := by rw [hsz]; omega
      obtain ⟨X, hX⟩ : ∃ X, X = t[k].toNat := ⟨_, rfl⟩
      have q0 : ∀ h, ((bs t)[k]'h).toNat = X := fun h => by rw [bs_at, hX]
      have HD : Hid (n + (cntT (t.drop (k + 1)) + if X = 59 then 1 else 0) = R) := by show _ = _; rw [← HI.out, List.drop_eq_getElem_cons hlt, cnt_cons, hX]
      clear HI hX
      by_cases he : X = 59
      · have e1 : ((X : Int) == 59) = true := by rw [beq_iff_eq]; omega
        have HF : Hid ((n + 1) + cntT (t.drop (k + 1)) = R) := by show _ = _; have := HD.out; rw [if_pos he] at this; omega
        clear HD he
        go_wp2
        go_round
        case rel => exact ⟨k + 1, n + 1, by omega, by omega, by go_num, by go_num, HF⟩
        case measure => simp [intOf]; omega
      · have e1 : ((X : Int) == 59) = false := by rw [beq_eq_false_iff_ne]; omega
        have HF : Hid (n + cntT (t.drop (k + 1)) = R) := by show _ = _; have := HD.out; rw [if_neg he] at this; omega
        clear HD he
        go_wp2
        go_round
        case rel => exact ⟨k + 1, n, by omega, by omega, by go_num, rfl, HF⟩
        case measure => simp [intOf]; omega
    · have HF : Hid (n = R) := by show _ = _; have := HI.out; rw [List.drop_of_length_le (by omega)] at this; exact this
      clear HI
      go_wp2
      go_ret
      exact ⟨ret_int (by rw [HF.out]), rfl⟩

end Go.Proofs.YtenbnmbbfeekpabDoor
