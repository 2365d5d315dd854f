import Derived.Test.YtenbnmbbfeekpabGreatDoorXI
import Derived.Test.YtenbnmbbfeekpabGreatDoorXQ

namespace Go.Proofs.YtenbnmbbfeekpabGreatDoor
open Go.RowKit

set_option maxHeartbeats 800000 in
theorem ref_literal (c : Nat) (w : World) : Calls Tryz.prog 114 #[.int .u8 c] w fun e w' => e = .returned (.bool (litB c)) ∧ w' = w := by
  by_cases h1 : 97 ≤ c
  · have e1 : (97 : Int) ≤ (c : Int) := by omega
    by_cases h2 : c ≤ 122
    · have e2 : (c : Int) ≤ 122 := by omega
      have HF : Hid (litB c = true) := by show _ = _; simp [litB, h1, h2]
      go_enter Tryz.func114, Tryz.ntmps114
      go_wp2
      go_ret
      exact ⟨ret_bool HF.out.symm, rfl⟩
    · have e2 : ¬ (c : Int) ≤ 122 := by omega
      have d2 : decide (c ≤ 122) = false := by simpa using h2
      have e3 : (65 : Int) ≤ (c : Int) := by omega
      have HF : Hid (litB c = false) := by show _ = _; unfold litB; simp; omega
      have d4 : decide (c ≤ 90) = false := by simp; omega
      go_enter Tryz.func114, Tryz.ntmps114
      go_wp2
      go_ret
      exact ⟨ret_bool (by rw [HF.out]; first | rfl | (simp; omega)), rfl⟩
  · have e1 : ¬ (97 : Int) ≤ (c : Int) := by omega
    have d1 : decide (97 ≤ c) = false := by simpa using h1
    by_cases h3 : 65 ≤ c
    · have e3 : (65 : Int) ≤ (c : Int) := by omega
      have HF : Hid (litB c = decide ((c : Int) ≤ 90)) := by show _ = _; unfold litB; rw [d1, Bool.eq_iff_iff]; simp [h3]; omega
      go_enter Tryz.func114, Tryz.ntmps114
      go_wp2
      go_ret
      exact ⟨ret_bool HF.out.symm, rfl⟩
    · have e3 : ¬ (65 : Int) ≤ (c : Int) := by omega
      have d3 : decide (65 ≤ c) = false := by simpa using h3
      have HF : Hid (litB c = false) := by show _ = _; unfold litB; rw [d1, d3]; rfl
      go_enter Tryz.func114, Tryz.ntmps114
      go_wp2
      go_ret
      exact ⟨ret_bool HF.out.symm, rfl⟩

set_option maxHeartbeats 800000 in
theorem ref_variable (c : Nat) (w : World) (hc : litB c = true) : Calls Tryz.prog 144 #[.int .u8 c] w fun e w' => e = .returned (.int .i64 (litV c : Nat)) ∧ w' = w := by
  have hr : 65 ≤ c ∧ c ≤ 122 := by unfold litB at hc; simp at hc; omega
  by_cases h1 : 97 ≤ c
  · have e1 : (97 : Int) ≤ (c : Int) := by omega
    have HF : Hid ((litV c : Int) = (c : Int) - 97) := by show _ = _; unfold litV; rw [if_pos h1]; omega
    go_enter Tryz.func144, Tryz.ntmps144
    go_wp2
    go_ret
    exact ⟨ret_int HF.out.symm, rfl⟩
  · have e1 : ¬ (97 : Int) ≤ (c : Int) := by omega
    have HF : Hid ((litV c : Int) = (c : Int) - 65) := by show _ = _; unfold litV; rw [if_neg h1]; omega
    go_enter Tryz.func144, Tryz.ntmps144
    go_wp2
    go_ret
    exact ⟨ret_int HF.out.symm, rfl⟩

set_option maxHeartbeats 800000 in
theorem ref_true1 (b : Int) (c : Nat) (w : World) (hc : litB c = true) : Calls Tryz.prog 116 #[.int .i64 b, .int .u8 c] w fun e w' => e = .returned (.bool (trB (bitF b) c)) ∧ w' = w := by
  have HC : Hid (litB c = true) := hc
  have hv := litV_lt hc
  have HF : Hid (trB (bitF b) c = (((b / 2 ^ litV c) % 2 == 1) == decide ((97 : Int) ≤ (c : Int)))) := by
    show _ = _
    unfold trB bitF litS
    congr 1
    rw [Bool.eq_iff_iff, decide_eq_true_iff, decide_eq_true_iff]
    omega
  go_enter Tryz.func116, Tryz.ntmps116
  go_wp2_with fail
  refine (ref_variable c _ HC.out).mono ?_
  rintro e w1 ⟨rfl, rfl⟩
  generalize litV c = V at *
  have hm : min V 64 = V := by omega
  go_wp2
  go_ret
  exact ⟨ret_bool (by rw [HF.out, and_one_i64]), rfl⟩

set_option maxHeartbeats 800000 in
set_option maxRecDepth 100000 in
theorem ref_has (s : List UInt8) (c : Nat) (w : World) (hs : s.length ≤ 4000) : Calls Tryz.prog 115 #[.string (bs s), .int .u8 c] w fun e w' => e = .returned (.bool (hasB s c)) ∧ w' = w := by
  have hsz : (bs s).size = s.length := bs_size s
  have hb : (bs s).size ≤ 4000 := by omega
  have HZ : Hid ((bs s).size = s.length) := hsz
  clear hsz
  go_enter Tryz.func115, Tryz.ntmps115
  go_wp2
  go_loop [5] (fun i => ∃ k : Nat, k ≤ (bs s).size ∧ i = .int .i64 k ∧ Hid (hasB s c = hasB (s.drop k) c)) (fun i => (bs s).size - (intOf i).toNat)
  case atStart => exact ⟨0, by omega, rfl, by show _ = _; simp⟩
  case round =>
    obtain ⟨k, hk, rfl, HI⟩ := hrel
    by_cases hlt : k < (bs s).size
    · have hlt' : k < s.length := by rw [HZ.out] at hlt; exact hlt
      obtain ⟨X, hX⟩ : ∃ X, X = s[k].toNat := ⟨_, rfl⟩
      have q0 : ∀ h, ((bs s)[k]'h).toNat = X := fun h => by rw [bs_at, hX]
      have HD : Hid (hasB s c = (X == c || hasB (s.drop (k + 1)) c)) := by show _ = _; rw [HI.out, List.drop_eq_getElem_cons hlt', hX]; rfl
      clear HI hX
      by_cases he : X = c
      · have e1 : ((X : Int) == c) = true := by rw [beq_iff_eq]; omega
        have HE : Hid (hasB s c = true) := by show _ = _; rw [HD.out]; simp [he]
        clear he HD
        go_wp2
        go_ret
        exact ⟨ret_bool HE.out.symm, rfl⟩
      · have e1 : ((X : Int) == c) = false := by rw [beq_eq_false_iff_ne]; omega
        have HE : Hid (hasB s c = hasB (s.drop (k + 1)) c) := by show _ = _; rw [HD.out]; simp [he]
        clear he HD
        go_wp2
        go_round
        case rel => exact ⟨k + 1, by omega, by go_num, HE⟩
        case measure => simp [intOf]; omega
    · have HE : Hid (hasB s c = false) := by show _ = _; rw [HI.out, List.drop_of_length_le (by rw [HZ.out] at hlt; omega)]; rfl
      go_wp2
      go_ret
      exact ⟨ret_bool HE.out.symm, rfl⟩

end Go.Proofs.YtenbnmbbfeekpabGreatDoor

namespace Go.Proofs.YtenbnmbbfeekpabGreatDoor
open Go.RowKit

set_option maxHeartbeats 3200000 in
set_option maxRecDepth 100000 in
theorem ref_Refusal (C A : List UInt8) (w : World) (hCm : C.length ≤ maxLen) (hAm : A.length ≤ maxLen) : Calls Tryz.prog 66 #[.string (bs C), .string (bs A)] w fun e w' => e = .returned (.int .i64 (rfE C A : Nat)) ∧ w' = w := by
  have hsC : (bs C).size = C.length := bs_size C
  have hsA : (bs A).size = A.length := bs_size A
  unfold maxLen at hCm hAm
  by_cases h1 : 800 < C.length
  · have e1 : (800 : Int) < (C.length : Int) := by omega
    have HF : Hid (rfE C A = 1) := by show _ = _; unfold rfE; rw [if_pos h1]
    go_enter Tryz.func66, Tryz.ntmps66
    go_wp2
    go_ret
    exact ⟨ret_int (by rw [HF.out]; rfl), rfl⟩
  have e1 : ¬ (800 : Int) < (C.length : Int) := by omega
  have d1 : decide (800 < C.length) = false := by simpa using h1
  by_cases h2 : 800 < A.length
  · have e2 : (800 : Int) < (A.length : Int) := by omega
    have HF : Hid (rfE C A = 1) := by show _ = _; unfold rfE; rw [if_neg h1, if_pos h2]
    go_enter Tryz.func66, Tryz.ntmps66
    go_wp2
    go_ret
    exact ⟨ret_int (by rw [HF.out]; rfl), rfl⟩
  have e2 : ¬ (800 : Int) < (A.length : Int) := by omega
  have d2 : decide (800 < A.length) = false := by simpa using h2
  have HRF : Hid (rfE C A = if (C.all fun x => clB x.toNat) = false then 8 else if lastB C = false then 8 else if (A.all fun x => litB x.toNat) = false then 9 else 0) := by
    show _ = _; unfold rfE; rw [if_neg h1, if_neg h2]
  have hC8 : C.length ≤ 800 := by omega
  have hA8 : A.length ≤ 800 := by omega
  have HSC : Hid ((bs C).size = C.length) := hsC
  have HSA : Hid ((bs A).size = A.length) := hsA
  clear hCm hAm h1 h2
  generalize hRB : rfE C A = R at *
  go_enter Tryz.func66, Tryz.ntmps66
  go_wp2
  clear d1 d2 e1 e2
  have HRE : Hid (rfE C A = R) := hRB
  clear hRB
  go_loop [5] (fun i => ∃ k : Nat, k ≤ C.length ∧ i = .int .i64 k ∧ Hid ((C.all fun x => clB x.toNat) = (C.drop k).all fun x => clB x.toNat)) (fun i => C.length - (intOf i).toNat)
  case atStart => exact ⟨0, by omega, rfl, by show _ = _; simp⟩
  case round =>
    obtain ⟨k, hk, rfl, HI⟩ := hrel
    by_cases hlt : k < C.length
    · have hi : (k : Int) < ((bs C).size : Int) := by rw [hsC]; omega
      obtain ⟨X, hX⟩ : ∃ X, X = C[k].toNat := ⟨_, rfl⟩
      have q0 : ∀ h, ((bs C)[k]'h).toNat = X := fun h => by rw [bs_at, hX]
      have HD : Hid ((C.all fun x => clB x.toNat) = (clB X && (C.drop (k + 1)).all fun x => clB x.toNat)) := by show _ = _; rw [HI.out, List.drop_eq_getElem_cons hlt, hX]; rfl
      clear HI hX
      cases hl : litB X with
      | true =>
        have HE : Hid ((C.all fun x => clB x.toNat) = (C.drop (k + 1)).all fun x => clB x.toNat) := by show _ = _; rw [HD.out]; simp [clB, hl]
        have HL : Hid (litB X = true) := hl
        clear hl HD
        go_wp2_with fail
        refine (ref_literal X _).mono ?_
        rintro e w1 ⟨rfl, rfl⟩
        rw [HL.out]
        go_wp2
        go_round
        case rel => exact ⟨k + 1, by omega, by go_num, HE⟩
        case measure => simp [intOf]; omega
      | false =>
        have HL : Hid (litB X = false) := hl
        by_cases h59 : X = 59
        · have y59 : ((X : Int) != 59) = false := by rw [bne_eq_false_iff_eq]; omega
          have HE : Hid ((C.all fun x => clB x.toNat) = (C.drop (k + 1)).all fun x => clB x.toNat) := by show _ = _; rw [HD.out]; simp [clB, h59]
          clear hl HD h59
          go_wp2_with fail
          refine (ref_literal X _).mono ?_
          rintro e w1 ⟨rfl, rfl⟩
          rw [HL.out]
          go_wp2
          go_round
          case rel => exact ⟨k + 1, by omega, by go_num, HE⟩
          case measure => simp [intOf]; omega
        · have y59 : ((X : Int) != 59) = true := by rw [bne_iff_ne]; omega
          have HE : Hid (R = 8) := by
            show _ = _
            have : (C.all fun x => clB x.toNat) = false := by rw [HD.out]; simp [clB, hl, h59]
            rw [HRF.out, if_pos this]
          clear hl HD h59
          go_wp2_with fail
          refine (ref_literal X _).mono ?_
          rintro e w1 ⟨rfl, rfl⟩
          rw [HL.out]
          go_wp2
          go_ret
          exact ⟨ret_int (by simp [HE.out]), rfl⟩
    · have hkl : ¬ (k : Int) < (C.length : Int) := by omega
      have HA1 : Hid ((C.all fun x => clB x.toNat) = true) := by show _ = _; rw [HI.out, List.drop_of_length_le (by omega)]; rfl
      have HR2 : Hid (R = if lastB C = false then 8 else if (A.all fun x => litB x.toNat) = false then 9 else 0) := by show _ = _; rw [HRF.out, HA1.out]; rfl
      clear HI HRF HA1
      by_cases h0 : C.length = 0
      · have z0 : ¬ (0 : Int) < (C.length : Int) := by omega
        have z0d : decide (0 < C.length) = false := by rw [h0]; rfl
        have HR3 : Hid (R = if (A.all fun x => litB x.toNat) = false then 9 else 0) := by
          show _ = _
          have : lastB C = true := by unfold lastB; rw [List.eq_nil_of_length_eq_zero h0]; rfl
          rw [HR2.out, this]; rfl
        clear HR2
        go_wp2
        clear h0 z0 z0d hkl
        go_loop [7] (fun i => ∃ k : Nat, k ≤ A.length ∧ i = .int .i64 k ∧ Hid ((A.all fun x => litB x.toNat) = (A.drop k).all fun x => litB x.toNat)) (fun i => A.length - (intOf i).toNat)
        case atStart => exact ⟨0, by omega, rfl, by show _ = _; simp⟩
        case round =>
          obtain ⟨j, hj, rfl, HI⟩ := hrel
          by_cases hlt : j < A.length
          · have hi : (j : Int) < ((bs A).size : Int) := by rw [hsA]; omega
            obtain ⟨X, hX⟩ : ∃ X, X = A[j].toNat := ⟨_, rfl⟩
            have q0 : ∀ h, ((bs A)[j]'h).toNat = X := fun h => by rw [bs_at, hX]
            have HD : Hid ((A.all fun x => litB x.toNat) = (litB X && (A.drop (j + 1)).all fun x => litB x.toNat)) := by show _ = _; rw [HI.out, List.drop_eq_getElem_cons hlt, hX]; rfl
            clear HI hX
            cases hl : litB X with
            | true =>
              have HE : Hid ((A.all fun x => litB x.toNat) = (A.drop (j + 1)).all fun x => litB x.toNat) := by show _ = _; rw [HD.out, hl]; rfl
              have HL : Hid (litB X = true) := hl
              clear hl HD
              go_wp2_with fail
              refine (ref_literal X _).mono ?_
              rintro e w1 ⟨rfl, rfl⟩
              rw [HL.out]
              go_wp2
              go_round
              case rel => exact ⟨j + 1, by omega, by go_num, HE⟩
              case measure => simp [intOf]; omega
            | false =>
              have HE : Hid (R = 9) := by
                show _ = _
                have : (A.all fun x => litB x.toNat) = false := by rw [HD.out, hl]; rfl
                rw [HR3.out, if_pos this]
              have HL : Hid (litB X = false) := hl
              clear hl HD
              go_wp2_with fail
              refine (ref_literal X _).mono ?_
              rintro e w1 ⟨rfl, rfl⟩
              rw [HL.out]
              go_wp2
              go_ret
              exact ⟨ret_int (by simp [HE.out]), rfl⟩
          · have hjl : ¬ (j : Int) < (A.length : Int) := by omega
            have HE : Hid (R = 0) := by
              show _ = _
              have : (A.all fun x => litB x.toNat) = true := by rw [HI.out, List.drop_of_length_le (by omega)]; rfl
              rw [HR3.out, this]; rfl
            go_wp2
            go_ret
            exact ⟨ret_int (by simp [HE.out]), rfl⟩
      · have z0 : (0 : Int) < (C.length : Int) := by omega
        obtain ⟨L1, hL1⟩ : ∃ L1, L1 = C.length - 1 := ⟨_, rfl⟩
        have hm : (C.length : Int) - 1 = (L1 : Int) := by omega
        have hi : (L1 : Int) < ((bs C).size : Int) := by rw [hsC]; omega
        obtain ⟨Y, hY⟩ : ∃ Y, Y = (C[L1]'(by omega)).toNat := ⟨_, rfl⟩
        have q0 : ∀ h, ((bs C)[L1]'h).toNat = Y := fun h => by rw [bs_at, hY]
        have HLB : Hid (lastB C = (Y == 59)) := by
          show _ = _
          unfold lastB
          have h1 : C.isEmpty = false := by cases C with
            | nil => simp at h0
            | cons _ _ => rfl
          rw [h1, ← hL1, List.getD_eq_getElem?_getD, List.getElem?_eq_getElem (by omega), hY]
          rfl
        clear hY hL1
        by_cases h59 : Y = 59
        · have y59 : ((Y : Int) != 59) = false := by rw [bne_eq_false_iff_eq]; omega
          have HR3 : Hid (R = if (A.all fun x => litB x.toNat) = false then 9 else 0) := by
            show _ = _
            rw [HR2.out, HLB.out, h59]; rfl
          clear HR2 HLB h59
          go_wp2
          clear h0 z0 hkl hm hi q0 y59
          go_loop [7] (fun i => ∃ k : Nat, k ≤ A.length ∧ i = .int .i64 k ∧ Hid ((A.all fun x => litB x.toNat) = (A.drop k).all fun x => litB x.toNat)) (fun i => A.length - (intOf i).toNat)
          case atStart => exact ⟨0, by omega, rfl, by show _ = _; simp⟩
          case round =>
            obtain ⟨j, hj, rfl, HI⟩ := hrel
            by_cases hlt : j < A.length
            · have hi : (j : Int) < ((bs A).size : Int) := by rw [hsA]; omega
              obtain ⟨X, hX⟩ : ∃ X, X = A[j].toNat := ⟨_, rfl⟩
              have q0 : ∀ h, ((bs A)[j]'h).toNat = X := fun h => by rw [bs_at, hX]
              have HD : Hid ((A.all fun x => litB x.toNat) = (litB X && (A.drop (j + 1)).all fun x => litB x.toNat)) := by show _ = _; rw [HI.out, List.drop_eq_getElem_cons hlt, hX]; rfl
              clear HI hX
              cases hl : litB X with
              | true =>
                have HE : Hid ((A.all fun x => litB x.toNat) = (A.drop (j + 1)).all fun x => litB x.toNat) := by show _ = _; rw [HD.out, hl]; rfl
                have HL : Hid (litB X = true) := hl
                clear hl HD
                go_wp2_with fail
                refine (ref_literal X _).mono ?_
                rintro e w1 ⟨rfl, rfl⟩
                rw [HL.out]
                go_wp2
                go_round
                case rel => exact ⟨j + 1, by omega, by go_num, HE⟩
                case measure => simp [intOf]; omega
              | false =>
                have HE : Hid (R = 9) := by
                  show _ = _
                  have : (A.all fun x => litB x.toNat) = false := by rw [HD.out, hl]; rfl
                  rw [HR3.out, if_pos this]
                have HL : Hid (litB X = false) := hl
                clear hl HD
                go_wp2_with fail
                refine (ref_literal X _).mono ?_
                rintro e w1 ⟨rfl, rfl⟩
                rw [HL.out]
                go_wp2
                go_ret
                exact ⟨ret_int (by simp [HE.out]), rfl⟩
            · have hjl : ¬ (j : Int) < (A.length : Int) := by omega
              have HE : Hid (R = 0) := by
                show _ = _
                have : (A.all fun x => litB x.toNat) = true := by rw [HI.out, List.drop_of_length_le (by omega)]; rfl
                rw [HR3.out, this]; rfl
              go_wp2
              go_ret
              exact ⟨ret_int (by simp [HE.out]), rfl⟩
        · have y59 : ((Y : Int) != 59) = true := by rw [bne_iff_ne]; omega
          have HE : Hid (R = 8) := by
            show _ = _
            have : lastB C = false := by rw [HLB.out, beq_eq_false_iff_ne]; exact h59
            rw [HR2.out, if_pos this]
          clear HR2 HLB h59
          go_wp2
          go_ret
          exact ⟨ret_int (by simp [HE.out]), rfl⟩

end Go.Proofs.YtenbnmbbfeekpabGreatDoor

namespace Go.Proofs.YtenbnmbbfeekpabGreatDoor
open Go.RowKit

set_option maxHeartbeats 3200000 in
set_option maxRecDepth 100000 in
theorem ref_Met (C A : List UInt8) (b : Int) (w : World) (hC8 : C.length ≤ 4000) (hA8 : A.length ≤ 4000) (hC : ∀ x ∈ C, clB x.toNat = true) (hA : ∀ x ∈ A, litB x.toNat = true) : Calls Tryz.prog 69 #[.string (bs C), .string (bs A), .int .i64 b] w fun e w' => e = .returned (.bool (mtB (bitF b) C A)) ∧ w' = w := by
  have hsC : (bs C).size = C.length := bs_size C
  have hsA : (bs A).size = A.length := bs_size A
  have HC : Hid (∀ x ∈ C, clB x.toNat = true) := hC
  have HA : Hid (∀ x ∈ A, litB x.toNat = true) := hA
  clear hC hA
  generalize hRB : mtB (bitF b) C A = R at *
  have HR0 : Hid (R = (mtC (bitF b) false C && A.all fun x => trB (bitF b) x.toNat)) := hRB.symm
  have HRE : Hid (mtB (bitF b) C A = R) := hRB
  clear hRB
  go_enter Tryz.func69, Tryz.ntmps69
  go_wp2
  go_loop [7, 8] (fun s i => ∃ (k : Nat) (sm : Bool), k ≤ C.length ∧ i = .int .i64 k ∧ s = .bool sm ∧ Hid (mtC (bitF b) false C = mtC (bitF b) sm (C.drop k))) (fun _ i => C.length - (intOf i).toNat)
  case atStart => exact ⟨0, false, by omega, rfl, rfl, by show _ = _; simp⟩
  case round =>
    obtain ⟨k, sm, hk, rfl, rfl, HI⟩ := hrel
    by_cases hlt : k < C.length
    · have hi : (k : Int) < ((bs C).size : Int) := by rw [hsC]; omega
      obtain ⟨X, hX⟩ : ∃ X, X = C[k].toNat := ⟨_, rfl⟩
      have q0 : ∀ h, ((bs C)[k]'h).toNat = X := fun h => by rw [bs_at, hX]
      have HX : Hid (clB X = true) := by show _ = _; rw [hX]; exact HC.out _ (List.getElem_mem _)
      have HD : Hid (mtC (bitF b) false C = if X = 59 then sm && mtC (bitF b) false (C.drop (k + 1)) else mtC (bitF b) (sm || trB (bitF b) X) (C.drop (k + 1))) := by
        show _ = _; rw [HI.out, List.drop_eq_getElem_cons hlt, mtC, hX]
      clear HI hX
      by_cases h59 : X = 59
      · have y59 : ((X : Int) == 59) = true := by rw [beq_iff_eq]; omega
        have HD2 : Hid (mtC (bitF b) false C = (sm && mtC (bitF b) false (C.drop (k + 1)))) := by show _ = _; rw [HD.out, if_pos h59]
        clear HD h59
        cases sm with
        | false =>
          have HE : Hid (R = false) := by show _ = _; rw [HR0.out, HD2.out]; rfl
          clear HD2
          go_wp2
          go_ret
          exact ⟨ret_bool HE.out.symm, rfl⟩
        | true =>
          have HE : Hid (mtC (bitF b) false C = mtC (bitF b) false (C.drop (k + 1))) := by show _ = _; rw [HD2.out]; rfl
          clear HD2
          go_wp2
          go_round
          case rel => exact ⟨k + 1, false, by omega, by go_num, rfl, HE⟩
          case measure => simp [intOf]; omega
      · have y59 : ((X : Int) == 59) = false := by rw [beq_eq_false_iff_ne]; omega
        have HL : Hid (litB X = true) := by show _ = _; have := HX.out; unfold clB at this; simpa [h59] using this
        have HD2 : Hid (mtC (bitF b) false C = mtC (bitF b) (sm || trB (bitF b) X) (C.drop (k + 1))) := by show _ = _; rw [HD.out, if_neg h59]
        clear HD h59
        cases sm with
        | false =>
          go_wp2_with fail
          refine (ref_true1 b X _ HL.out).mono ?_
          rintro e w1 ⟨rfl, rfl⟩
          go_wp2
          go_round
          case rel => exact ⟨k + 1, _, by omega, by go_num, rfl, HD2⟩
          case measure => simp [intOf]; omega
        | true =>
          go_wp2_with fail
          refine (ref_true1 b X _ HL.out).mono ?_
          rintro e w1 ⟨rfl, rfl⟩
          go_wp2
          go_round
          case rel => exact ⟨k + 1, true, by omega, by go_num, rfl, HD2⟩
          case measure => simp [intOf]; omega
    · have hkl : ¬ (k : Int) < (C.length : Int) := by omega
      have HR1 : Hid (R = A.all fun x => trB (bitF b) x.toNat) := by
        show _ = _
        have : mtC (bitF b) false C = true := by rw [HI.out, List.drop_of_length_le (by omega)]; rfl
        rw [HR0.out, this]; rfl
      clear HI HR0
      go_wp2
      clear hkl
      go_loop [10] (fun i => ∃ k : Nat, k ≤ A.length ∧ i = .int .i64 k ∧ Hid (R = (A.drop k).all fun x => trB (bitF b) x.toNat)) (fun i => A.length - (intOf i).toNat)
      case atStart => exact ⟨0, by omega, rfl, HR1⟩
      case round =>
        obtain ⟨j, hj, rfl, HI⟩ := hrel
        by_cases hlt : j < A.length
        · have hi : (j : Int) < ((bs A).size : Int) := by rw [hsA]; omega
          obtain ⟨X, hX⟩ : ∃ X, X = A[j].toNat := ⟨_, rfl⟩
          have q0 : ∀ h, ((bs A)[j]'h).toNat = X := fun h => by rw [bs_at, hX]
          have HL : Hid (litB X = true) := by show _ = _; rw [hX]; exact HA.out _ (List.getElem_mem _)
          have HD : Hid (R = (trB (bitF b) X && (A.drop (j + 1)).all fun x => trB (bitF b) x.toNat)) := by show _ = _; rw [HI.out, List.drop_eq_getElem_cons hlt, hX]; rfl
          clear HI hX
          cases ht : trB (bitF b) X with
          | true =>
            have HE : Hid (R = (A.drop (j + 1)).all fun x => trB (bitF b) x.toNat) := by show _ = _; rw [HD.out, ht]; rfl
            have HT : Hid (trB (bitF b) X = true) := ht
            clear ht HD
            go_wp2_with fail
            refine (ref_true1 b X _ HL.out).mono ?_
            rintro e w1 ⟨rfl, rfl⟩
            rw [HT.out]
            go_wp2
            go_round
            case rel => exact ⟨j + 1, by omega, by go_num, HE⟩
            case measure => simp [intOf]; omega
          | false =>
            have HE : Hid (R = false) := by show _ = _; rw [HD.out, ht]; rfl
            have HT : Hid (trB (bitF b) X = false) := ht
            clear ht HD
            go_wp2_with fail
            refine (ref_true1 b X _ HL.out).mono ?_
            rintro e w1 ⟨rfl, rfl⟩
            rw [HT.out]
            go_wp2
            go_ret
            exact ⟨ret_bool HE.out.symm, rfl⟩
        · have hjl : ¬ (j : Int) < (A.length : Int) := by omega
          have HE : Hid (R = true) := by show _ = _; rw [HI.out, List.drop_of_length_le (by omega)]; rfl
          go_wp2
          go_ret
          exact ⟨ret_bool HE.out.symm, rfl⟩

set_option maxHeartbeats 3200000 in
set_option maxRecDepth 100000 in
theorem ref_Some (A S : List UInt8) (w : World) (hA8 : A.length ≤ 4000) (hS8 : S.length ≤ 4000) : Calls Tryz.prog 68 #[.string (bs A), .string (bs S)] w fun e w' => e = .returned (.bool (smB A S)) ∧ ∃ m, w' = w.drewN m := by
  have hsS : (bs S).size = S.length := bs_size S
  generalize hRB : smB A S = R at *
  have HRE : Hid (smB A S = R) := hRB
  clear hRB
  go_enter Tryz.func68, Tryz.ntmps68
  go_wp2
  go_loopw [5] (fun i wr => ∃ k m : Nat, k ≤ S.length ∧ i = .int .i64 k ∧ wr = w.drewN m ∧ Hid (R = if k = 0 then smB A S else smF A (S.getD (k - 1) 0).toNat (S.drop k))) (fun i _ => S.length - (intOf i).toNat)
  case atStart => exact ⟨0, 0, by omega, rfl, rfl, by show _ = _; rw [if_pos rfl]; exact HRE.out.symm⟩
  case round =>
    obtain ⟨k, m, hk, rfl, rfl, HI⟩ := hrel
    by_cases hlt : k < S.length
    · have hi : (k : Int) < ((bs S).size : Int) := by rw [hsS]; omega
      obtain ⟨X, hX⟩ : ∃ X, X = S[k].toNat := ⟨_, rfl⟩
      have q0 : ∀ h, ((bs S)[k]'h).toNat = X := fun h => by rw [bs_at, hX]
      have HG : Hid ((S.getD (k + 1 - 1) 0).toNat = X) := by show _ = _; rw [Nat.add_sub_cancel, List.getD_eq_getElem?_getD, List.getElem?_eq_getElem hlt, hX]; rfl
      have HS : Hid (S.drop k = S[k] :: S.drop (k + 1)) := List.drop_eq_getElem_cons hlt
      have HX : Hid (S[k].toNat = X) := hX.symm
      clear hX
      cases hh : hasB A X with
      | false =>
        have HE : Hid (R = false) := by
          show _ = _
          rw [HI.out]
          by_cases h0 : k = 0
          · subst h0
            have e : S = S[0] :: S.drop 1 := by have := HS.out; rwa [List.drop_zero] at this
            rw [if_pos rfl, e, smB, HX.out, hh]; rfl
          · rw [if_neg h0, HS.out, smF, HX.out, hh]; rfl
        have HH : Hid (hasB A X = false) := hh
        clear hh HI
        go_wp2_with fail
        refine (ref_has A X _ hA8).mono ?_
        rintro e w1 ⟨rfl, rfl⟩
        rw [HH.out]
        go_wp2_with fail
        go_quiet (fail)
        go_wp2
        go_ret
        exact ⟨ret_bool HE.out.symm, _, by first | rfl | rw [World.drewN_drewN]⟩
      | true =>
        have HH : Hid (hasB A X = true) := hh
        by_cases h0 : k = 0
        · subst h0
          have HE : Hid (R = smF A X (S.drop 1)) := by
            show _ = _
            have e : S = S[0] :: S.drop 1 := by have := HS.out; rwa [List.drop_zero] at this
            rw [HI.out, if_pos rfl]
            conv => lhs; rw [e]
            rw [smB, HX.out, hh]; rfl
          clear hh HI
          go_wp2_with fail
          refine (ref_has A X _ hA8).mono ?_
          rintro e w1 ⟨rfl, rfl⟩
          rw [HH.out]
          go_wp2_with fail
          go_quiet (fail)
          go_wp2
          go_roundw
          case rel => exact ⟨1, _, by omega, by go_num, by first | rfl | rw [World.drewN_drewN], by show _ = _; rw [if_neg (by omega), HG.out]; exact HE.out⟩
          case measure => simp [intOf]; omega
        · obtain ⟨K1, hK1⟩ : ∃ K1, K1 = k - 1 := ⟨_, rfl⟩
          have hm : (k : Int) - 1 = (K1 : Int) := by omega
          have hkp : 0 < k := by omega
          have hkd : decide (0 < k) = true := by simpa using hkp
          have hi1 : (K1 : Int) < ((bs S).size : Int) := by rw [hsS]; omega
          have hwr : IntKind.i64.wrap (K1 : Int) = (K1 : Int) := by rw [IntKind.wrap_i64]; omega
          obtain ⟨Y, hY⟩ : ∃ Y, Y = (S[K1]'(by omega)).toNat := ⟨_, rfl⟩
          have q1 : ∀ h, ((bs S)[K1]'h).toNat = Y := fun h => by rw [bs_at, hY]
          have HD : Hid (R = (decide (Y < X) && smF A X (S.drop (k + 1)))) := by
            show _ = _
            have e : (S.getD (k - 1) 0).toNat = Y := by rw [← hK1, List.getD_eq_getElem?_getD, List.getElem?_eq_getElem (by omega), hY]; rfl
            rw [HI.out, if_neg h0, HS.out, smF, HX.out, hh, e]; rfl
          clear hh HI hY hK1
          by_cases hxy : Y < X
          · have hxi : ¬ (X : Int) ≤ (Y : Int) := by omega
            have hxd : decide (X ≤ Y) = false := by simpa using hxy
            have HE : Hid (R = smF A X (S.drop (k + 1))) := by show _ = _; rw [HD.out]; simp [hxy]
            clear HD
            go_wp2_with fail
            refine (ref_has A X _ hA8).mono ?_
            rintro e w1 ⟨rfl, rfl⟩
            rw [HH.out]
            go_wp2_with fail
            go_quiet (fail)
            go_wp2
            go_roundw
            case rel => exact ⟨k + 1, _, by omega, by go_num, by first | rfl | rw [World.drewN_drewN], by show _ = _; rw [if_neg (by omega), HG.out]; exact HE.out⟩
            case measure => simp [intOf]; omega
          · have hxi : (X : Int) ≤ (Y : Int) := by omega
            have HE : Hid (R = false) := by show _ = _; rw [HD.out]; simp [hxy]
            clear HD
            go_wp2_with fail
            refine (ref_has A X _ hA8).mono ?_
            rintro e w1 ⟨rfl, rfl⟩
            rw [HH.out]
            go_wp2_with fail
            go_quiet (fail)
            go_wp2
            go_ret
            exact ⟨ret_bool HE.out.symm, _, by first | rfl | rw [World.drewN_drewN]⟩
    · have hkl : ¬ (k : Int) < (S.length : Int) := by omega
      have HE : Hid (R = true) := by
        show _ = _
        rw [HI.out]
        by_cases h0 : k = 0
        · rw [if_pos h0]
          have : S = [] := List.eq_nil_of_length_eq_zero (by omega)
          rw [this]; rfl
        · rw [if_neg h0, List.drop_of_length_le (by omega)]; rfl
      go_wp2
      go_ret
      exact ⟨ret_bool HE.out.symm, m, rfl⟩

end Go.Proofs.YtenbnmbbfeekpabGreatDoor

namespace Go.Proofs.YtenbnmbbfeekpabGreatDoor
open Go.RowKit

set_option maxHeartbeats 6400000 in
set_option maxRecDepth 100000 in
theorem ref_Model (C A S : List UInt8) (w : World) (hC8 : C.length ≤ 4000) (hA8 : A.length ≤ 4000) (hS8 : S.length ≤ 4000) (hC : ∀ x ∈ C, clB x.toNat = true) (hA : ∀ x ∈ A, litB x.toNat = true) : Calls Tryz.prog 67 #[.string (bs C), .string (bs A), .string (bs S)] w fun e w' => e = .returned (.bool (mdB C A S)) ∧ w' = w := by
  have hsS : (bs S).size = S.length := bs_size S
  have HC : Hid (∀ x ∈ C, clB x.toNat = true) := hC
  have HA : Hid (∀ x ∈ A, litB x.toNat = true) := hA
  clear hC hA
  generalize hRB : mdB C A S = R at *
  have HR0 : Hid (R = match mdF C A S 26 0 0 0 with | none => false | some (b, n) => mtB (bitF (b : Int)) C A && n == S.length) := hRB.symm
  clear hRB
  go_enter Tryz.func67, Tryz.ntmps67
  go_wp2
  go_loop [7, 8, 9] (fun bt n i => ∃ (v m b : Nat), v ≤ 26 ∧ m ≤ S.length ∧ m ≤ v ∧ b < 2 ^ v ∧ i = .int .i64 v ∧ n = .int .i64 m ∧ bt = .int .i64 b ∧ Hid (mdF C A S 26 0 0 0 = mdF C A S (26 - v) v m b)) (fun _ _ i => 26 - (intOf i).toNat)
  case atStart => exact ⟨0, 0, 0, by omega, by omega, by omega, by decide, rfl, rfl, rfl, rfl⟩
  case round =>
    obtain ⟨v, m, b, hv, hm, hmv, hb, rfl, rfl, rfl, HI⟩ := hrel
    have hb63 : b < 9223372036854775808 := Nat.lt_of_lt_of_le hb (Nat.le_trans (Nat.pow_le_pow_right (by omega) hv) (by decide))
    by_cases hlt : v < 26
    · have HD : Hid (mdF C A S 26 0 0 0 = if occB C A v then (match S[m]? with | none => none | some x => if x.toNat = 97 + v then mdF C A S (26 - (v + 1)) (v + 1) (m + 1) (b ||| 2 ^ v) else if x.toNat = 65 + v then mdF C A S (26 - (v + 1)) (v + 1) (m + 1) b else none) else mdF C A S (26 - (v + 1)) (v + 1) m b) := by
        show _ = _; rw [HI.out, show 26 - v = (26 - (v + 1)) + 1 by omega, mdF]; rfl
      have HB : Hid (b < 2 ^ v) := hb
      clear HI hb
      obtain ⟨Lo, hLo⟩ : ∃ L, L = 97 + v := ⟨_, rfl⟩
      obtain ⟨Hi, hHi⟩ : ∃ L, L = 65 + v := ⟨_, rfl⟩
      have cLo : (97 : Int) + (v : Int) = (Lo : Int) := by omega
      have cHi : (65 : Int) + (v : Int) = (Hi : Int) := by omega
      have hl1 : 97 ≤ Lo ∧ Lo ≤ 122 := by omega
      have hh1 : 65 ≤ Hi ∧ Hi ≤ 90 := by omega
      obtain ⟨x1, HX1⟩ : ∃ x, Hid (hasB C Lo = x) := ⟨_, rfl⟩
      obtain ⟨x2, HX2⟩ : ∃ x, Hid (hasB C Hi = x) := ⟨_, rfl⟩
      obtain ⟨x3, HX3⟩ : ∃ x, Hid (hasB A Lo = x) := ⟨_, rfl⟩
      obtain ⟨x4, HX4⟩ : ∃ x, Hid (hasB A Hi = x) := ⟨_, rfl⟩
      have HO : Hid (occB C A v = (x1 || x2 || x3 || x4)) := by show _ = _; unfold occB; rw [← hLo, ← hHi, HX1.out, HX2.out, HX3.out, HX4.out]
      have HLo : Hid (Lo = 97 + v) := hLo
      have HHi : Hid (Hi = 65 + v) := hHi
      clear hLo hHi
      go_wp2_with fail
      refine (ref_has C Lo _ hC8).mono ?_
      rintro e w' ⟨rfl, rfl⟩
      rw [HX1.out]
      go_wp2_with fail
      refine (ref_has C Hi _ hC8).mono ?_
      rintro e w' ⟨rfl, rfl⟩
      rw [HX2.out]
      go_wp2_with fail
      refine (ref_has A Lo _ hA8).mono ?_
      rintro e w' ⟨rfl, rfl⟩
      rw [HX3.out]
      go_wp2_with fail
      refine (ref_has A Hi _ hA8).mono ?_
      rintro e w' ⟨rfl, rfl⟩
      rw [HX4.out]
      cases hoc : (x1 || x2 || x3 || x4) with
      | false =>
        have HE : Hid (mdF C A S 26 0 0 0 = mdF C A S (26 - (v + 1)) (v + 1) m b) := by show _ = _; rw [HD.out, HO.out, hoc]; rfl
        simp only [Bool.or_eq_false_iff] at hoc
        obtain ⟨⟨⟨rfl, rfl⟩, rfl⟩, rfl⟩ := hoc
        clear HD HO HX1 HX2 HX3 HX4
        go_wp2
        go_round
        case rel => exact ⟨v + 1, m, b, by omega, by omega, by omega, Nat.lt_of_lt_of_le HB.out (Nat.pow_le_pow_right (by omega) (by omega)), by go_num, rfl, rfl, HE⟩
        case measure => simp [intOf]; omega
      | true =>
        have HD2 : Hid (mdF C A S 26 0 0 0 = match S[m]? with | none => none | some x => if x.toNat = Lo then mdF C A S (26 - (v + 1)) (v + 1) (m + 1) (b ||| 2 ^ v) else if x.toNat = Hi then mdF C A S (26 - (v + 1)) (v + 1) (m + 1) b else none) := by show _ = _; rw [HD.out, HO.out, hoc, HLo.out, HHi.out]; rfl
        have HG : Hid ((x1 || x2 || x3 || x4) = true) := hoc
        clear HD HO HX1 HX2 HX3 HX4 hoc
        by_cases hmS : m < S.length
        · have hi : (m : Int) < ((bs S).size : Int) := by rw [hsS]; omega
          have hge : ¬ (S.length : Int) ≤ (m : Int) := by omega
          have hgd : decide (S.length ≤ m) = false := by simp; omega
          obtain ⟨X, hX⟩ : ∃ X, X = S[m].toNat := ⟨_, rfl⟩
          have q0 : ∀ h, ((bs S)[m]'h).toNat = X := fun h => by rw [bs_at, hX]
          have HD3 : Hid (mdF C A S 26 0 0 0 = if X = Lo then mdF C A S (26 - (v + 1)) (v + 1) (m + 1) (b ||| 2 ^ v) else if X = Hi then mdF C A S (26 - (v + 1)) (v + 1) (m + 1) b else none) := by show _ = _; rw [HD2.out, List.getElem?_eq_getElem hmS, hX]
          clear HD2 hX
          by_cases hLo : X = Lo
          · have n1 : ((X : Int) != Lo) = false := by rw [bne_eq_false_iff_eq]; omega
            have n2 : ((X : Int) == Lo) = true := by rw [beq_iff_eq]; omega
            have HE : Hid (mdF C A S 26 0 0 0 = mdF C A S (26 - (v + 1)) (v + 1) (m + 1) (b ||| 2 ^ v)) := by show _ = _; rw [HD3.out, if_pos hLo]
            clear HD3 hLo
            have hp63 : 2 ^ v < 9223372036854775808 := Nat.lt_of_le_of_lt (Nat.pow_le_pow_right (by omega) (Nat.le_of_lt hlt)) (by decide)
            have hor := or_i64_nat b (2 ^ v) hb63 hp63
            have HOB : Hid (b ||| 2 ^ v < 2 ^ (v + 1)) := Nat.or_lt_two_pow (Nat.lt_of_lt_of_le HB.out (Nat.pow_le_pow_right (by omega) (by omega))) (Nat.pow_lt_pow_right (by omega) (by omega))
            have hsh : bits BinOp.or IntKind.i64 (b : Int) (wrap64 (2 ^ v)) = ((b ||| 2 ^ v : Nat) : Int) := by
              rw [← hor, pow_cast, wrap64_fit (Int.natCast_nonneg _) (Int.ofNat_lt.2 hp63)]
            cases x1 <;> cases x2 <;> cases x3 <;> cases x4 <;> first
              | (exfalso; exact Bool.false_ne_true HG.out)
              | (go_wp2
                 go_round
                 case rel => exact ⟨v + 1, m + 1, b ||| 2 ^ v, by omega, by omega, by omega, HOB.out, by go_num, by go_num, rfl, HE⟩
                 case measure => simp [intOf]; omega)
          · have n1 : ((X : Int) != Lo) = true := by rw [bne_iff_ne]; omega
            have n2 : ((X : Int) == Lo) = false := by rw [beq_eq_false_iff_ne]; omega
            by_cases hHi : X = Hi
            · have n3 : ((X : Int) != Hi) = false := by rw [bne_eq_false_iff_eq]; omega
              have HE : Hid (mdF C A S 26 0 0 0 = mdF C A S (26 - (v + 1)) (v + 1) (m + 1) b) := by show _ = _; rw [HD3.out, if_neg hLo, if_pos hHi]
              clear HD3 hLo hHi
              cases x1 <;> cases x2 <;> cases x3 <;> cases x4 <;> first
                | (exfalso; exact Bool.false_ne_true HG.out)
                | (go_wp2
                   go_round
                   case rel => exact ⟨v + 1, m + 1, b, by omega, by omega, by omega, Nat.lt_of_lt_of_le HB.out (Nat.pow_le_pow_right (by omega) (by omega)), by go_num, by go_num, rfl, HE⟩
                   case measure => simp [intOf]; omega)
            · have n3 : ((X : Int) != Hi) = true := by rw [bne_iff_ne]; omega
              have HE : Hid (R = false) := by show _ = _; rw [HR0.out, HD3.out, if_neg hLo, if_neg hHi]
              clear HD3 hLo hHi
              cases x1 <;> cases x2 <;> cases x3 <;> cases x4 <;> first
                | (exfalso; exact Bool.false_ne_true HG.out)
                | (go_wp2
                   go_ret
                   exact ⟨ret_bool HE.out.symm, rfl⟩)
        · have hge : (S.length : Int) ≤ (m : Int) := by omega
          have HE : Hid (R = false) := by show _ = _; rw [HR0.out, HD2.out, List.getElem?_eq_none (by omega)]
          clear HD2
          cases x1 <;> cases x2 <;> cases x3 <;> cases x4 <;> first
            | (exfalso; exact Bool.false_ne_true HG.out)
            | (go_wp2
               go_ret
               exact ⟨ret_bool HE.out.symm, rfl⟩)
    · have hv26 : v = 26 := by omega
      subst hv26
      have HE : Hid (R = (mtB (bitF (b : Int)) C A && m == S.length)) := by show _ = _; rw [HR0.out, HI.out]; rfl
      clear HI HR0 hb
      cases ht : mtB (bitF (b : Int)) C A with
      | false =>
        have HT : Hid (mtB (bitF (b : Int)) C A = false) := ht
        have HF : Hid (R = false) := by show _ = _; rw [HE.out, ht]; rfl
        clear ht HE
        go_wp2_with fail
        refine (ref_Met C A b _ hC8 hA8 HC.out HA.out).mono ?_
        rintro e w' ⟨rfl, rfl⟩
        rw [HT.out]
        go_wp2
        go_ret
        exact ⟨ret_bool HF.out.symm, rfl⟩
      | true =>
        have HT : Hid (mtB (bitF (b : Int)) C A = true) := ht
        have HF : Hid (R = ((m : Int) == (S.length : Int))) := by show _ = _; rw [HE.out, ht, Bool.true_and, Bool.eq_iff_iff, beq_iff_eq, beq_iff_eq]; omega
        clear ht HE
        go_wp2_with fail
        refine (ref_Met C A b _ hC8 hA8 HC.out HA.out).mono ?_
        rintro e w' ⟨rfl, rfl⟩
        rw [HT.out]
        go_wp2
        go_ret
        exact ⟨ret_bool HF.out.symm, rfl⟩

end Go.Proofs.YtenbnmbbfeekpabGreatDoor

namespace Go.Proofs.YtenbnmbbfeekpabGreatDoor
open Go.RowKit

set_option maxHeartbeats 3200000 in
set_option maxRecDepth 100000 in
theorem ref_Solved (C A S : List UInt8) (sat : Bool) (e : Nat) (b : Int) (w : World) (hCm : C.length ≤ maxLen) (hAm : A.length ≤ maxLen) (hS8 : S.length ≤ 4000) (he : e ≤ 100) (hSl : ∀ x ∈ S, litB x.toNat = true) : Calls Tryz.prog 35 #[.string (bs C), .string (bs A), .string (bs S), .bool sat, .int .i64 e, .int .i64 b] w fun r w' => r = .returned (.bool (slB C A S sat e b)) ∧ ∃ m, w' = w.drewN m := by
  have HCm : Hid (C.length ≤ maxLen) := hCm
  have HAm : Hid (A.length ≤ maxLen) := hAm
  have HSl : Hid (∀ x ∈ S, litB x.toNat = true) := hSl
  have hse : (((bs S).toList == []) : Bool) = S.isEmpty := by rw [tl]; cases S <;> rfl
  clear hCm hAm hSl
  by_cases h0 : rfE C A = 0
  · have HR := rf_ok h0
    obtain ⟨hC8, hA8, hC, _, hA⟩ := HR
    have HC : Hid (∀ x ∈ C, clB x.toNat = true) := hC
    have HA : Hid (∀ x ∈ A, litB x.toNat = true) := hA
    have H0 : Hid (rfE C A = 0) := h0
    by_cases he0 : e = 0
    · subst he0
      cases sat with
      | true =>
        have HF : Hid (slB C A S true 0 b = mdB C A S) := by show _ = _; unfold slB; rw [if_pos ⟨h0, rfl⟩]; rfl
        clear h0 hC hA
        go_enter Tryz.func35, Tryz.ntmps35
        go_wp2_with fail
        refine (ref_Refusal C A _ HCm.out HAm.out).mono ?_
        rintro r w' ⟨rfl, rfl⟩
        rw [H0.out]
        go_wp2_with fail
        refine (ref_Model C A S _ (by omega) (by omega) hS8 HC.out HA.out).mono ?_
        rintro r w' ⟨rfl, rfl⟩
        go_wp2
        go_ret
        exact ⟨ret_bool HF.out.symm, 0, rfl⟩
      | false =>
        obtain ⟨x, HX⟩ : ∃ x, Hid (smB A S = x) := ⟨_, rfl⟩
        obtain ⟨y, HY⟩ : ∃ y, Hid (mtB (bitF b) C S = y) := ⟨_, rfl⟩
        have HF : Hid (slB C A S false 0 b = (x && !y)) := by show _ = _; unfold slB; rw [if_pos ⟨h0, rfl⟩, HX.out, HY.out]; rfl
        clear h0 hC hA
        go_enter Tryz.func35, Tryz.ntmps35
        go_wp2_with fail
        refine (ref_Refusal C A _ HCm.out HAm.out).mono ?_
        rintro r w' ⟨rfl, rfl⟩
        rw [H0.out]
        go_wp2_with fail
        refine (ref_Some A S _ (by omega) hS8).mono ?_
        rintro r w1 ⟨rfl, m, rfl⟩
        rw [HX.out]
        go_wp2_with fail
        refine (ref_Met C S b _ (by omega) hS8 HC.out HSl.out).mono ?_
        rintro r w2 ⟨rfl, rfl⟩
        rw [HY.out]
        cases x <;> (go_wp2; go_ret; exact ⟨ret_bool HF.out.symm, m, rfl⟩)
    · have n0 : ((e : Int) != 0) = true := by rw [bne_iff_ne]; omega
      have n1 : ((e : Int) == 0) = false := by rw [beq_eq_false_iff_ne]; omega
      have HF : Hid (slB C A S sat e b = false) := by
        show _ = _; unfold slB; rw [if_neg (fun h => he0 h.2), h0]
        have : (e == 0) = false := by rw [beq_eq_false_iff_ne]; exact he0
        rw [this]; rfl
      clear h0 hC hA he0
      go_enter Tryz.func35, Tryz.ntmps35
      go_wp2_with fail
      refine (ref_Refusal C A _ HCm.out HAm.out).mono ?_
      rintro r w' ⟨rfl, rfl⟩
      rw [H0.out]
      go_wp2
      go_ret
      exact ⟨ret_bool HF.out.symm, 0, rfl⟩
  · have n0 : ((rfE C A : Int) != 0) = true := by rw [bne_iff_ne]; omega
    have hle := rf_le C A
    have HF : Hid (slB C A S sat e b = (((e : Int) == (rfE C A : Int)) && S.isEmpty && !sat)) := by
      show _ = _; unfold slB; rw [if_neg (fun h => h0 h.1)]
      congr 2
      rw [Bool.eq_iff_iff, beq_iff_eq, beq_iff_eq]; omega
    clear h0
    go_enter Tryz.func35, Tryz.ntmps35
    go_wp2_with fail
    refine (ref_Refusal C A _ HCm.out HAm.out).mono ?_
    rintro r w' ⟨rfl, rfl⟩
    generalize rfE C A = F at *
    rcases hee : ((e : Int) == (F : Int)) with _ | _
    · have HG : Hid (slB C A S sat e b = false) := by show _ = _; rw [HF.out, hee]; rfl
      clear HF
      go_wp2
      go_ret
      exact ⟨ret_bool HG.out.symm, 0, rfl⟩
    · cases hS : S.isEmpty with
      | false =>
        have HG : Hid (slB C A S sat e b = false) := by show _ = _; rw [HF.out, hee, hS]; rfl
        rw [hS] at hse
        clear HF hS
        go_wp2
        go_ret
        exact ⟨ret_bool HG.out.symm, 0, rfl⟩
      | true =>
        have HG : Hid (slB C A S sat e b = !sat) := by show _ = _; rw [HF.out, hee, hS]; rfl
        rw [hS] at hse
        clear HF hS
        go_wp2
        go_ret
        exact ⟨ret_bool HG.out.symm, 0, rfl⟩

end Go.Proofs.YtenbnmbbfeekpabGreatDoor
