import Derived.Test.YtenbnmbbfeekpaaDoorXT2
import Derived.Test.YtenbnmbbfeekpaaDoorKdW
namespace Go.Proofs.YtenbnmbbfeekpaaDoor
open Go.RowKit

theorem cut_step {s : List UInt8} {I M : Nat} (h : I < s.length) (hx : s[I].toNat ≠ 44) : cutN (s.drop I) M = cutN (s.drop (I + 1)) (10 * M + s[I].toNat - 48) := by
  rw [List.drop_eq_getElem_cons h, cutN, if_neg hx]
theorem cut_stop {s : List UInt8} {I M : Nat} (h : ∀ (hi : I < s.length), s[I].toNat = 44) : cutN (s.drop I) M = (M, s.drop (I + 1)) := by
  rcases Nat.lt_or_ge I s.length with h1 | h1
  · rw [List.drop_eq_getElem_cons h1, cutN, if_pos (h h1)]
  · rw [List.drop_of_length_le h1, List.drop_of_length_le (by omega), cutN]
theorem pow_ten {I : Nat} (h : I ≤ 12) : 10 ^ (I + 1) ≤ 10000000000000 := Nat.le_trans (Nat.pow_le_pow_right (by omega) (show I + 1 ≤ 13 by omega)) (by decide)

set_option maxHeartbeats 6400000 in
set_option maxRecDepth 100000 in
theorem keep_worse (C s t : List UInt8) (w : World) (hC : C.length ≤ 8) (hev : C.length % 2 = 0) (hs : s.length ≤ 12) (ht : t.length ≤ 12) (ds : ∀ x ∈ s, dcB x.toNat = true) (dt : ∀ x ∈ t, dcB x.toNat = true) :
    Calls Tryd.prog 12 #[.string (bs C), .string (bs s), .string (bs t)] w fun e w' => e = .returned (.bool (wsF C s t)) ∧ w' = w := by
  have hsC : (bs C).size = C.length := bs_size C
  have hss : (bs s).size = s.length := bs_size s
  have hst : (bs t).size = t.length := bs_size t
  have HEV : Hid (C.length % 2 = 0) := hev
  have HDS : Hid (∀ x ∈ s, dcB x.toNat = true) := ds
  have HDT : Hid (∀ x ∈ t, dcB x.toNat = true) := dt
  clear ds dt hev
  generalize hRB : wsF C s t = R at *
  have HR0 : Hid (R = wsF C s t) := hRB.symm
  clear hRB
  go_enter Tryd.func12, Tryd.ntmps12
  go_wp2
  go_loop [7, 8, 9] (fun i k c => ∃ I K m J : Nat, Hid (J = 2 * m) ∧ J ≤ C.length ∧ I ≤ 12 + m ∧ K ≤ 12 + m ∧ m ≤ 4 ∧ i = .int .i64 I ∧ k = .int .i64 K ∧ c = .int .i64 J ∧ Hid (R = wsF (C.drop J) (s.drop I) (t.drop K))) (fun _ _ c => C.length - (intOf c).toNat)
  case atStart => exact ⟨0, 0, 0, 0, rfl, by omega, by omega, by omega, by omega, rfl, rfl, rfl, HR0⟩
  case round =>
    obtain ⟨I0, K0, m, J, HJ, hJ, hI0, hK0, hm4, rfl, rfl, rfl, HR⟩ := hrel
    by_cases hlt : J < C.length
    · have hlt1 : J + 1 < C.length := by have := HEV.out; have := HJ.out; omega
      have hj1 : (J : Int) + 1 < (C.length : Int) := by omega
      have hi0 : (J : Int) < ((bs C).size : Int) := by rw [hsC]; omega
      obtain ⟨X, hX⟩ : ∃ X, X = C[J].toNat := ⟨_, rfl⟩
      have q0 : ∀ h, ((bs C)[J]'h).toNat = X := fun h => by rw [bs_at, hX]
      have HW : Hid (R = if (cutN (s.drop I0) 0).1 = (cutN (t.drop K0) 0).1 then wsF (C.drop (J + 2)) (cutN (s.drop I0) 0).2 (cutN (t.drop K0) 0).2 else (decide ((cutN (t.drop K0) 0).1 < (cutN (s.drop I0) 0).1) == (X == 45))) := by
        show _ = _; rw [HR.out, List.drop_eq_getElem_cons hlt, List.drop_eq_getElem_cons hlt1, wsF, hX]
      have HJ2 : Hid (J + 2 = 2 * (m + 1)) := by show _ = _; have := HJ.out; omega
      have hm3 : m + 1 ≤ 4 := by have := HJ.out; omega
      clear HR hX
      go_wp2
      go_loop [7, 10] (fun i n => ∃ I M : Nat, I ≤ 12 + m ∧ i = .int .i64 I ∧ n = .int .i64 M ∧ Hid (M < 10 ^ (I + 1)) ∧ M < 1000000000000000000 ∧ Hid (cutN (s.drop I0) 0 = cutN (s.drop I) M)) (fun i _ => 20 - (intOf i).toNat)
      case atStart => exact ⟨I0, 0, hI0, rfl, rfl, Nat.pow_pos (by omega), by omega, rfl⟩
      case round =>
        obtain ⟨I, M, hI, rfl, rfl, HM, hM18, HK⟩ := hrel
        by_cases hlts : I < s.length
        · have his : (I : Int) < ((bs s).size : Int) := by rw [hss]; omega
          have hls : (I : Int) < (s.length : Int) := by omega
          obtain ⟨Y, hY⟩ : ∃ Y, Y = s[I].toNat := ⟨_, rfl⟩
          have qs : ∀ h, ((bs s)[I]'h).toNat = Y := fun h => by rw [bs_at, hY]
          have HY : Hid (s[I].toNat = Y) := hY.symm
          have hd : dcB Y = true := by rw [hY]; exact HDS.out _ (List.getElem_mem _)
          have hYr : Y = 44 ∨ (48 ≤ Y ∧ Y ≤ 57) := by unfold dcB at hd; simp at hd; omega
          clear hd hY
          by_cases h44 : Y = 44
          · have y44 : ((Y : Int) != 44) = false := by rw [bne_eq_false_iff_eq]; omega
            have HXs : Hid (cutN (s.drop I0) 0 = (M, s.drop (I + 1))) := by show _ = _; rw [HK.out]; exact cut_stop (fun _ => by rw [HY.out, h44])
            clear h44 hYr HK
            go_wp2
            go_loop [8, 11] (fun i n => ∃ K N : Nat, K ≤ 12 + m ∧ i = .int .i64 K ∧ n = .int .i64 N ∧ Hid (N < 10 ^ (K + 1)) ∧ N < 1000000000000000000 ∧ Hid (cutN (t.drop K0) 0 = cutN (t.drop K) N)) (fun i _ => 20 - (intOf i).toNat)
            case atStart => exact ⟨K0, 0, hK0, rfl, rfl, Nat.pow_pos (by omega), by omega, rfl⟩
            case round =>
              obtain ⟨K, N, hK, rfl, rfl, HM, hN18, HK⟩ := hrel
              by_cases hltt : K < t.length
              · have hit : (K : Int) < ((bs t).size : Int) := by rw [hst]; omega
                have hlt : (K : Int) < (t.length : Int) := by omega
                obtain ⟨Y, hY⟩ : ∃ Y, Y = t[K].toNat := ⟨_, rfl⟩
                have qt : ∀ h, ((bs t)[K]'h).toNat = Y := fun h => by rw [bs_at, hY]
                have HY : Hid (t[K].toNat = Y) := hY.symm
                have hd : dcB Y = true := by rw [hY]; exact HDT.out _ (List.getElem_mem _)
                have hYr : Y = 44 ∨ (48 ≤ Y ∧ Y ≤ 57) := by unfold dcB at hd; simp at hd; omega
                clear hd hY
                by_cases h44 : Y = 44
                · have y44 : ((Y : Int) != 44) = false := by rw [bne_eq_false_iff_eq]; omega
                  have HXt : Hid (cutN (t.drop K0) 0 = (N, t.drop (K + 1))) := by show _ = _; rw [HK.out]; exact cut_stop (fun _ => by rw [HY.out, h44])
                  clear h44 hYr HK
                  by_cases hne : M = N
                  · have hx : ((M : Int) != N) = false := by rw [bne_eq_false_iff_eq]; omega
                    have HE : Hid (R = wsF (C.drop (J + 2)) (s.drop (I + 1)) (t.drop (K + 1))) := by show _ = _; rw [HW.out, HXs.out, HXt.out, if_pos hne]
                    clear hne HW HXs HXt
                    go_wp2
                    go_round
                    case rel => exact ⟨I + 1, K + 1, m + 1, J + 2, HJ2, by omega, by omega, by omega, hm3, by go_num, by go_num, by go_num, HE⟩
                    case measure => simp [intOf]; omega
                  · have hx : ((M : Int) != N) = true := by rw [bne_iff_ne]; omega
                    have HE : Hid (R = (decide ((N : Int) < (M : Int)) == ((X : Int) == 45))) := by
                      show _ = _; rw [HW.out, HXs.out, HXt.out, if_neg hne]
                      congr 1
                      · rw [Bool.eq_iff_iff, decide_eq_true_iff, decide_eq_true_iff]; omega
                      · rw [Bool.eq_iff_iff, beq_iff_eq, beq_iff_eq]; omega
                    clear hne HW HXs HXt
                    go_wp2
                    go_ret
                    exact ⟨ret_bool (by rw [HE.out]; simp), rfl⟩
                · have y44 : ((Y : Int) != 44) = true := by rw [bne_iff_ne]; omega
                  have hY4 : 48 ≤ Y ∧ Y ≤ 57 := by omega
                  have hM13 : N < 10000000000000 := Nat.lt_of_lt_of_le HM.out (pow_ten (by omega))
                  obtain ⟨M2, hM2⟩ : ∃ M2, M2 = 10 * N + Y - 48 := ⟨_, rfl⟩
                  have cM : 10 * (N : Int) + (Y : Int) - 48 = (M2 : Int) := by omega
                  have HM2 : Hid (M2 < 10 ^ (K + 1 + 1)) := by show _ < _; have := HM.out; rw [Nat.pow_succ]; omega
                  have HK2 : Hid (cutN (t.drop K0) 0 = cutN (t.drop (K + 1)) M2) := by show _ = _; rw [HK.out, cut_step hltt (by rw [HY.out]; exact h44), HY.out, hM2]
                  have hM218 : M2 < 1000000000000000000 := by omega
                  clear h44 hYr HK HM hM2
                  go_wp2
                  go_round
                  case rel => exact ⟨K + 1, M2, by omega, by go_num, by first | rfl | rw [cM], HM2, hM218, HK2⟩
                  case measure => simp [intOf]; omega
              · have hit : ¬ (K : Int) < (t.length : Int) := by omega
                have hdt : decide (K < t.length) = false := by simpa using hltt
                have HXt : Hid (cutN (t.drop K0) 0 = (N, t.drop (K + 1))) := by show _ = _; rw [HK.out]; exact cut_stop (fun h => absurd h hltt)
                clear HK
                by_cases hne : M = N
                · have hx : ((M : Int) != N) = false := by rw [bne_eq_false_iff_eq]; omega
                  have HE : Hid (R = wsF (C.drop (J + 2)) (s.drop (I + 1)) (t.drop (K + 1))) := by show _ = _; rw [HW.out, HXs.out, HXt.out, if_pos hne]
                  clear hne HW HXs HXt
                  go_wp2
                  go_round
                  case rel => exact ⟨I + 1, K + 1, m + 1, J + 2, HJ2, by omega, by omega, by omega, hm3, by go_num, by go_num, by go_num, HE⟩
                  case measure => simp [intOf]; omega
                · have hx : ((M : Int) != N) = true := by rw [bne_iff_ne]; omega
                  have HE : Hid (R = (decide ((N : Int) < (M : Int)) == ((X : Int) == 45))) := by
                    show _ = _; rw [HW.out, HXs.out, HXt.out, if_neg hne]
                    congr 1
                    · rw [Bool.eq_iff_iff, decide_eq_true_iff, decide_eq_true_iff]; omega
                    · rw [Bool.eq_iff_iff, beq_iff_eq, beq_iff_eq]; omega
                  clear hne HW HXs HXt
                  go_wp2
                  go_ret
                  exact ⟨ret_bool (by rw [HE.out]; simp), rfl⟩
          · have y44 : ((Y : Int) != 44) = true := by rw [bne_iff_ne]; omega
            have hY4 : 48 ≤ Y ∧ Y ≤ 57 := by omega
            have hM13 : M < 10000000000000 := Nat.lt_of_lt_of_le HM.out (pow_ten (by omega))
            obtain ⟨M2, hM2⟩ : ∃ M2, M2 = 10 * M + Y - 48 := ⟨_, rfl⟩
            have cM : 10 * (M : Int) + (Y : Int) - 48 = (M2 : Int) := by omega
            have HM2 : Hid (M2 < 10 ^ (I + 1 + 1)) := by show _ < _; have := HM.out; rw [Nat.pow_succ]; omega
            have HK2 : Hid (cutN (s.drop I0) 0 = cutN (s.drop (I + 1)) M2) := by show _ = _; rw [HK.out, cut_step hlts (by rw [HY.out]; exact h44), HY.out, hM2]
            have hM218 : M2 < 1000000000000000000 := by omega
            clear h44 hYr HK HM hM2
            go_wp2
            go_round
            case rel => exact ⟨I + 1, M2, by omega, by go_num, by first | rfl | rw [cM], HM2, hM218, HK2⟩
            case measure => simp [intOf]; omega
        · have his : ¬ (I : Int) < (s.length : Int) := by omega
          have hds : decide (I < s.length) = false := by simpa using hlts
          have HXs : Hid (cutN (s.drop I0) 0 = (M, s.drop (I + 1))) := by show _ = _; rw [HK.out]; exact cut_stop (fun h => absurd h hlts)
          clear HK
          go_wp2
          go_loop [8, 11] (fun i n => ∃ K N : Nat, K ≤ 12 + m ∧ i = .int .i64 K ∧ n = .int .i64 N ∧ Hid (N < 10 ^ (K + 1)) ∧ N < 1000000000000000000 ∧ Hid (cutN (t.drop K0) 0 = cutN (t.drop K) N)) (fun i _ => 20 - (intOf i).toNat)
          case atStart => exact ⟨K0, 0, hK0, rfl, rfl, Nat.pow_pos (by omega), by omega, rfl⟩
          case round =>
            obtain ⟨K, N, hK, rfl, rfl, HM, hN18, HK⟩ := hrel
            by_cases hltt : K < t.length
            · have hit : (K : Int) < ((bs t).size : Int) := by rw [hst]; omega
              have hlt : (K : Int) < (t.length : Int) := by omega
              obtain ⟨Y, hY⟩ : ∃ Y, Y = t[K].toNat := ⟨_, rfl⟩
              have qt : ∀ h, ((bs t)[K]'h).toNat = Y := fun h => by rw [bs_at, hY]
              have HY : Hid (t[K].toNat = Y) := hY.symm
              have hd : dcB Y = true := by rw [hY]; exact HDT.out _ (List.getElem_mem _)
              have hYr : Y = 44 ∨ (48 ≤ Y ∧ Y ≤ 57) := by unfold dcB at hd; simp at hd; omega
              clear hd hY
              by_cases h44 : Y = 44
              · have y44 : ((Y : Int) != 44) = false := by rw [bne_eq_false_iff_eq]; omega
                have HXt : Hid (cutN (t.drop K0) 0 = (N, t.drop (K + 1))) := by show _ = _; rw [HK.out]; exact cut_stop (fun _ => by rw [HY.out, h44])
                clear h44 hYr HK
                by_cases hne : M = N
                · have hx : ((M : Int) != N) = false := by rw [bne_eq_false_iff_eq]; omega
                  have HE : Hid (R = wsF (C.drop (J + 2)) (s.drop (I + 1)) (t.drop (K + 1))) := by show _ = _; rw [HW.out, HXs.out, HXt.out, if_pos hne]
                  clear hne HW HXs HXt
                  go_wp2
                  go_round
                  case rel => exact ⟨I + 1, K + 1, m + 1, J + 2, HJ2, by omega, by omega, by omega, hm3, by go_num, by go_num, by go_num, HE⟩
                  case measure => simp [intOf]; omega
                · have hx : ((M : Int) != N) = true := by rw [bne_iff_ne]; omega
                  have HE : Hid (R = (decide ((N : Int) < (M : Int)) == ((X : Int) == 45))) := by
                    show _ = _; rw [HW.out, HXs.out, HXt.out, if_neg hne]
                    congr 1
                    · rw [Bool.eq_iff_iff, decide_eq_true_iff, decide_eq_true_iff]; omega
                    · rw [Bool.eq_iff_iff, beq_iff_eq, beq_iff_eq]; omega
                  clear hne HW HXs HXt
                  go_wp2
                  go_ret
                  exact ⟨ret_bool (by rw [HE.out]; simp), rfl⟩
              · have y44 : ((Y : Int) != 44) = true := by rw [bne_iff_ne]; omega
                have hY4 : 48 ≤ Y ∧ Y ≤ 57 := by omega
                have hM13 : N < 10000000000000 := Nat.lt_of_lt_of_le HM.out (pow_ten (by omega))
                obtain ⟨M2, hM2⟩ : ∃ M2, M2 = 10 * N + Y - 48 := ⟨_, rfl⟩
                have cM : 10 * (N : Int) + (Y : Int) - 48 = (M2 : Int) := by omega
                have HM2 : Hid (M2 < 10 ^ (K + 1 + 1)) := by show _ < _; have := HM.out; rw [Nat.pow_succ]; omega
                have HK2 : Hid (cutN (t.drop K0) 0 = cutN (t.drop (K + 1)) M2) := by show _ = _; rw [HK.out, cut_step hltt (by rw [HY.out]; exact h44), HY.out, hM2]
                have hM218 : M2 < 1000000000000000000 := by omega
                clear h44 hYr HK HM hM2
                go_wp2
                go_round
                case rel => exact ⟨K + 1, M2, by omega, by go_num, by first | rfl | rw [cM], HM2, hM218, HK2⟩
                case measure => simp [intOf]; omega
            · have hit : ¬ (K : Int) < (t.length : Int) := by omega
              have hdt : decide (K < t.length) = false := by simpa using hltt
              have HXt : Hid (cutN (t.drop K0) 0 = (N, t.drop (K + 1))) := by show _ = _; rw [HK.out]; exact cut_stop (fun h => absurd h hltt)
              clear HK
              by_cases hne : M = N
              · have hx : ((M : Int) != N) = false := by rw [bne_eq_false_iff_eq]; omega
                have HE : Hid (R = wsF (C.drop (J + 2)) (s.drop (I + 1)) (t.drop (K + 1))) := by show _ = _; rw [HW.out, HXs.out, HXt.out, if_pos hne]
                clear hne HW HXs HXt
                go_wp2
                go_round
                case rel => exact ⟨I + 1, K + 1, m + 1, J + 2, HJ2, by omega, by omega, by omega, hm3, by go_num, by go_num, by go_num, HE⟩
                case measure => simp [intOf]; omega
              · have hx : ((M : Int) != N) = true := by rw [bne_iff_ne]; omega
                have HE : Hid (R = (decide ((N : Int) < (M : Int)) == ((X : Int) == 45))) := by
                  show _ = _; rw [HW.out, HXs.out, HXt.out, if_neg hne]
                  congr 1
                  · rw [Bool.eq_iff_iff, decide_eq_true_iff, decide_eq_true_iff]; omega
                  · rw [Bool.eq_iff_iff, beq_iff_eq, beq_iff_eq]; omega
                clear hne HW HXs HXt
                go_wp2
                go_ret
                exact ⟨ret_bool (by rw [HE.out]; simp), rfl⟩
    · have hj1 : ¬ (J : Int) + 1 < (C.length : Int) := by omega
      have HF : Hid (R = false) := by show _ = _; rw [HR.out, List.drop_of_length_le (by omega)]; rfl
      go_wp2
      go_ret
      exact ⟨ret_bool HF.out.symm, rfl⟩

end Go.Proofs.YtenbnmbbfeekpaaDoor
