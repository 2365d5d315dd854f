import Derived.Test.YtdfnnpakdbhhpaaGreatDoorRefA
namespace Go.Proofs.YtdfnnpakdbhhpaaGreatDoor
open Go.RowKit

set_option maxHeartbeats 1600000 in
theorem ref_place (s : ByteArray) (w : World) (hs : s.size ≤ maxLen) : Calls Tryz.prog 57 #[.string s] w fun e w' => e = .returned (.int .i64 (plF 0 s.data.toList 0)) ∧ w' = w := by
  unfold maxLen at hs
  go_enter Tryz.func57, Tryz.ntmps57
  go_wp2
  go_loop [3, 4] (fun t i => ∃ (k : Nat) (q : Int), k ≤ s.size ∧ 0 ≤ q ∧ q ≤ 32 ∧ t = .int .i64 q ∧ i = .int .i64 k ∧ Hid (plF 0 s.data.toList 0 = plF q (s.data.toList.drop k) k)) (fun _ i => s.size - (intOf i).toNat)
  case atStart => exact ⟨0, 0, by omega, by omega, by omega, rfl, rfl, rfl⟩
  case round =>
    obtain ⟨k, q, hk, hq0, hq1, rfl, rfl, HP⟩ := hrel
    by_cases hlt : k < s.size
    · have hr := stepF_rng q s[k].toNat hq0 hq1
      have HS : Hid (plF 0 s.data.toList 0 = if stepF q s[k].toNat == -1 then (k : Int) else plF (stepF q s[k].toNat) (s.data.toList.drop (k + 1)) (k + 1)) := by
        have := HP.out; rw [drop_cons s k hlt] at this; exact this
      clear HP
      by_cases hn : stepF q s[k].toNat = -1
      · have HE : Hid (plF 0 s.data.toList 0 = (k : Int)) := by have := HS.out; rw [hn] at this; show _ = _; simpa using this
        clear HS hr
        rcases (by omega : q < 5 ∨ (¬ q < 5 ∧ q < 13) ∨ (¬ q < 5 ∧ ¬ q < 13)) with a1 | ⟨a1, a2⟩ | ⟨a1, a2⟩
        · have hn' : (headF q s[k].toNat == -1) = true := by simpa [stepF, a1] using hn
          clear hn
          go_wp2_with (go_at_call 93; refine (ref_head _ _ _ (by omega) (by omega)).mono ?_; rintro e w' ⟨rfl, rfl⟩)
          go_ret
          exact ⟨ret_int HE.out.symm, rfl⟩
        · have hn' : (needF q s[k].toNat == -1) = true := by simpa [stepF, a1, a2] using hn
          clear hn
          go_wp2_with (go_at_call 94; refine (ref_needs _ _ _ (by omega) (by omega)).mono ?_; rintro e w' ⟨rfl, rfl⟩)
          go_ret
          exact ⟨ret_int HE.out.symm, rfl⟩
        · have hn' : (listF ((q - 13) / 5) ((q - 13) % 5) s[k].toNat == -1) = true := by simpa [stepF, a1, a2] using hn
          clear hn
          go_wp2_with (go_at_call 95; refine (ref_lists _ _ _ _ (by omega) (by omega) (by omega) (by omega)).mono ?_; rintro e w' ⟨rfl, rfl⟩)
          go_ret
          exact ⟨ret_int HE.out.symm, rfl⟩
      · have HE : Hid (plF 0 s.data.toList 0 = plF (stepF q s[k].toNat) (s.data.toList.drop (k + 1)) (k + 1)) := by have := HS.out; rw [if_neg (by simpa using hn)] at this; exact this
        clear HS
        obtain ⟨r0, r1⟩ : 0 ≤ stepF q s[k].toNat ∧ stepF q s[k].toNat ≤ 32 := by omega
        clear hr
        rcases (by omega : q < 5 ∨ (¬ q < 5 ∧ q < 13) ∨ (¬ q < 5 ∧ ¬ q < 13)) with a1 | ⟨a1, a2⟩ | ⟨a1, a2⟩
        · have hn' : (headF q s[k].toNat == -1) = false := by simpa [stepF, a1] using hn
          have HQ : Hid (stepF q s[k].toNat = headF q s[k].toNat) := by show _ = _; simp [stepF, a1]
          rw [HQ.out] at r0 r1
          clear hn
          go_wp2_with (go_at_call 93; refine (ref_head _ _ _ (by omega) (by omega)).mono ?_; rintro e w' ⟨rfl, rfl⟩)
          go_round
          case rel => exact ⟨k + 1, _, by omega, r0, r1, rfl, by go_num, by rw [← HQ.out]; exact HE⟩
          case measure => simp [intOf]; omega
        · have hn' : (needF q s[k].toNat == -1) = false := by simpa [stepF, a1, a2] using hn
          have HQ : Hid (stepF q s[k].toNat = needF q s[k].toNat) := by show _ = _; simp [stepF, a1, a2]
          rw [HQ.out] at r0 r1
          clear hn
          go_wp2_with (go_at_call 94; refine (ref_needs _ _ _ (by omega) (by omega)).mono ?_; rintro e w' ⟨rfl, rfl⟩)
          go_round
          case rel => exact ⟨k + 1, _, by omega, r0, r1, rfl, by go_num, by rw [← HQ.out]; exact HE⟩
          case measure => simp [intOf]; omega
        · have hn' : (listF ((q - 13) / 5) ((q - 13) % 5) s[k].toNat == -1) = false := by simpa [stepF, a1, a2] using hn
          have HQ : Hid (stepF q s[k].toNat = listF ((q - 13) / 5) ((q - 13) % 5) s[k].toNat) := by show _ = _; simp [stepF, a1, a2]
          rw [HQ.out] at r0 r1
          clear hn
          go_wp2_with (go_at_call 95; refine (ref_lists _ _ _ _ (by omega) (by omega) (by omega) (by omega)).mono ?_; rintro e w' ⟨rfl, rfl⟩)
          go_round
          case rel => exact ⟨k + 1, _, by omega, r0, r1, rfl, by go_num, by rw [← HQ.out]; exact HE⟩
          case measure => simp [intOf]; omega
    · have HE : Hid (plF 0 s.data.toList 0 = if q == 28 || (q == 30 || q == 32) then -1 else (k : Int)) := by
        have := HP.out; rw [List.drop_of_length_le (by simp; omega)] at this; exact this
      clear HP
      have hke : k = s.size := by omega
      subst hke
      by_cases h1 : q = 28
      · subst h1
        go_wp2
        go_ret
        exact ⟨ret_int HE.out.symm, rfl⟩
      by_cases h2 : q = 30
      · subst h2
        go_wp2
        go_ret
        exact ⟨ret_int HE.out.symm, rfl⟩
      by_cases h3 : q = 32
      · subst h3
        go_wp2
        go_ret
        exact ⟨ret_int HE.out.symm, rfl⟩
      have e1 : (q - 13 - 15 == 0) = false := by rw [beq_eq_false_iff_ne]; omega
      have e2 : (q - 13 - 15 == 2) = false := by rw [beq_eq_false_iff_ne]; omega
      have e3 : (q - 13 - 15 == 4) = false := by rw [beq_eq_false_iff_ne]; omega
      have HE' : Hid (plF 0 s.data.toList 0 = (s.size : Int)) := by
        have := HE.out; rw [if_neg (by simp [h1, h2, h3])] at this; exact this
      clear HE h1 h2 h3
      go_wp2
      go_ret
      exact ⟨ret_int HE'.out.symm, rfl⟩

end Go.Proofs.YtdfnnpakdbhhpaaGreatDoor
