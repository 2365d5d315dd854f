import Derived.Test.YtdfnnpakdbhhpaaGreatDoorRdA
namespace Go.Proofs.YtdfnnpakdbhhpaaGreatDoor
open Go.RowKit

theorem acI_le (s : ByteArray) (x i : Nat) (bad : Bool) (hi : i ≤ s.size) : acI s.data.toList x i bad ≤ s.size := by
  unfold acI
  split
  · rename_i h
    unfold acB at h
    simp only [Bool.and_eq_true, Bool.not_eq_true', beq_eq_false_iff_ne, beq_iff_eq] at h
    have := (ahF_in _ _ _ h.1).2
    simp only [Array.length_toList] at this
    exact this
  · exact hi

set_option maxHeartbeats 400000 in
theorem rd_expect (B : Nat) (s : ByteArray) (i : Nat) (bad : Bool) (x : Nat) (xi : Int) (hx : xi = (x : Int)) (w : World) (hs : s.size ≤ 800) (hi : i ≤ s.size) (hr : Rd B w s i bad) :
    Calls Tryz.prog 75 #[.pointer (some ⟨B, 0, none⟩), .int .u8 xi] w fun e w' => e = .returned (.tuple #[]) ∧ Rd B w' s (acI s.data.toList x i bad) (exBad s.data.toList x i bad) ∧ Kp B w w' := by
  subst hx
  have HR : Hid (Rd B w s i bad) := hr
  clear hr
  by_cases h : acB s.data.toList x i bad = true
  · have HE : Hid (exBad s.data.toList x i bad = bad) := by show _ = _; unfold exBad; rw [if_pos h]
    go_enter Tryz.func75, Tryz.ntmps75
    go_wp2_with (go_at_call 106; refine (rd_accept B s i bad x _ rfl _ hs hi HR.out).mono ?_; rintro e w' ⟨rfl, hr', hk'⟩)
    go_end0
    exact ⟨rfl, by rw [HE.out]; exact hr', hk'⟩
  · simp only [Bool.not_eq_true] at h
    have HE : Hid (exBad s.data.toList x i bad = true) := by show _ = _; unfold exBad; rw [if_neg (by simp [h])]
    go_enter Tryz.func75, Tryz.ntmps75
    go_wp2_with (go_at_call 106; refine (rd_accept B s i bad x _ rfl _ hs hi HR.out).mono ?_; rintro e w' ⟨rfl, hr', hk'⟩; have HR' : Hid (Rd B w' s (acI s.data.toList x i bad) bad) := hr'; have c2 := hr'.c2; have f2 := hr'.f2; clear hr')
    go_end0
    exact ⟨rfl, by rw [HE.out]; exact HR'.out.set2 true, hk'.set _ _⟩

set_option maxHeartbeats 400000 in
theorem rd_expectEnd (B : Nat) (s : ByteArray) (i : Nat) (bad : Bool) (w : World) (_hs : s.size ≤ 800) (_hi : i ≤ s.size) (hr : Rd B w s i bad) :
    Calls Tryz.prog 77 #[.pointer (some ⟨B, 0, none⟩)] w fun e w' => e = .returned (.tuple #[]) ∧ Rd B w' s i (if i < s.size then true else bad) ∧ Kp B w w' := by
  have HR : Hid (Rd B w s i bad) := hr
  have c0 := hr.c0
  have c1 := hr.c1
  have c2 := hr.c2
  have f2 := hr.f2
  clear hr
  by_cases h : i < s.size
  · go_enter Tryz.func77, Tryz.ntmps77
    go_wp2
    go_quiet (fail)
    go_wp2
    go_end0
    exact ⟨rfl, by simpa [h] using (HR.out.drewN _).set2 true, ((Kp.refl B w).drewN _).set _ _⟩
  · go_enter Tryz.func77, Tryz.ntmps77
    go_wp2
    go_quiet (fail)
    go_wp2
    go_end0
    exact ⟨rfl, by simpa [h] using (HR.out.drewN _), ((Kp.refl B w).drewN _)⟩

theorem naI_le (s : ByteArray) (i : Nat) (bad : Bool) (hi : i ≤ s.size) : naI s.data.toList i bad ≤ s.size := by
  unfold naI
  split
  · rename_i h
    have h1 : ahF s.data.toList i bad ≠ 0 := by intro e; unfold naB nmB at h; rw [e] at h; revert h; decide
    have := (ahF_in _ _ _ h1).2
    simp only [Array.length_toList] at this
    exact this
  · exact hi
theorem veI_le (s : ByteArray) (i : Nat) (bad : Bool) (hi : i ≤ s.size) : veI s.data.toList i bad ≤ s.size := by
  unfold veI
  split
  · rename_i h
    have h1 : ahF s.data.toList i bad ≠ 0 := by intro e; unfold veB vrB at h; rw [e] at h; revert h; decide
    have := (ahF_in _ _ _ h1).2
    simp only [Array.length_toList] at this
    exact this
  · exact hi
theorem siI_le (s : ByteArray) (i : Nat) (bad : Bool) (hi : i ≤ s.size) : siI s.data.toList i bad ≤ s.size := by
  unfold siI
  split
  · rename_i h
    have h1 : ahF s.data.toList i bad ≠ 0 := by intro e; unfold siB sgB at h; rw [e] at h; revert h; decide
    have := (ahF_in _ _ _ h1).2
    simp only [Array.length_toList] at this
    exact this
  · exact hi

set_option maxHeartbeats 400000 in
theorem rd_name (B : Nat) (s : ByteArray) (i : Nat) (bad : Bool) (w : World) (hs : s.size ≤ 800) (hi : i ≤ s.size) (hr : Rd B w s i bad) :
    Calls Tryz.prog 101 #[.pointer (some ⟨B, 0, none⟩)] w fun e w' => e = .returned (.int .u8 (naV s.data.toList i bad)) ∧ Rd B w' s (naI s.data.toList i bad) (naBad s.data.toList i bad) ∧ Kp B w w' := by
  have HR : Hid (Rd B w s i bad) := hr
  have c1 := hr.c1
  have f1 := hr.f1
  have c2 := hr.c2
  have f2 := hr.f2
  clear hr
  have hle := naI_le s i bad hi
  by_cases h : nmB (ahF s.data.toList i bad) = true
  · have HV : Hid (naV s.data.toList i bad = ahF s.data.toList i bad) := by show _ = _; unfold naV naB; rw [if_pos h]
    have HI : Hid (naI s.data.toList i bad = i + 1) := by show _ = _; unfold naI naB; rw [if_pos h]
    have HB : Hid (naBad s.data.toList i bad = bad) := by show _ = _; unfold naBad naB; rw [if_pos h]
    rw [HI.out] at hle
    go_enter Tryz.func101, Tryz.ntmps101
    go_wp2_with (go_at_call 99; refine (rd_ahead B s i bad _ hs hi HR.out).mono ?_; rintro e w' ⟨rfl, n, rfl⟩)
    go_wp2_with (go_at_call 100; refine (rd_isName _ _).mono ?_; rintro e w' ⟨rfl, rfl⟩)
    go_ret
    exact ⟨ret_int (by rw [HV.out]), by rw [HI.out, HB.out]; exact (HR.out.drewN n).set1 (i + 1), ((Kp.refl B w).drewN _).set _ _⟩
  · simp only [Bool.not_eq_true] at h
    have HV : Hid (naV s.data.toList i bad = 0) := by show _ = _; unfold naV naB; rw [if_neg (by simp [h])]
    have HI : Hid (naI s.data.toList i bad = i) := by show _ = _; unfold naI naB; rw [if_neg (by simp [h])]
    have HB : Hid (naBad s.data.toList i bad = true) := by show _ = _; unfold naBad naB; rw [if_neg (by simp [h])]
    go_enter Tryz.func101, Tryz.ntmps101
    go_wp2_with (go_at_call 99; refine (rd_ahead B s i bad _ hs hi HR.out).mono ?_; rintro e w' ⟨rfl, n, rfl⟩)
    go_wp2_with (go_at_call 100; refine (rd_isName _ _).mono ?_; rintro e w' ⟨rfl, rfl⟩)
    go_ret
    exact ⟨ret_int (by rw [HV.out]; rfl), by rw [HI.out, HB.out]; exact (HR.out.drewN n).set2 true, ((Kp.refl B w).drewN _).set _ _⟩

theorem vrB_no {c : Nat} (h : vrB c = false) : (c : Int) < 49 ∨ (57 : Int) < c := by unfold vrB at h; simp at h; omega
theorem vrB_yes {c : Nat} (h : vrB c = true) : (49 : Int) ≤ c ∧ (c : Int) ≤ 57 := by unfold vrB at h; simp at h; omega

set_option maxHeartbeats 400000 in
theorem rd_version (B : Nat) (s : ByteArray) (i : Nat) (bad : Bool) (w : World) (hs : s.size ≤ 800) (hi : i ≤ s.size) (hr : Rd B w s i bad) :
    Calls Tryz.prog 102 #[.pointer (some ⟨B, 0, none⟩)] w fun e w' => e = .returned (.int .u8 (veV s.data.toList i bad)) ∧ Rd B w' s (veI s.data.toList i bad) (veBad s.data.toList i bad) ∧ Kp B w w' := by
  have HR : Hid (Rd B w s i bad) := hr
  have c1 := hr.c1
  have f1 := hr.f1
  have c2 := hr.c2
  have f2 := hr.f2
  clear hr
  have hle := veI_le s i bad hi
  by_cases h : vrB (ahF s.data.toList i bad) = true
  · have HV : Hid (veV s.data.toList i bad = ahF s.data.toList i bad) := by show _ = _; unfold veV veB; rw [if_pos h]
    have HI : Hid (veI s.data.toList i bad = i + 1) := by show _ = _; unfold veI veB; rw [if_pos h]
    have HB : Hid (veBad s.data.toList i bad = bad) := by show _ = _; unfold veBad veB; rw [if_pos h]
    rw [HI.out] at hle
    obtain ⟨g1, g2⟩ := vrB_yes h
    clear h
    go_enter Tryz.func102, Tryz.ntmps102
    go_wp2_with (go_at_call 99; refine (rd_ahead B s i bad _ hs hi HR.out).mono ?_; rintro e w' ⟨rfl, n, rfl⟩)
    go_ret
    exact ⟨ret_int (by rw [HV.out]), by rw [HI.out, HB.out]; exact (HR.out.drewN n).set1 (i + 1), ((Kp.refl B w).drewN _).set _ _⟩
  · simp only [Bool.not_eq_true] at h
    have HV : Hid (veV s.data.toList i bad = 0) := by show _ = _; unfold veV veB; rw [if_neg (by simp [h])]
    have HI : Hid (veI s.data.toList i bad = i) := by show _ = _; unfold veI veB; rw [if_neg (by simp [h])]
    have HB : Hid (veBad s.data.toList i bad = true) := by show _ = _; unfold veBad veB; rw [if_neg (by simp [h])]
    rcases (by have := vrB_no h; omega : (ahF s.data.toList i bad : Int) < 49 ∨ (¬ (ahF s.data.toList i bad : Int) < 49 ∧ (57 : Int) < ahF s.data.toList i bad)) with g | ⟨g, g2⟩
    all_goals
      clear h
      go_enter Tryz.func102, Tryz.ntmps102
      go_wp2_with (go_at_call 99; refine (rd_ahead B s i bad _ hs hi HR.out).mono ?_; rintro e w' ⟨rfl, n, rfl⟩)
      go_ret
      exact ⟨ret_int (by rw [HV.out]; rfl), by rw [HI.out, HB.out]; exact (HR.out.drewN n).set2 true, ((Kp.refl B w).drewN _).set _ _⟩

theorem sgB_no {c : Nat} (h : sgB c = false) : ((c : Int) != 61) = true ∧ ((c : Int) != 60) = true ∧ ((c : Int) != 62) = true := by unfold sgB at h; simp at h; simp; omega
theorem sgB_yes {c : Nat} (h : sgB c = true) : c = 61 ∨ c = 60 ∨ c = 62 := by unfold sgB at h; simp at h; omega

set_option maxHeartbeats 800000 in
theorem rd_sign (B : Nat) (s : ByteArray) (i : Nat) (bad : Bool) (w : World) (hs : s.size ≤ 800) (hi : i ≤ s.size) (hr : Rd B w s i bad) :
    Calls Tryz.prog 120 #[.pointer (some ⟨B, 0, none⟩)] w fun e w' => e = .returned (.int .u8 (siV s.data.toList i bad)) ∧ Rd B w' s (siI s.data.toList i bad) bad ∧ Kp B w w' := by
  have HR : Hid (Rd B w s i bad) := hr
  have c1 := hr.c1
  have f1 := hr.f1
  clear hr
  have hle := siI_le s i bad hi
  by_cases h : sgB (ahF s.data.toList i bad) = true
  · have HV : Hid (siV s.data.toList i bad = ahF s.data.toList i bad) := by show _ = _; unfold siV siB; rw [if_pos h]
    have HI : Hid (siI s.data.toList i bad = i + 1) := by show _ = _; unfold siI siB; rw [if_pos h]
    rw [HI.out] at hle
    have g : ((ahF s.data.toList i bad : Int) != 61) = false ∨ (((ahF s.data.toList i bad : Int) != 61) = true ∧ ((ahF s.data.toList i bad : Int) != 60) = false) ∨ (((ahF s.data.toList i bad : Int) != 61) = true ∧ ((ahF s.data.toList i bad : Int) != 60) = true ∧ ((ahF s.data.toList i bad : Int) != 62) = false) := by
      rcases sgB_yes h with e | e | e <;> rw [e] <;> decide
    clear h
    rcases g with g | ⟨g, g2⟩ | ⟨g, g2, g3⟩
    all_goals
      go_enter Tryz.func120, Tryz.ntmps120
      go_wp2_with (go_at_call 99; refine (rd_ahead B s i bad _ hs hi HR.out).mono ?_; rintro e w' ⟨rfl, n, rfl⟩)
      go_ret
      exact ⟨ret_int (by rw [HV.out]), by rw [HI.out]; exact (HR.out.drewN n).set1 (i + 1), ((Kp.refl B w).drewN _).set _ _⟩
  · simp only [Bool.not_eq_true] at h
    have HV : Hid (siV s.data.toList i bad = 0) := by show _ = _; unfold siV siB; rw [if_neg (by simp [h])]
    have HI : Hid (siI s.data.toList i bad = i) := by show _ = _; unfold siI siB; rw [if_neg (by simp [h])]
    obtain ⟨g1, g2, g3⟩ := sgB_no h
    clear h
    go_enter Tryz.func120, Tryz.ntmps120
    go_wp2_with (go_at_call 99; refine (rd_ahead B s i bad _ hs hi HR.out).mono ?_; rintro e w' ⟨rfl, n, rfl⟩)
    go_ret
    exact ⟨ret_int (by rw [HV.out]; rfl), by rw [HI.out]; exact (HR.out.drewN n), ((Kp.refl B w).drewN _)⟩

end Go.Proofs.YtdfnnpakdbhhpaaGreatDoor
