import Derived.Test.YtenbnmbbfeekpabGreatDoorRows
import Derived.Test.YtenbnmbbfeekpabGreatDoorXA
import Derived.Deep.QuietTactic
import Derived.BigQuiet
import Derived.Deep.LoopGhost

namespace Go.Proofs.YtenbnmbbfeekpabGreatDoor
open Go.RowKit

set_option maxHeartbeats 400000 in
theorem rd_ahead (B : Nat) (s : ByteArray) (i : Nat) (bad : Bool) (w : World) (_hs : s.size ≤ 800) (hi : i ≤ s.size) (hr : Rd B w s i bad) :
    Calls Tryz.prog 123 #[.pointer (some ⟨B, 0, none⟩)] w fun e w' => e = .returned (.int .u8 (ahF s.data.toList i bad)) ∧ ∃ n, w' = w.drewN n := by
  have c0 := hr.c0
  have c1 := hr.c1
  have c2 := hr.c2
  cases bad
  · by_cases hlt : i < s.size
    · have HA := ahF_at s i hlt
      have HA' : Hid (ahF s.data.toList i false = s[i].toNat) := HA
      clear HA hr
      have hd : decide ((s.size : Int) ≤ (i : Int)) = false := by simp; omega
      go_enter Tryz.func123, Tryz.ntmps123
      go_wp2
      go_quiet (fail)
      go_wp2
      go_quiet (fail)
      go_wp2
      go_ret
      exact ⟨ret_int (by rw [HA'.out]), _, by rw [World.drewN_drewN]⟩
    · have HA' : Hid (ahF s.data.toList i false = 0) := ahF_end _ _ (by simp; omega) _
      clear hr
      have hd : (s.size : Int) ≤ (i : Int) := by omega
      go_enter Tryz.func123, Tryz.ntmps123
      go_wp2
      go_quiet (fail)
      go_wp2
      go_ret
      exact ⟨ret_int (by rw [HA'.out]; rfl), _, rfl⟩
  · clear hr
    go_enter Tryz.func123, Tryz.ntmps123
    go_wp2
    go_quiet (fail)
    go_wp2
    go_ret
    exact ⟨ret_int rfl, _, rfl⟩

set_option maxHeartbeats 400000 in
theorem rd_isName (c : Int) (w : World) : Calls Tryz.prog 124 #[.int .u8 c] w fun e w' => e = .returned (.bool (nmB c)) ∧ w' = w := by
  go_enter Tryz.func124, Tryz.ntmps124
  go_wp2
  all_goals go_ret
  all_goals simp_all [nmB]
  all_goals omega

set_option maxHeartbeats 400000 in
theorem rd_nameAhead (B : Nat) (s : ByteArray) (i : Nat) (bad : Bool) (w : World) (hs : s.size ≤ 800) (hi : i ≤ s.size) (hr : Rd B w s i bad) :
    Calls Tryz.prog 90 #[.pointer (some ⟨B, 0, none⟩)] w fun e w' => e = .returned (.bool (naB s.data.toList i bad)) ∧ ∃ n, w' = w.drewN n := by
  have HR : Hid (Rd B w s i bad) := hr
  clear hr
  go_enter Tryz.func90, Tryz.ntmps90
  go_wp2_with (go_at_call 123; refine (rd_ahead B s i bad _ hs hi HR.out).mono ?_; rintro e w' ⟨rfl, n, rfl⟩)
  go_wp2_with (go_at_call 124; refine (rd_isName _ _).mono ?_; rintro e w' ⟨rfl, rfl⟩)
  go_ret
  exact ⟨rfl, _, rfl⟩

set_option maxHeartbeats 400000 in
theorem rd_accept (B : Nat) (s : ByteArray) (i : Nat) (bad : Bool) (x : Nat) (xi : Int) (hx : xi = (x : Int)) (w : World) (hs : s.size ≤ 800) (hi : i ≤ s.size) (hr : Rd B w s i bad) :
    Calls Tryz.prog 130 #[.pointer (some ⟨B, 0, none⟩), .int .u8 xi] w fun e w' => e = .returned (.bool (acB s.data.toList x i bad)) ∧ Rd B w' s (acI s.data.toList x i bad) bad ∧ Kp B w w' := by
  subst hx
  have HR : Hid (Rd B w s i bad) := hr
  have c1 := hr.c1
  have f1 := hr.f1
  clear hr
  by_cases h : acB s.data.toList x i bad = true
  · have h' := h
    unfold acB at h'
    simp only [Bool.and_eq_true, Bool.not_eq_true', beq_eq_false_iff_ne, beq_iff_eq] at h'
    obtain ⟨h1, h2⟩ := h'
    have e1 : ((ahF s.data.toList i bad : Int) == 0) = false := by rw [beq_eq_false_iff_ne]; omega
    have e2 : ((ahF s.data.toList i bad : Int) != (x : Int)) = false := by rw [bne_eq_false_iff_eq]; omega
    have hl := (ahF_in _ _ _ h1).2
    have HI : Hid (acI s.data.toList x i bad = i + 1) := by show _ = _; unfold acI; rw [if_pos h]
    have HB : Hid (acB s.data.toList x i bad = true) := h
    clear h h1 h2
    simp only [Array.length_toList] at hl
    replace hl : i < s.size := hl
    go_enter Tryz.func130, Tryz.ntmps130
    go_wp2_with (go_at_call 123; refine (rd_ahead B s i bad _ hs hi HR.out).mono ?_; rintro e w' ⟨rfl, n, rfl⟩)
    go_wp2
    go_ret
    refine ⟨ret_bool HB.out.symm, ?_, ((Kp.refl B w).drewN n).set _ _⟩
    rw [HI.out]
    exact (HR.out.drewN n).set1 (i + 1)
  · simp only [Bool.not_eq_true] at h
    have HI : Hid (acI s.data.toList x i bad = i) := by show _ = _; unfold acI; rw [if_neg (by simp [h])]
    have HB : Hid (acB s.data.toList x i bad = false) := h
    by_cases h0 : ahF s.data.toList i bad = 0
    · have e1 : ((ahF s.data.toList i bad : Int) == 0) = true := by rw [beq_iff_eq]; omega
      clear h h0
      go_enter Tryz.func130, Tryz.ntmps130
      go_wp2_with (go_at_call 123; refine (rd_ahead B s i bad _ hs hi HR.out).mono ?_; rintro e w' ⟨rfl, n, rfl⟩)
      go_wp2
      go_ret
      refine ⟨ret_bool HB.out.symm, ?_, ((Kp.refl B w).drewN n)⟩
      rw [HI.out]
      exact (HR.out.drewN n)
    · have e1 : ((ahF s.data.toList i bad : Int) == 0) = false := by rw [beq_eq_false_iff_ne]; omega
      have e2 : ((ahF s.data.toList i bad : Int) != (x : Int)) = true := by
        rw [bne_iff_ne]; intro e; have e' : ahF s.data.toList i bad = x := by omega
        have : acB s.data.toList x i bad = true := by unfold acB; simp [e']; omega
        rw [h] at this; cases this
      clear h h0
      go_enter Tryz.func130, Tryz.ntmps130
      go_wp2_with (go_at_call 123; refine (rd_ahead B s i bad _ hs hi HR.out).mono ?_; rintro e w' ⟨rfl, n, rfl⟩)
      go_wp2
      go_ret
      refine ⟨ret_bool HB.out.symm, ?_, ((Kp.refl B w).drewN n)⟩
      rw [HI.out]
      exact (HR.out.drewN n)

end Go.Proofs.YtenbnmbbfeekpabGreatDoor

namespace Go.Proofs.YtenbnmbbfeekpabGreatDoor
open Go.RowKit

theorem acI_le (s : ByteArray) (x i : Nat) (bad : Bool) (hi : i ≤ s.size) : acI s.data.toList x i bad ≤ s.size := by
  unfold acI
  split
  · rename_i h
    unfold acB at h
    simp only [Bool.and_eq_true, Bool.not_eq_true', beq_eq_false_iff_ne, beq_iff_eq] at h
    have := (ahF_in _ _ _ h.1).2
    simp only [Array.length_toList] at this
    exact this
  · exact hi

set_option maxHeartbeats 400000 in
theorem rd_expect (B : Nat) (s : ByteArray) (i : Nat) (bad : Bool) (x : Nat) (xi : Int) (hx : xi = (x : Int)) (w : World) (hs : s.size ≤ 800) (hi : i ≤ s.size) (hr : Rd B w s i bad) :
    Calls Tryz.prog 92 #[.pointer (some ⟨B, 0, none⟩), .int .u8 xi] w fun e w' => e = .returned (.tuple #[]) ∧ Rd B w' s (acI s.data.toList x i bad) (exBad s.data.toList x i bad) ∧ Kp B w w' := by
  subst hx
  have HR : Hid (Rd B w s i bad) := hr
  clear hr
  by_cases h : acB s.data.toList x i bad = true
  · have HE : Hid (exBad s.data.toList x i bad = bad) := by show _ = _; unfold exBad; rw [if_pos h]
    go_enter Tryz.func92, Tryz.ntmps92
    go_wp2_with (go_at_call 130; refine (rd_accept B s i bad x _ rfl _ hs hi HR.out).mono ?_; rintro e w' ⟨rfl, hr', hk'⟩)
    go_end0
    exact ⟨rfl, by rw [HE.out]; exact hr', hk'⟩
  · simp only [Bool.not_eq_true] at h
    have HE : Hid (exBad s.data.toList x i bad = true) := by show _ = _; unfold exBad; rw [if_neg (by simp [h])]
    go_enter Tryz.func92, Tryz.ntmps92
    go_wp2_with (go_at_call 130; refine (rd_accept B s i bad x _ rfl _ hs hi HR.out).mono ?_; rintro e w' ⟨rfl, hr', hk'⟩; have HR' : Hid (Rd B w' s (acI s.data.toList x i bad) bad) := hr'; have c2 := hr'.c2; have f2 := hr'.f2; clear hr')
    go_end0
    exact ⟨rfl, by rw [HE.out]; exact HR'.out.set2 true, hk'.set _ _⟩

set_option maxHeartbeats 400000 in
theorem rd_expectEnd (B : Nat) (s : ByteArray) (i : Nat) (bad : Bool) (w : World) (_hs : s.size ≤ 800) (_hi : i ≤ s.size) (hr : Rd B w s i bad) :
    Calls Tryz.prog 94 #[.pointer (some ⟨B, 0, none⟩)] w fun e w' => e = .returned (.tuple #[]) ∧ Rd B w' s i (if i < s.size then true else bad) ∧ Kp B w w' := by
  have HR : Hid (Rd B w s i bad) := hr
  have c0 := hr.c0
  have c1 := hr.c1
  have c2 := hr.c2
  have f2 := hr.f2
  clear hr
  by_cases h : i < s.size
  · go_enter Tryz.func94, Tryz.ntmps94
    go_wp2
    go_quiet (fail)
    go_wp2
    go_end0
    exact ⟨rfl, by simpa [h] using (HR.out.drewN _).set2 true, ((Kp.refl B w).drewN _).set _ _⟩
  · go_enter Tryz.func94, Tryz.ntmps94
    go_wp2
    go_quiet (fail)
    go_wp2
    go_end0
    exact ⟨rfl, by simpa [h] using (HR.out.drewN _), ((Kp.refl B w).drewN _)⟩

theorem naI_le (s : ByteArray) (i : Nat) (bad : Bool) (hi : i ≤ s.size) : naI s.data.toList i bad ≤ s.size := by
  unfold naI
  split
  · rename_i h
    have h1 : ahF s.data.toList i bad ≠ 0 := by intro e; unfold naB nmB at h; rw [e] at h; revert h; decide
    have := (ahF_in _ _ _ h1).2
    simp only [Array.length_toList] at this
    exact this
  · exact hi
theorem veI_le (s : ByteArray) (i : Nat) (bad : Bool) (hi : i ≤ s.size) : veI s.data.toList i bad ≤ s.size := by
  unfold veI
  split
  · rename_i h
    have h1 : ahF s.data.toList i bad ≠ 0 := by intro e; unfold veB vrB at h; rw [e] at h; revert h; decide
    have := (ahF_in _ _ _ h1).2
    simp only [Array.length_toList] at this
    exact this
  · exact hi
theorem siI_le (s : ByteArray) (i : Nat) (bad : Bool) (hi : i ≤ s.size) : siI s.data.toList i bad ≤ s.size := by
  unfold siI
  split
  · rename_i h
    have h1 : ahF s.data.toList i bad ≠ 0 := by intro e; unfold siB sgB at h; rw [e] at h; revert h; decide
    have := (ahF_in _ _ _ h1).2
    simp only [Array.length_toList] at this
    exact this
  · exact hi

set_option maxHeartbeats 400000 in
theorem rd_name (B : Nat) (s : ByteArray) (i : Nat) (bad : Bool) (w : World) (hs : s.size ≤ 800) (hi : i ≤ s.size) (hr : Rd B w s i bad) :
    Calls Tryz.prog 125 #[.pointer (some ⟨B, 0, none⟩)] w fun e w' => e = .returned (.int .u8 (naV s.data.toList i bad)) ∧ Rd B w' s (naI s.data.toList i bad) (naBad s.data.toList i bad) ∧ Kp B w w' := by
  have HR : Hid (Rd B w s i bad) := hr
  have c1 := hr.c1
  have f1 := hr.f1
  have c2 := hr.c2
  have f2 := hr.f2
  clear hr
  have hle := naI_le s i bad hi
  by_cases h : nmB (ahF s.data.toList i bad) = true
  · have HV : Hid (naV s.data.toList i bad = ahF s.data.toList i bad) := by show _ = _; unfold naV naB; rw [if_pos h]
    have HI : Hid (naI s.data.toList i bad = i + 1) := by show _ = _; unfold naI naB; rw [if_pos h]
    have HB : Hid (naBad s.data.toList i bad = bad) := by show _ = _; unfold naBad naB; rw [if_pos h]
    rw [HI.out] at hle
    go_enter Tryz.func125, Tryz.ntmps125
    go_wp2_with (go_at_call 123; refine (rd_ahead B s i bad _ hs hi HR.out).mono ?_; rintro e w' ⟨rfl, n, rfl⟩)
    go_wp2_with (go_at_call 124; refine (rd_isName _ _).mono ?_; rintro e w' ⟨rfl, rfl⟩)
    go_ret
    exact ⟨ret_int (by rw [HV.out]), by rw [HI.out, HB.out]; exact (HR.out.drewN n).set1 (i + 1), ((Kp.refl B w).drewN _).set _ _⟩
  · simp only [Bool.not_eq_true] at h
    have HV : Hid (naV s.data.toList i bad = 0) := by show _ = _; unfold naV naB; rw [if_neg (by simp [h])]
    have HI : Hid (naI s.data.toList i bad = i) := by show _ = _; unfold naI naB; rw [if_neg (by simp [h])]
    have HB : Hid (naBad s.data.toList i bad = true) := by show _ = _; unfold naBad naB; rw [if_neg (by simp [h])]
    go_enter Tryz.func125, Tryz.ntmps125
    go_wp2_with (go_at_call 123; refine (rd_ahead B s i bad _ hs hi HR.out).mono ?_; rintro e w' ⟨rfl, n, rfl⟩)
    go_wp2_with (go_at_call 124; refine (rd_isName _ _).mono ?_; rintro e w' ⟨rfl, rfl⟩)
    go_ret
    exact ⟨ret_int (by rw [HV.out]; rfl), by rw [HI.out, HB.out]; exact (HR.out.drewN n).set2 true, ((Kp.refl B w).drewN _).set _ _⟩

theorem vrB_no {c : Nat} (h : vrB c = false) : (c : Int) < 49 ∨ (57 : Int) < c := by unfold vrB at h; simp at h; omega
theorem vrB_yes {c : Nat} (h : vrB c = true) : (49 : Int) ≤ c ∧ (c : Int) ≤ 57 := by unfold vrB at h; simp at h; omega

set_option maxHeartbeats 400000 in
theorem rd_version (B : Nat) (s : ByteArray) (i : Nat) (bad : Bool) (w : World) (hs : s.size ≤ 800) (hi : i ≤ s.size) (hr : Rd B w s i bad) :
    Calls Tryz.prog 126 #[.pointer (some ⟨B, 0, none⟩)] w fun e w' => e = .returned (.int .u8 (veV s.data.toList i bad)) ∧ Rd B w' s (veI s.data.toList i bad) (veBad s.data.toList i bad) ∧ Kp B w w' := by
  have HR : Hid (Rd B w s i bad) := hr
  have c1 := hr.c1
  have f1 := hr.f1
  have c2 := hr.c2
  have f2 := hr.f2
  clear hr
  have hle := veI_le s i bad hi
  by_cases h : vrB (ahF s.data.toList i bad) = true
  · have HV : Hid (veV s.data.toList i bad = ahF s.data.toList i bad) := by show _ = _; unfold veV veB; rw [if_pos h]
    have HI : Hid (veI s.data.toList i bad = i + 1) := by show _ = _; unfold veI veB; rw [if_pos h]
    have HB : Hid (veBad s.data.toList i bad = bad) := by show _ = _; unfold veBad veB; rw [if_pos h]
    rw [HI.out] at hle
    obtain ⟨g1, g2⟩ := vrB_yes h
    clear h
    go_enter Tryz.func126, Tryz.ntmps126
    go_wp2_with (go_at_call 123; refine (rd_ahead B s i bad _ hs hi HR.out).mono ?_; rintro e w' ⟨rfl, n, rfl⟩)
    go_ret
    exact ⟨ret_int (by rw [HV.out]), by rw [HI.out, HB.out]; exact (HR.out.drewN n).set1 (i + 1), ((Kp.refl B w).drewN _).set _ _⟩
  · simp only [Bool.not_eq_true] at h
    have HV : Hid (veV s.data.toList i bad = 0) := by show _ = _; unfold veV veB; rw [if_neg (by simp [h])]
    have HI : Hid (veI s.data.toList i bad = i) := by show _ = _; unfold veI veB; rw [if_neg (by simp [h])]
    have HB : Hid (veBad s.data.toList i bad = true) := by show _ = _; unfold veBad veB; rw [if_neg (by simp [h])]
    rcases (by have := vrB_no h; omega : (ahF s.data.toList i bad : Int) < 49 ∨ (¬ (ahF s.data.toList i bad : Int) < 49 ∧ (57 : Int) < ahF s.data.toList i bad)) with g | ⟨g, g2⟩
    all_goals
      clear h
      go_enter Tryz.func126, Tryz.ntmps126
      go_wp2_with (go_at_call 123; refine (rd_ahead B s i bad _ hs hi HR.out).mono ?_; rintro e w' ⟨rfl, n, rfl⟩)
      go_ret
      exact ⟨ret_int (by rw [HV.out]; rfl), by rw [HI.out, HB.out]; exact (HR.out.drewN n).set2 true, ((Kp.refl B w).drewN _).set _ _⟩

theorem sgB_no {c : Nat} (h : sgB c = false) : ((c : Int) != 61) = true ∧ ((c : Int) != 60) = true ∧ ((c : Int) != 62) = true := by unfold sgB at h; simp at h; simp; omega
theorem sgB_yes {c : Nat} (h : sgB c = true) : c = 61 ∨ c = 60 ∨ c = 62 := by unfold sgB at h; simp at h; omega

set_option maxHeartbeats 800000 in
theorem rd_sign (B : Nat) (s : ByteArray) (i : Nat) (bad : Bool) (w : World) (hs : s.size ≤ 800) (hi : i ≤ s.size) (hr : Rd B w s i bad) :
    Calls Tryz.prog 160 #[.pointer (some ⟨B, 0, none⟩)] w fun e w' => e = .returned (.int .u8 (siV s.data.toList i bad)) ∧ Rd B w' s (siI s.data.toList i bad) bad ∧ Kp B w w' := by
  have HR : Hid (Rd B w s i bad) := hr
  have c1 := hr.c1
  have f1 := hr.f1
  clear hr
  have hle := siI_le s i bad hi
  by_cases h : sgB (ahF s.data.toList i bad) = true
  · have HV : Hid (siV s.data.toList i bad = ahF s.data.toList i bad) := by show _ = _; unfold siV siB; rw [if_pos h]
    have HI : Hid (siI s.data.toList i bad = i + 1) := by show _ = _; unfold siI siB; rw [if_pos h]
    rw [HI.out] at hle
    have g : ((ahF s.data.toList i bad : Int) != 61) = false ∨ (((ahF s.data.toList i bad : Int) != 61) = true ∧ ((ahF s.data.toList i bad : Int) != 60) = false) ∨ (((ahF s.data.toList i bad : Int) != 61) = true ∧ ((ahF s.data.toList i bad : Int) != 60) = true ∧ ((ahF s.data.toList i bad : Int) != 62) = false) := by
      rcases sgB_yes h with e | e | e <;> rw [e] <;> decide
    clear h
    rcases g with g | ⟨g, g2⟩ | ⟨g, g2, g3⟩
    all_goals
      go_enter Tryz.func160, Tryz.ntmps160
      go_wp2_with (go_at_call 123; refine (rd_ahead B s i bad _ hs hi HR.out).mono ?_; rintro e w' ⟨rfl, n, rfl⟩)
      go_ret
      exact ⟨ret_int (by rw [HV.out]), by rw [HI.out]; exact (HR.out.drewN n).set1 (i + 1), ((Kp.refl B w).drewN _).set _ _⟩
  · simp only [Bool.not_eq_true] at h
    have HV : Hid (siV s.data.toList i bad = 0) := by show _ = _; unfold siV siB; rw [if_neg (by simp [h])]
    have HI : Hid (siI s.data.toList i bad = i) := by show _ = _; unfold siI siB; rw [if_neg (by simp [h])]
    obtain ⟨g1, g2, g3⟩ := sgB_no h
    clear h
    go_enter Tryz.func160, Tryz.ntmps160
    go_wp2_with (go_at_call 123; refine (rd_ahead B s i bad _ hs hi HR.out).mono ?_; rintro e w' ⟨rfl, n, rfl⟩)
    go_ret
    exact ⟨ret_int (by rw [HV.out]; rfl), by rw [HI.out]; exact (HR.out.drewN n), ((Kp.refl B w).drewN _)⟩

end Go.Proofs.YtenbnmbbfeekpabGreatDoor

namespace Go.Proofs.YtenbnmbbfeekpabGreatDoor
open Go.RowKit

theorem sz (s : ByteArray) : s.data.toList.length = s.size := by simp

set_option maxHeartbeats 800000 in
theorem rd_mark (B : Nat) (s : ByteArray) (st : St) (w : World) (hs : s.size ≤ 800) (hi : st.1 ≤ s.size) (hr : Rd B w s st.1 st.2) :
    Calls Tryz.prog 127 #[.pointer (some ⟨B, 0, none⟩)] w fun e w' => e = .returned (.int .i64 (mkV s.data.toList st)) ∧ Rd B w' s (mkS s.data.toList st).1 (mkS s.data.toList st).2 ∧ Kp B w w' := by
  obtain ⟨i, bad⟩ := st
  have HR : Hid (Rd B w s i bad) := hr
  replace hi : i ≤ s.size := hi
  clear hr
  have l1 := acI_le s 43 i bad hi
  have l2 := acI_le s 33 _ bad l1
  generalize ht : s.data.toList = t at *
  by_cases h1 : acB t 43 i bad = true
  · by_cases h2 : acB t 33 (acI t 43 i bad) bad = true
    · have HV : Hid (mkV t (i, bad) = 2) := by show _ = _; simp [mkV, acS, h1, h2]
      have HS : Hid (mkS t (i, bad) = (acI t 33 (acI t 43 i bad) bad, bad)) := by show _ = _; simp [mkS, acS, h1, h2]
      subst ht
      go_enter Tryz.func127, Tryz.ntmps127
      go_wp2_with fail
      refine (rd_accept B s i bad 43 43 rfl _ hs hi HR.out).mono ?_
      rintro e w1 ⟨rfl, hr1, hk1⟩
      have HR1 : Hid _ := hr1
      clear hr1
      go_wp2_with fail
      refine (rd_accept B s _ bad 33 33 rfl _ hs l1 HR1.out).mono ?_
      rintro e w2 ⟨rfl, hr2, hk2⟩
      go_wp2
      go_ret
      exact ⟨ret_int (by rw [HV.out]; rfl), by rw [HS.out]; exact hr2, hk1.trans hk2⟩
    · simp only [Bool.not_eq_true] at h2
      by_cases h3 : acB t 94 (acI t 33 (acI t 43 i bad) bad) bad = true
      · have HV : Hid (mkV t (i, bad) = 3) := by show _ = _; simp [mkV, acS, h1, h2, h3]
        have HS : Hid (mkS t (i, bad) = (acI t 94 (acI t 33 (acI t 43 i bad) bad) bad, bad)) := by show _ = _; simp [mkS, acS, h1, h2]
        subst ht
        go_enter Tryz.func127, Tryz.ntmps127
        go_wp2_with fail
        refine (rd_accept B s i bad 43 43 rfl _ hs hi HR.out).mono ?_
        rintro e w1 ⟨rfl, hr1, hk1⟩
        have HR1 : Hid _ := hr1
        clear hr1
        go_wp2_with fail
        refine (rd_accept B s _ bad 33 33 rfl _ hs l1 HR1.out).mono ?_
        rintro e w2 ⟨rfl, hr2, hk2⟩
        have HR2 : Hid _ := hr2
        clear hr2
        go_wp2_with fail
        refine (rd_accept B s _ bad 94 94 rfl _ hs l2 HR2.out).mono ?_
        rintro e w3 ⟨rfl, hr3, hk3⟩
        go_wp2
        go_ret
        exact ⟨ret_int (by rw [HV.out]; rfl), by rw [HS.out]; exact hr3, (hk1.trans hk2).trans hk3⟩
      · simp only [Bool.not_eq_true] at h3
        have HV : Hid (mkV t (i, bad) = 1) := by show _ = _; simp [mkV, acS, h1, h2, h3]
        have HS : Hid (mkS t (i, bad) = (acI t 94 (acI t 33 (acI t 43 i bad) bad) bad, bad)) := by show _ = _; simp [mkS, acS, h1, h2]
        subst ht
        go_enter Tryz.func127, Tryz.ntmps127
        go_wp2_with fail
        refine (rd_accept B s i bad 43 43 rfl _ hs hi HR.out).mono ?_
        rintro e w1 ⟨rfl, hr1, hk1⟩
        have HR1 : Hid _ := hr1
        clear hr1
        go_wp2_with fail
        refine (rd_accept B s _ bad 33 33 rfl _ hs l1 HR1.out).mono ?_
        rintro e w2 ⟨rfl, hr2, hk2⟩
        have HR2 : Hid _ := hr2
        clear hr2
        go_wp2_with fail
        refine (rd_accept B s _ bad 94 94 rfl _ hs l2 HR2.out).mono ?_
        rintro e w3 ⟨rfl, hr3, hk3⟩
        go_wp2
        go_ret
        exact ⟨ret_int (by rw [HV.out]; rfl), by rw [HS.out]; exact hr3, (hk1.trans hk2).trans hk3⟩
  · simp only [Bool.not_eq_true] at h1
    have HV : Hid (mkV t (i, bad) = 0) := by show _ = _; simp [mkV, h1]
    have HS : Hid (mkS t (i, bad) = (acI t 43 i bad, bad)) := by show _ = _; simp [mkS, acS, h1]
    subst ht
    go_enter Tryz.func127, Tryz.ntmps127
    go_wp2_with fail
    refine (rd_accept B s i bad 43 43 rfl _ hs hi HR.out).mono ?_
    rintro e w1 ⟨rfl, hr1, hk1⟩
    go_wp2
    go_ret
    exact ⟨ret_int (by rw [HV.out]; rfl), by rw [HS.out]; exact hr1, hk1⟩

theorem mkS_le (s : ByteArray) (st : St) (hi : st.1 ≤ s.size) : (mkS s.data.toList st).1 ≤ s.size := by
  have l1 := acI_le s 43 st.1 st.2 hi
  have l2 := acI_le s 33 _ st.2 l1
  have l3 := acI_le s 94 _ st.2 l2
  unfold mkS
  split
  · split
    · exact l2
    · exact l3
  · exact l1

def cnVal (c : Cn) : Value := .agg #[.int .u8 c.n, .int .u8 c.s, .int .u8 c.v]

set_option maxHeartbeats 800000 in
theorem rd_constraint (B : Nat) (s : ByteArray) (st : St) (w : World) (hs : s.size ≤ 800) (hi : st.1 ≤ s.size) (hr : Rd B w s st.1 st.2) :
    Calls Tryz.prog 148 #[.pointer (some ⟨B, 0, none⟩)] w fun e w' => e = .returned (cnVal (cnV s.data.toList st)) ∧ Rd B w' s (cnS s.data.toList st).1 (cnS s.data.toList st).2 ∧ Kp B w w' := by
  obtain ⟨i, bad⟩ := st
  have HR : Hid (Rd B w s i bad) := hr
  replace hi : i ≤ s.size := hi
  have hB := hr.lt
  clear hr
  have l1 := naI_le s i bad hi
  have l2 := siI_le s _ (naBad s.data.toList i bad) l1
  have HF : Hid (Fr B w _ 185 #[.int .u8 0, .int .u8 0, .int .u8 0] #[.int .u8 0, .int .u8 0, .int .u8 0] s (i, bad)) := Fr.start (st := (i, bad)) HR.out 185 #[.int .u8 0, .int .u8 0, .int .u8 0]
  clear HR
  go_enter Tryz.func148, Tryz.ntmps148
  go_wp2_with fail
  refine (rd_name B s i bad _ hs hi HF.out.rd).mono ?_
  rintro e w1 ⟨rfl, hr1, hk1⟩
  have h1 := HF.out.call (st' := naS s.data.toList (i, bad)) hr1 hk1
  have c0 : w1.cell? ⟨w.heap.size + 1, 0, none⟩ = some (.int .u8 0) := h1.c 0 rfl
  have f0 := h1.f 0
  have HF1 : Hid (Fr B w _ 185 #[.int .u8 0, .int .u8 0, .int .u8 0] #[.int .u8 (naV s.data.toList i bad), .int .u8 0, .int .u8 0] s (naS s.data.toList (i, bad))) := h1.store 0 (.int .u8 (naV s.data.toList i bad))
  clear HF h1 hr1 hk1
  go_wp2_with fail
  refine (rd_sign B s (naI s.data.toList i bad) (naBad s.data.toList i bad) _ hs l1 HF1.out.rd).mono ?_
  rintro e w2 ⟨rfl, hr2, hk2⟩
  have h2 := HF1.out.call (st' := siS s.data.toList (naS s.data.toList (i, bad))) hr2 hk2
  clear HF1 hr2 hk2 c0 f0
  by_cases hz : siV s.data.toList (naI s.data.toList i bad) (naBad s.data.toList i bad) = 0
  · have hz' : ((siV s.data.toList (naI s.data.toList i bad) (naBad s.data.toList i bad) : Int) != 0) = false := by rw [bne_eq_false_iff_eq]; omega
    have c0 : w2.cell? ⟨w.heap.size + 1, 0, none⟩ = some (.int .u8 (naV s.data.toList i bad)) := h2.c 0 rfl
    have c1 : w2.cell? ⟨w.heap.size + 1, 1, none⟩ = some (.int .u8 0) := h2.c 1 rfl
    have c2 : w2.cell? ⟨w.heap.size + 1, 2, none⟩ = some (.int .u8 0) := h2.c 2 rfl
    have d0 : w2.cell? ⟨w.heap.size, 0, none⟩ = some (.int .u8 0) := h2.c' 0 rfl
    have d1 : w2.cell? ⟨w.heap.size, 1, none⟩ = some (.int .u8 0) := h2.c' 1 rfl
    have d2 : w2.cell? ⟨w.heap.size, 2, none⟩ = some (.int .u8 0) := h2.c' 2 rfl
    have f0 := h2.f 0
    have f1 := h2.f 1
    have f2 := h2.f 2
    have e0 := h2.f' 0
    have e1 := h2.f' 1
    have e2 := h2.f' 2
    have HF2 : Hid (Fr B w w2 185 #[.int .u8 0, .int .u8 0, .int .u8 0] #[.int .u8 (naV s.data.toList i bad), .int .u8 0, .int .u8 0] s (siS s.data.toList (naS s.data.toList (i, bad)))) := h2
    have HV : Hid (cnV s.data.toList (i, bad) = { n := naV s.data.toList i bad, s := siV s.data.toList (naI s.data.toList i bad) (naBad s.data.toList i bad), v := 0 }) := by show _ = _; simp [cnV, naS, hz]
    have HS : Hid (cnS s.data.toList (i, bad) = siS s.data.toList (naS s.data.toList (i, bad))) := by show _ = _; simp [cnS, naS, hz]
    clear hz h2
    go_wp2
    refine bodyPost_ret (v := .agg #[.int .u8 (naV s.data.toList i bad), .int .u8 (siV s.data.toList (naI s.data.toList i bad) (naBad s.data.toList i bad)), .int .u8 0]) ?_ rfl ⟨?_, ?_, ?_⟩
    · simp [results, Tryz.results148, go_sem, d0, d1, d2]
    · rw [HV.out]; rfl
    · rw [HS.out]
      exact (Rd.setNew (Rd.setNew (Rd.setNew (Rd.setNew HF2.out.rd (by simp <;> omega) _) (by simp <;> omega) _) (by simp <;> omega) _) (by simp <;> omega) _)
    · exact (Kp.setNew (Kp.setNew (Kp.setNew (Kp.setNew HF2.out.kp (by simp) _) (by simp) _) (by simp) _) (by simp) _)
  · have hz' : ((siV s.data.toList (naI s.data.toList i bad) (naBad s.data.toList i bad) : Int) != 0) = true := by rw [bne_iff_ne]; omega
    have HV : Hid (cnV s.data.toList (i, bad) = { n := naV s.data.toList i bad, s := siV s.data.toList (naI s.data.toList i bad) (naBad s.data.toList i bad), v := veV s.data.toList (siI s.data.toList (naI s.data.toList i bad) (naBad s.data.toList i bad)) (naBad s.data.toList i bad) }) := by show _ = _; simp [cnV, naS, siS, hz]
    have HS : Hid (cnS s.data.toList (i, bad) = veS s.data.toList (siS s.data.toList (naS s.data.toList (i, bad)))) := by show _ = _; simp [cnS, naS, hz]
    have c1 : w2.cell? ⟨w.heap.size + 1, 1, none⟩ = some (.int .u8 0) := h2.c 1 rfl
    have f1 := h2.f 1
    have HF2 : Hid (Fr B w _ 185 #[.int .u8 0, .int .u8 0, .int .u8 0] #[.int .u8 (naV s.data.toList i bad), .int .u8 (siV s.data.toList (naI s.data.toList i bad) (naBad s.data.toList i bad)), .int .u8 0] s (siS s.data.toList (naS s.data.toList (i, bad)))) := h2.store 1 (.int .u8 (siV s.data.toList (naI s.data.toList i bad) (naBad s.data.toList i bad)))
    clear hz h2
    go_wp2_with fail
    refine (rd_version B s (siI s.data.toList (naI s.data.toList i bad) (naBad s.data.toList i bad)) (naBad s.data.toList i bad) _ hs l2 HF2.out.rd).mono ?_
    rintro e w3 ⟨rfl, hr3, hk3⟩
    have h3 := HF2.out.call (st' := veS s.data.toList (siS s.data.toList (naS s.data.toList (i, bad)))) hr3 hk3
    clear HF2 c1 f1 hr3 hk3
    have c0 : w3.cell? ⟨w.heap.size + 1, 0, none⟩ = some (.int .u8 (naV s.data.toList i bad)) := h3.c 0 rfl
    have c1 : w3.cell? ⟨w.heap.size + 1, 1, none⟩ = some (.int .u8 (siV s.data.toList (naI s.data.toList i bad) (naBad s.data.toList i bad))) := h3.c 1 rfl
    have c2 : w3.cell? ⟨w.heap.size + 1, 2, none⟩ = some (.int .u8 0) := h3.c 2 rfl
    have d0 : w3.cell? ⟨w.heap.size, 0, none⟩ = some (.int .u8 0) := h3.c' 0 rfl
    have d1 : w3.cell? ⟨w.heap.size, 1, none⟩ = some (.int .u8 0) := h3.c' 1 rfl
    have d2 : w3.cell? ⟨w.heap.size, 2, none⟩ = some (.int .u8 0) := h3.c' 2 rfl
    have f0 := h3.f 0
    have f1 := h3.f 1
    have f2 := h3.f 2
    have e0 := h3.f' 0
    have e1 := h3.f' 1
    have e2 := h3.f' 2
    have HF3 : Hid (Fr B w w3 185 #[.int .u8 0, .int .u8 0, .int .u8 0] #[.int .u8 (naV s.data.toList i bad), .int .u8 (siV s.data.toList (naI s.data.toList i bad) (naBad s.data.toList i bad)), .int .u8 0] s (veS s.data.toList (siS s.data.toList (naS s.data.toList (i, bad))))) := h3
    clear h3
    go_wp2
    refine bodyPost_ret (v := .agg #[.int .u8 (naV s.data.toList i bad), .int .u8 (siV s.data.toList (naI s.data.toList i bad) (naBad s.data.toList i bad)), .int .u8 (veV s.data.toList (siI s.data.toList (naI s.data.toList i bad) (naBad s.data.toList i bad)) (naBad s.data.toList i bad))]) ?_ rfl ⟨?_, ?_, ?_⟩
    · simp [results, Tryz.results148, go_sem, d0, d1, d2]
    · rw [HV.out]; rfl
    · rw [HS.out]
      exact (Rd.setNew (Rd.setNew (Rd.setNew (Rd.setNew HF3.out.rd (by simp <;> omega) _) (by simp <;> omega) _) (by simp <;> omega) _) (by simp <;> omega) _)
    · exact (Kp.setNew (Kp.setNew (Kp.setNew (Kp.setNew HF3.out.kp (by simp) _) (by simp) _) (by simp) _) (by simp) _)

theorem cnS_le (s : ByteArray) (st : St) (hi : st.1 ≤ s.size) : (cnS s.data.toList st).1 ≤ s.size := by
  have l1 := naI_le s st.1 st.2 hi
  have l2 := siI_le s _ (naBad s.data.toList st.1 st.2) l1
  have l3 := veI_le s _ (naBad s.data.toList st.1 st.2) l2
  unfold cnS
  split
  · exact l2
  · exact l3
end Go.Proofs.YtenbnmbbfeekpabGreatDoor

namespace Go.Proofs.YtenbnmbbfeekpabGreatDoor
open Go.RowKit

theorem Tryz.infoCn : (Tryz.prog.info? 185).map (fun i => (i.zero, i.size, i.bytes)) = some (some (.agg #[.int .u8 0, .int .u8 0, .int .u8 0]), 3, 3) := by kernel_rfl

/-- What holds at the head of a round of a list of constraints. -/
structure ApR (B : Nat) (w wr : World) (s : ByteArray) (x : Nat) (st0 : St) (gk : Nat) (o : Value) (b : Bool) (acc : List Cn) (st : St) : Prop where
  le : st.1 ≤ s.size
  rd : Rd B wr s st.1 st.2
  own : wr.ownsRow w.heap.size 185 3 o acc.length (cnFlat acc)
  kp : Kp B w wr
  yes : b = true → apT s.data.toList x st0 = (acc ++ (apF s.data.toList x gk st).1, (apF s.data.toList x gk st).2) ∧ s.size - st.1 < gk ∧ acc.length ≤ st.1
  no : b = false → apT s.data.toList x st0 = (acc, st) ∧ acc.length ≤ st.1 + 1

theorem apR_step {B : Nat} {w wr w2 : World} {s : ByteArray} {x : Nat} {st0 : St} {gk : Nat} {o v' : Value} {acc : List Cn} {st : St} (h : ApR B w wr s x st0 gk o true acc st)
    (own : w2.ownsRow w.heap.size 185 3 v' (acc.length + 1) (cnFlat acc ++ cnCells (cnV s.data.toList st)))
    (rd : Rd B w2 s (acI s.data.toList x (cnS s.data.toList st).1 (cnS s.data.toList st).2) (cnS s.data.toList st).2) (kp : Kp B w w2) :
    ApR B w w2 s x st0 (gk - 1) v' (acB s.data.toList x (cnS s.data.toList st).1 (cnS s.data.toList st).2) (acc ++ [cnV s.data.toList st]) (acS s.data.toList x (cnS s.data.toList st)) := by
  obtain ⟨hy, hg, ha⟩ := h.yes rfl
  have hle := acI_le s x (cnS s.data.toList st).1 (cnS s.data.toList st).2 (cnS_le s st h.le)
  have hge := cnS_ge s.data.toList st
  obtain ⟨f, rfl⟩ : ∃ f, gk = f + 1 := ⟨gk - 1, by omega⟩
  refine ⟨hle, rd, ?_, kp, fun hb => ?_, fun hb => ?_⟩
  · rw [cnFlat_snoc]; simpa using own
  · have := acI_yes hb
    rw [apF_yes hb] at hy
    refine ⟨by rw [hy]; simp, ?_, ?_⟩
    · simp only [acS, this] at hle ⊢; omega
    · simp only [acS, this, List.length_append, List.length_cons, List.length_nil]; omega
  · have := acI_no hb
    rw [apF_no hb] at hy
    refine ⟨by rw [hy], ?_⟩
    simp only [acS, this, List.length_append, List.length_cons, List.length_nil]; omega

set_option maxHeartbeats 1600000 in
set_option maxRecDepth 100000 in
theorem rd_apart (B : Nat) (s : ByteArray) (st0 : St) (x : Nat) (xi : Int) (hx : xi = (x : Int)) (w : World) (hs : s.size ≤ 800) (hi : st0.1 ≤ s.size) (hr : Rd B w s st0.1 st0.2) :
    Calls Tryz.prog 131 #[.pointer (some ⟨B, 0, none⟩), .int .u8 xi] w fun e w' => ∃ v, e = .returned v ∧
      w'.ownsRow w.heap.size 185 3 v (apT s.data.toList x st0).1.length (cnFlat (apT s.data.toList x st0).1) ∧
      Rd B w' s (apT s.data.toList x st0).2.1 (apT s.data.toList x st0).2.2 ∧ Kp B w w' ∧
      (apT s.data.toList x st0).2.1 ≤ s.size ∧ (apT s.data.toList x st0).1.length ≤ 801 := by
  have HX : Hid (xi = (x : Int)) := hx
  clear hx
  obtain ⟨i0, hi0, hz0, hz1, hz2⟩ := info_parts Tryz.infoCn
  have HR : Hid (Rd B w s st0.1 st0.2) := hr
  have hB := hr.lt
  clear hr
  go_enter Tryz.func131, Tryz.ntmps131
  go_wp2
  go_loopg [5, 6] (s.size + 2) (fun gk o m wr => ∃ (b : Bool) (acc : List Cn) (st : St), m = .bool b ∧ ApR B w wr s x st0 gk o b acc st)
  case atStart => exact ⟨true, [], st0, rfl, hi, HR.out, World.ownsRow_nil _ _ _ _, Kp.refl _ _, fun _ => ⟨by rw [show s.size = s.data.toList.length from (sz s).symm]; simp [apT], by omega, by simp⟩, fun h => by cases h⟩
  case round =>
    obtain ⟨b, acc, st, rfl, hA⟩ := hrel
    have HA : Hid (ApR B w wr s x st0 gk _ b acc st) := hA
    cases b
    · clear hA
      go_wp2
      go_ret
      obtain ⟨h1, h2⟩ := HA.out.no rfl
      rw [h1]
      exact ⟨_, rfl, HA.out.own, HA.out.rd, HA.out.kp, HA.out.le, by have := HA.out.le; show acc.length ≤ 801; omega⟩
    · have hle := hA.le
      have hal := (hA.yes rfl).2.2
      have hgk := (hA.yes rfl).2.1
      clear hA
      go_wp2_with fail
      refine (rd_constraint B s st _ hs hle HA.out.rd).mono ?_
      rintro e w1 ⟨rfl, hr1, hk1⟩
      have hown := own_kp HA.out.own hk1 hB
      have hsz1 : w.heap.size ≤ w1.heap.size := (HA.out.kp.trans hk1).size
      have HR1 : Hid (Rd B w1 s (cnS s.data.toList st).1 (cnS s.data.toList st).2) := hr1
      have HK1 : Hid (Kp B w w1) := HA.out.kp.trans hk1
      clear hr1 hk1
      unfold cnVal
      go_wp2_with (at_builtin; refine wpList_append_own _ rfl _ _ 61 rfl w.heap.size 185 i0 (.agg #[.int .u8 0, .int .u8 0, .int .u8 0]) 3 3 Tryz.underlying61 hi0 hz0 hz1 hz2 rfl (by decide) _ _ _ rfl ((hown.alloc _).alloc _) ⟨w1.heap.size + 1, 0, none⟩ 1 1 (cnCells (cnV s.data.toList st)) rfl rfl ?c1 ?c2 ?c3 ?c4 ?c5 ?_)
      case c1 => have := cell_new (w1.alloc (.cells (cnCells (cnV s.data.toList st)).toArray 185)) (cnCells (cnV s.data.toList st)) 185; rw [World.size_alloc] at this; exact this
      case c2 => intro u hu; simp [cnCells] at hu; rcases hu with rfl | rfl | rfl <;> rfl
      case c3 => unfold maxLen; omega
      case c4 => omega
      case c5 => simp; omega
      intro v' w2 hown' hgrow _
      have HR2 : Hid (Rd B w2 s (cnS s.data.toList st).1 (cnS s.data.toList st).2) := ((HR1.out.alloc _).alloc _).grown hgrow (fun e => by have := (hown.lt B e).1; omega)
      have HK2 : Hid (Kp B w w2) := Kp.grown ((HK1.out.alloc _).alloc _) hgrow (fun k hk => (hown.lt k hk).1)
      have HO2 : Hid _ := hown'
      clear hown' hgrow hown HR1 HK1
      go_wp2_with fail
      refine (rd_accept B s (cnS s.data.toList st).1 (cnS s.data.toList st).2 x _ HX.out _ hs (cnS_le s st hle) HR2.out).mono ?_
      rintro e w3 ⟨rfl, hr3, hk3⟩
      have HR3 : Hid _ := apR_step HA.out (own_kp HO2.out hk3 hB) hr3 (HK2.out.trans hk3)
      clear HA hr3 hk3 HR2 HK2 HO2
      go_wp2
      go_roundg (gk - 1)
      case measure => omega
      case rel => exact ⟨_, _, _, rfl, HR3.out⟩

end Go.Proofs.YtenbnmbbfeekpabGreatDoor

namespace Go.Proofs.YtenbnmbbfeekpabGreatDoor
open Go.RowKit

theorem Tryz.infoNd : (Tryz.prog.info? 183).map (fun i => (i.zero, i.size, i.bytes)) = some (some (.agg #[.slice none 0 0]), 1, 24) := by kernel_rfl
theorem Tryz.infoU8 : (Tryz.prog.info? 5).map (fun i => (i.zero, i.size, i.bytes)) = some (some (.int .u8 0), 1, 1) := by kernel_rfl

set_option maxHeartbeats 400000 in
theorem rd_constraints (B : Nat) (s : ByteArray) (st : St) (w : World) (hs : s.size ≤ 800) (hi : st.1 ≤ s.size) (hr : Rd B w s st.1 st.2) :
    Calls Tryz.prog 93 #[.pointer (some ⟨B, 0, none⟩)] w fun e w' => ∃ v, e = .returned v ∧ CsAt B w' v (csF s.data.toList st).1 ∧
      Rd B w' s (csF s.data.toList st).2.1 (csF s.data.toList st).2.2 ∧ Kp B w w' ∧ (csF s.data.toList st).2.1 ≤ s.size ∧ (csF s.data.toList st).1.length ≤ 801 := by
  have HR : Hid (Rd B w s st.1 st.2) := hr
  have hB := hr.lt
  clear hr
  by_cases h : naB s.data.toList st.1 st.2 = true
  · have HC : Hid (csF s.data.toList st = apT s.data.toList 44 st) := by show _ = _; unfold csF; rw [if_pos h]
    go_enter Tryz.func93, Tryz.ntmps93
    go_wp2_with (go_at_call 90; refine (rd_nameAhead B s st.1 st.2 _ hs hi HR.out).mono ?_; rintro e w' ⟨rfl, n, rfl⟩)
    go_wp2_with fail
    refine (rd_apart B s st 44 44 rfl _ hs hi (HR.out.drewN n)).mono ?_
    rintro e w1 ⟨v, rfl, ho, hr1, hk1, hl1, hn1⟩
    go_wp2
    go_ret
    refine ⟨v, rfl, ?_⟩
    rw [HC.out]
    exact ⟨own_mono ho (show B + 1 ≤ w.heap.size from hB), hr1, (((Kp.refl B w).drewN n).trans hk1), hl1, hn1⟩
  · simp only [Bool.not_eq_true] at h
    have HC : Hid (csF s.data.toList st = ([], st)) := by show _ = _; unfold csF; rw [if_neg (by simp [h])]
    go_enter Tryz.func93, Tryz.ntmps93
    go_wp2_with (go_at_call 90; refine (rd_nameAhead B s st.1 st.2 _ hs hi HR.out).mono ?_; rintro e w' ⟨rfl, n, rfl⟩)
    go_ret
    refine ⟨_, rfl, ?_⟩
    rw [HC.out]
    exact ⟨World.ownsRow_nil _ _ _ _, HR.out.drewN n, (Kp.refl B w).drewN n, hi, by simp⟩

structure NdR (B : Nat) (w wr : World) (s : ByteArray) (st0 : St) (gk : Nat) (o : Value) (b : Bool) (acc : List (List Cn)) (vs : List Value) (st : St) : Prop where
  le : st.1 ≤ s.size
  rd : Rd B wr s st.1 st.2
  own : wr.ownsRow w.heap.size 183 1 o acc.length vs
  all : All2 (CsAt B wr) vs acc
  kp : Kp B w wr
  eq : neF s.data.toList st0 = (acc ++ (ndF s.data.toList gk b st).1, (ndF s.data.toList gk b st).2)
  yes : b = true → s.size - st.1 < gk ∧ acc.length ≤ st.1
  no : acc.length ≤ st.1 + 1

theorem ndR_step {B : Nat} {w wr w2 : World} {s : ByteArray} {st0 : St} {gk : Nat} {o v' v : Value} {acc : List (List Cn)} {vs : List Value} {st : St} (h : NdR B w wr s st0 gk o true acc vs st)
    (own : w2.ownsRow w.heap.size 183 1 v' (acc.length + 1) (vs ++ [v])) (all : All2 (CsAt B w2) (vs ++ [v]) (acc ++ [(apT s.data.toList 124 st).1]))
    (hle : (apT s.data.toList 124 st).2.1 ≤ s.size)
    (rd : Rd B w2 s (acI s.data.toList 44 (apT s.data.toList 124 st).2.1 (apT s.data.toList 124 st).2.2) (apT s.data.toList 124 st).2.2) (kp : Kp B w w2) :
    NdR B w w2 s st0 (gk - 1) v' (acB s.data.toList 44 (apT s.data.toList 124 st).2.1 (apT s.data.toList 124 st).2.2) (acc ++ [(apT s.data.toList 124 st).1]) (vs ++ [v]) (acS s.data.toList 44 (apT s.data.toList 124 st).2) := by
  obtain ⟨hg, ha⟩ := h.yes rfl
  have hge := apT_ge s.data.toList 124 st
  have hle' := acI_le s 44 _ (apT s.data.toList 124 st).2.2 hle
  have hge' := acI_ge s.data.toList 44 (apT s.data.toList 124 st).2.1 (apT s.data.toList 124 st).2.2
  obtain ⟨f, rfl⟩ : ∃ f, gk = f + 1 := ⟨gk - 1, by omega⟩
  have hy := h.eq
  rw [ndF_yes] at hy
  refine ⟨hle', rd, by simpa using own, all, kp, by rw [hy]; simp, fun hb => ?_, ?_⟩
  · have := acI_yes hb
    simp only [acS, this, List.length_append, List.length_cons, List.length_nil] at hle' ⊢
    omega
  · simp only [acS, List.length_append, List.length_cons, List.length_nil]
    omega

set_option maxHeartbeats 1600000 in
set_option maxRecDepth 100000 in
theorem rd_needs (B : Nat) (s : ByteArray) (st0 : St) (w : World) (hs : s.size ≤ 800) (hi : st0.1 ≤ s.size) (hr : Rd B w s st0.1 st0.2) :
    Calls Tryz.prog 128 #[.pointer (some ⟨B, 0, none⟩)] w fun e w' => ∃ v, e = .returned v ∧ NsAt B w' v (neF s.data.toList st0).1 ∧
      Rd B w' s (neF s.data.toList st0).2.1 (neF s.data.toList st0).2.2 ∧ Kp B w w' ∧ (neF s.data.toList st0).2.1 ≤ s.size ∧ (neF s.data.toList st0).1.length ≤ 801 := by
  obtain ⟨i0, hi0, hz0, hz1, hz2⟩ := info_parts Tryz.infoNd
  have HR : Hid (Rd B w s st0.1 st0.2) := hr
  have hB := hr.lt
  clear hr
  go_enter Tryz.func128, Tryz.ntmps128
  go_wp2_with (go_at_call 90; refine (rd_nameAhead B s st0.1 st0.2 _ hs hi HR.out).mono ?_; rintro e w' ⟨rfl, n, rfl⟩)
  go_loopg [3, 4] (s.size + 2) (fun gk o m wr => ∃ (b : Bool) (acc : List (List Cn)) (vs : List Value) (st : St), m = .bool b ∧ NdR B w wr s st0 gk o b acc vs st)
  case atStart => exact ⟨_, [], [], st0, rfl, hi, HR.out.drewN n, World.ownsRow_nil _ _ _ _, trivial, (Kp.refl _ _).drewN n, by rw [show s.size = s.data.toList.length from (sz s).symm]; simp [neF], fun _ => ⟨by omega, by simp⟩, by simp⟩
  case round =>
    obtain ⟨b, acc, vs, st, rfl, hA⟩ := hrel
    have HA : Hid (NdR B w wr s st0 gk _ b acc vs st) := hA
    cases b
    · clear hA
      go_wp2
      go_ret
      have h1 := HA.out.eq
      rw [ndF_no] at h1
      rw [h1]
      refine ⟨_, rfl, ⟨vs, ?_, ?_⟩, HA.out.rd, HA.out.kp, HA.out.le, ?_⟩
      · simpa using own_mono HA.out.own (by omega)
      · simpa using HA.out.all
      · have := HA.out.le; have := HA.out.no; simp; omega
    · have hle := hA.le
      have hal := (hA.yes rfl).2
      have hgk := (hA.yes rfl).1
      clear hA
      go_wp2_with fail
      refine (rd_apart B s st 124 124 rfl _ hs hle HA.out.rd).mono ?_
      rintro e w1 ⟨v, rfl, ho1, hr1, hk1, hl1, hn1⟩
      have hwr := HA.out.kp.size
      have hown := own_kp HA.out.own hk1 hB
      have HC1 : Hid (CsAt B w1 v (apT s.data.toList 124 st).1) := own_mono ho1 (by omega)
      have HO1 : Hid (All2 (CsAt B w1) vs acc) := HA.out.all.mono fun _ _ h => h.kp hk1
      have hsz1 : w.heap.size ≤ w1.heap.size := (HA.out.kp.trans hk1).size
      have HR1 : Hid (Rd B w1 s (apT s.data.toList 124 st).2.1 (apT s.data.toList 124 st).2.2) := hr1
      have HK1 : Hid (Kp B w w1) := HA.out.kp.trans hk1
      obtain ⟨ao, nn, cc, hv⟩ : ∃ ao nn cc, v = .slice ao nn cc := by
        rcases ho1.2 with ⟨rfl, _⟩ | ⟨g, cap, cur, rfl, _⟩
        · exact ⟨_, _, _, rfl⟩
        · exact ⟨_, _, _, rfl⟩
      subst hv
      clear hr1 hk1 ho1
      go_wp2_with (at_builtin; refine wpList_append_own _ rfl _ _ 138 rfl w.heap.size 183 i0 (.agg #[.slice none 0 0]) 1 24 Tryz.underlying138 hi0 hz0 hz1 hz2 rfl (by decide) _ _ _ rfl (hown.alloc _) ⟨w1.heap.size, 0, none⟩ 1 1 [.slice ao nn cc] rfl rfl ?c1 ?c2 ?c3 ?c4 ?c5 ?_)
      case c1 => exact cell_one_new _ _ _
      case c2 => intro u hu; simp at hu; subst hu; rfl
      case c3 => unfold maxLen; omega
      case c4 => omega
      case c5 => simp; omega
      intro v' w2 hown' hgrow _
      have HR2 : Hid (Rd B w2 s (apT s.data.toList 124 st).2.1 (apT s.data.toList 124 st).2.2) := (HR1.out.alloc _).grown hgrow (fun e => by have := (hown.lt B e).1; omega)
      have HK2 : Hid (Kp B w w2) := Kp.grown (HK1.out.alloc _) hgrow (fun k hk => (hown.lt k hk).1)
      have HL2 : Hid (All2 (CsAt B w2) (vs ++ [.slice ao nn cc]) (acc ++ [(apT s.data.toList 124 st).1])) :=
        All2.snoc ((HC1.out.alloc _).other (hown.alloc _) (by decide) hgrow) (HO1.out.mono fun _ _ h => (h.alloc _).other (hown.alloc _) (by decide) hgrow)
      have HO2 : Hid _ := hown'
      clear hown' hgrow hown HR1 HK1 HC1 HO1
      go_wp2_with fail
      refine (rd_accept B s (apT s.data.toList 124 st).2.1 (apT s.data.toList 124 st).2.2 44 44 rfl _ hs hl1 HR2.out).mono ?_
      rintro e w3 ⟨rfl, hr3, hk3⟩
      have HR3 : Hid _ := ndR_step HA.out (own_kp HO2.out hk3 hB) (HL2.out.mono fun _ _ h => h.kp hk3) hl1 hr3 (HK2.out.trans hk3)
      clear HA hr3 hk3 HR2 HK2 HO2 HL2
      go_wp2
      go_roundg (gk - 1)
      case measure => omega
      case rel => exact ⟨_, _, _, _, rfl, HR3.out⟩

end Go.Proofs.YtenbnmbbfeekpabGreatDoor

namespace Go.Proofs.YtenbnmbbfeekpabGreatDoor
open Go.RowKit

structure NmR (B : Nat) (w wr : World) (s : ByteArray) (st0 : St) (gk : Nat) (o : Value) (b : Bool) (acc : List Nat) (st : St) : Prop where
  le : st.1 ≤ s.size
  rd : Rd B wr s st.1 st.2
  own : wr.ownsRow w.heap.size 5 1 o acc.length (acc.map fun (c : Nat) => .int .u8 (c : Int))
  kp : Kp B w wr
  eq : nmsF s.data.toList st0 = (acc ++ (nsF s.data.toList gk b st).1, (nsF s.data.toList gk b st).2)
  yes : b = true → s.size - st.1 < gk ∧ acc.length ≤ st.1
  no : acc.length ≤ st.1 + 1

theorem nmR_step {B : Nat} {w wr w2 : World} {s : ByteArray} {st0 : St} {gk : Nat} {o v' : Value} {acc : List Nat} {st : St} (h : NmR B w wr s st0 gk o true acc st)
    (own : w2.ownsRow w.heap.size 5 1 v' (acc.length + 1) ((acc.map fun (c : Nat) => .int .u8 (c : Int)) ++ [.int .u8 (naV s.data.toList st.1 st.2)]))
    (rd : Rd B w2 s (acI s.data.toList 44 (naS s.data.toList st).1 (naS s.data.toList st).2) (naS s.data.toList st).2) (kp : Kp B w w2) :
    NmR B w w2 s st0 (gk - 1) v' (acB s.data.toList 44 (naS s.data.toList st).1 (naS s.data.toList st).2) (acc ++ [naV s.data.toList st.1 st.2]) (acS s.data.toList 44 (naS s.data.toList st)) := by
  obtain ⟨hg, ha⟩ := h.yes rfl
  have hge : st.1 ≤ (naS s.data.toList st).1 := naI_ge s.data.toList st.1 st.2
  have hle : (naS s.data.toList st).1 ≤ s.size := naI_le s st.1 st.2 h.le
  have hle' := acI_le s 44 _ (naS s.data.toList st).2 hle
  have hge' := acI_ge s.data.toList 44 (naS s.data.toList st).1 (naS s.data.toList st).2
  obtain ⟨f, rfl⟩ : ∃ f, gk = f + 1 := ⟨gk - 1, by omega⟩
  have hy := h.eq
  rw [nsF_yes] at hy
  refine ⟨hle', rd, by simpa using own, kp, by rw [hy]; simp, fun hb => ?_, ?_⟩
  · have := acI_yes hb
    simp only [acS, this, List.length_append, List.length_cons, List.length_nil] at hle' ⊢
    omega
  · simp only [acS, List.length_append, List.length_cons, List.length_nil]
    omega

set_option maxHeartbeats 1600000 in
set_option maxRecDepth 100000 in
theorem rd_names (B : Nat) (s : ByteArray) (st0 : St) (w : World) (hs : s.size ≤ 800) (hi : st0.1 ≤ s.size) (hr : Rd B w s st0.1 st0.2) :
    Calls Tryz.prog 129 #[.pointer (some ⟨B, 0, none⟩)] w fun e w' => ∃ v, e = .returned v ∧ BsAt B w' v (nmsF s.data.toList st0).1 ∧
      Rd B w' s (nmsF s.data.toList st0).2.1 (nmsF s.data.toList st0).2.2 ∧ Kp B w w' ∧ (nmsF s.data.toList st0).2.1 ≤ s.size ∧ (nmsF s.data.toList st0).1.length ≤ 801 := by
  obtain ⟨i0, hi0, hz0, hz1, hz2⟩ := info_parts Tryz.infoU8
  have HR : Hid (Rd B w s st0.1 st0.2) := hr
  have hB := hr.lt
  clear hr
  go_enter Tryz.func129, Tryz.ntmps129
  go_wp2_with (go_at_call 90; refine (rd_nameAhead B s st0.1 st0.2 _ hs hi HR.out).mono ?_; rintro e w' ⟨rfl, n, rfl⟩)
  go_loopg [3, 4] (s.size + 2) (fun gk o m wr => ∃ (b : Bool) (acc : List Nat) (st : St), m = .bool b ∧ NmR B w wr s st0 gk o b acc st)
  case atStart => exact ⟨_, [], st0, rfl, hi, HR.out.drewN n, World.ownsRow_nil _ _ _ _, (Kp.refl _ _).drewN n, by rw [show s.size = s.data.toList.length from (sz s).symm]; simp [nmsF], fun _ => ⟨by omega, by simp⟩, by simp⟩
  case round =>
    obtain ⟨b, acc, st, rfl, hA⟩ := hrel
    have HA : Hid (NmR B w wr s st0 gk _ b acc st) := hA
    cases b
    · clear hA
      go_wp2
      go_ret
      have h1 := HA.out.eq
      rw [nsF_no] at h1
      rw [h1]
      refine ⟨_, rfl, ?_, HA.out.rd, HA.out.kp, HA.out.le, ?_⟩
      · unfold BsAt; simpa using own_mono HA.out.own (show B + 1 ≤ w.heap.size from hB)
      · have := HA.out.le; have := HA.out.no; simp; omega
    · have hle := hA.le
      have hal := (hA.yes rfl).2
      have hgk := (hA.yes rfl).1
      clear hA
      go_wp2_with fail
      refine (rd_name B s st.1 st.2 _ hs hle HA.out.rd).mono ?_
      rintro e w1 ⟨rfl, hr1, hk1⟩
      have hwr := HA.out.kp.size
      have hown := own_kp HA.out.own hk1 hB
      have hsz1 : w.heap.size ≤ w1.heap.size := (HA.out.kp.trans hk1).size
      have HR1 : Hid (Rd B w1 s (naS s.data.toList st).1 (naS s.data.toList st).2) := hr1
      have HK1 : Hid (Kp B w w1) := HA.out.kp.trans hk1
      clear hr1 hk1
      go_wp2_with (at_builtin; refine wpList_append_own _ rfl _ _ 46 rfl w.heap.size 5 i0 (.int .u8 0) 1 1 Tryz.underlying46 hi0 hz0 hz1 hz2 rfl (by decide) _ _ _ rfl (hown.alloc _) ⟨w1.heap.size, 0, none⟩ 1 1 [.int .u8 (naV s.data.toList st.1 st.2)] rfl rfl ?c1 ?c2 ?c3 ?c4 ?c5 ?_)
      case c1 => exact cell_one_new _ _ _
      case c2 => intro u hu; simp at hu; subst hu; rfl
      case c3 => unfold maxLen; omega
      case c4 => omega
      case c5 => simp; omega
      intro v' w2 hown' hgrow _
      have HR2 : Hid (Rd B w2 s (naS s.data.toList st).1 (naS s.data.toList st).2) := (HR1.out.alloc _).grown hgrow (fun e => by have := (hown.lt B e).1; omega)
      have HK2 : Hid (Kp B w w2) := Kp.grown (HK1.out.alloc _) hgrow (fun k hk => (hown.lt k hk).1)
      have HO2 : Hid _ := hown'
      clear hown' hgrow hown HR1 HK1
      go_wp2_with fail
      refine (rd_accept B s (naS s.data.toList st).1 (naS s.data.toList st).2 44 44 rfl _ hs (naI_le s st.1 st.2 hle) HR2.out).mono ?_
      rintro e w3 ⟨rfl, hr3, hk3⟩
      have HR3 : Hid _ := nmR_step HA.out (own_kp HO2.out hk3 hB) hr3 (HK2.out.trans hk3)
      clear HA hr3 hk3 HR2 HK2 HO2
      go_wp2
      go_roundg (gk - 1)
      case measure => omega
      case rel => exact ⟨_, _, _, rfl, HR3.out⟩

end Go.Proofs.YtenbnmbbfeekpabGreatDoor

namespace Go.Proofs.YtenbnmbbfeekpabGreatDoor
open Go.RowKit

theorem shape_of {w : World} {base : Nat} {e : TypeId} {size : Nat} {v : Value} {n : Nat} {xs : List Value} (h : w.ownsRow base e size v n xs) : ∃ ao nn cc, v = .slice ao nn cc := by
  rcases h.2 with ⟨rfl, _⟩ | ⟨g, cap, cur, rfl, _⟩
  · exact ⟨_, _, _, rfl⟩
  · exact ⟨_, _, _, rfl⟩

theorem pk_eq {t : List UInt8} {st st1 st2 st3 st4 st5 st6 st7 st8 st9 st10 : St} (E1 : naS t st = st1) (E2 : veS t st1 = st2) (E3 : mkS t st2 = st3) (E4 : exS t 58 st3 = st4) (E5 : (neF t st4).2 = st5) (E6 : exS t 58 st5 = st6) (E7 : (csF t st6).2 = st7) (E8 : exS t 58 st7 = st8) (E9 : (nmsF t st8).2 = st9) (E10 : exS t 59 st9 = st10) :
    pkV t st = { n := naV t st.1 st.2, v := veV t st1.1 st1.2, m := mkV t st2, needs := (neF t st4).1, conf := (csF t st6).1, prov := (nmsF t st8).1 } ∧ p5 t st = st10 := by
  subst E1 E2 E3 E4 E5 E6 E7 E8 E9 E10
  exact ⟨rfl, rfl⟩

set_option maxHeartbeats 1600000 in
set_option maxRecDepth 100000 in
theorem rd_pack (B : Nat) (s : ByteArray) (st : St) (w : World) (hs : s.size ≤ 800) (hi : st.1 ≤ s.size) (hr : Rd B w s st.1 st.2) :
    Calls Tryz.prog 91 #[.pointer (some ⟨B, 0, none⟩)] w fun e w' => ∃ vn vc vp, e = .returned (.agg (pkCells (pkV s.data.toList st) vn vc vp).toArray) ∧ PkAt B w' (pkV s.data.toList st) vn vc vp ∧ (∃ a n c, vn = .slice a n c) ∧ (∃ a n c, vc = .slice a n c) ∧ (∃ a n c, vp = .slice a n c) ∧
      Rd B w' s (p5 s.data.toList st).1 (p5 s.data.toList st).2 ∧ Kp B w w' ∧ (p5 s.data.toList st).1 ≤ s.size := by
  obtain ⟨i, bad⟩ := st
  replace hi : i ≤ s.size := hi
  have hB := hr.lt
  have HF : Hid (Fr B w _ 140 #[.int .u8 0, .int .u8 0, .int .i64 0, .slice none 0 0, .slice none 0 0, .slice none 0 0] #[.int .u8 0, .int .u8 0, .int .i64 0, .slice none 0 0, .slice none 0 0, .slice none 0 0] s (i, bad)) := Fr.start (st := (i, bad)) hr 140 #[.int .u8 0, .int .u8 0, .int .i64 0, .slice none 0 0, .slice none 0 0, .slice none 0 0]
  clear hr
  go_enter Tryz.func91, Tryz.ntmps91
  go_wp2_with fail
  refine (rd_name B s i bad _ hs hi HF.out.rd).mono ?_
  rintro e w1 ⟨rfl, hr, hk⟩
  obtain ⟨st1, E1⟩ : ∃ x : St, Hid (naS s.data.toList (i, bad) = x) := ⟨_, rfl⟩
  replace hr : Rd B w1 s st1.1 st1.2 := by rw [← E1.out]; exact hr
  have l1 : st1.1 ≤ s.size := by rw [← E1.out]; exact naI_le s i bad hi
  have h := HF.out.call hr hk
  have c0 : w1.cell? ⟨w.heap.size + 1, 0, none⟩ = some (.int .u8 0) := h.c 0 rfl
  have f0 := h.f 0
  have HF1 : Hid (Fr B w _ 140 #[.int .u8 0, .int .u8 0, .int .i64 0, .slice none 0 0, .slice none 0 0, .slice none 0 0] #[.int .u8 (naV s.data.toList i bad), .int .u8 0, .int .i64 0, .slice none 0 0, .slice none 0 0, .slice none 0 0] s st1) := h.store 0 (.int .u8 (naV s.data.toList i bad))
  clear HF h hr hk
  go_wp2_with fail
  refine (rd_version B s st1.1 st1.2 _ hs l1 HF1.out.rd).mono ?_
  rintro e w2 ⟨rfl, hr, hk⟩
  obtain ⟨st2, E2⟩ : ∃ x : St, Hid (veS s.data.toList st1 = x) := ⟨_, rfl⟩
  replace hr : Rd B w2 s st2.1 st2.2 := by rw [← E2.out]; exact hr
  have l2 : st2.1 ≤ s.size := by rw [← E2.out]; exact veI_le s st1.1 st1.2 l1
  have h := HF1.out.call hr hk
  have c1 : w2.cell? ⟨w.heap.size + 1, 1, none⟩ = some (.int .u8 0) := h.c 1 rfl
  have f1 := h.f 1
  have HF2 : Hid (Fr B w _ 140 #[.int .u8 0, .int .u8 0, .int .i64 0, .slice none 0 0, .slice none 0 0, .slice none 0 0] #[.int .u8 (naV s.data.toList i bad), .int .u8 (veV s.data.toList st1.1 st1.2), .int .i64 0, .slice none 0 0, .slice none 0 0, .slice none 0 0] s st2) := h.store 1 (.int .u8 (veV s.data.toList st1.1 st1.2))
  clear HF1 h hr hk
  go_wp2_with fail
  refine (rd_mark B s st2 _ hs l2 HF2.out.rd).mono ?_
  rintro e w3 ⟨rfl, hr, hk⟩
  obtain ⟨st3, E3⟩ : ∃ x : St, Hid (mkS s.data.toList st2 = x) := ⟨_, rfl⟩
  replace hr : Rd B w3 s st3.1 st3.2 := by rw [← E3.out]; exact hr
  have l3 : st3.1 ≤ s.size := by rw [← E3.out]; exact mkS_le s st2 l2
  have h := HF2.out.call hr hk
  have c2 : w3.cell? ⟨w.heap.size + 1, 2, none⟩ = some (.int .i64 0) := h.c 2 rfl
  have f2 := h.f 2
  have HF3 : Hid (Fr B w _ 140 #[.int .u8 0, .int .u8 0, .int .i64 0, .slice none 0 0, .slice none 0 0, .slice none 0 0] #[.int .u8 (naV s.data.toList i bad), .int .u8 (veV s.data.toList st1.1 st1.2), .int .i64 (mkV s.data.toList st2), .slice none 0 0, .slice none 0 0, .slice none 0 0] s st3) := h.store 2 (.int .i64 (mkV s.data.toList st2))
  clear HF2 h hr hk
  go_wp2_with fail
  refine (rd_expect B s st3.1 st3.2 58 58 rfl _ hs l3 HF3.out.rd).mono ?_
  rintro e w4 ⟨rfl, hr, hk⟩
  obtain ⟨st4, E4⟩ : ∃ x : St, Hid (exS s.data.toList 58 st3 = x) := ⟨_, rfl⟩
  replace hr : Rd B w4 s st4.1 st4.2 := by rw [← E4.out]; exact hr
  have l4 : st4.1 ≤ s.size := by rw [← E4.out]; exact acI_le s 58 st3.1 st3.2 l3
  have h := HF3.out.call hr hk
  have HF4 : Hid (Fr B w w4 140 #[.int .u8 0, .int .u8 0, .int .i64 0, .slice none 0 0, .slice none 0 0, .slice none 0 0] #[.int .u8 (naV s.data.toList i bad), .int .u8 (veV s.data.toList st1.1 st1.2), .int .i64 (mkV s.data.toList st2), .slice none 0 0, .slice none 0 0, .slice none 0 0] s st4) := h
  clear HF3 h hr hk
  go_wp2_with fail
  refine (rd_needs B s st4 _ hs l4 HF4.out.rd).mono ?_
  rintro e w5 ⟨vn, rfl, hn, hr, hk, l5, _⟩
  obtain ⟨st5, E5⟩ : ∃ x : St, Hid ((neF s.data.toList st4).2 = x) := ⟨_, rfl⟩
  replace hr : Rd B w5 s st5.1 st5.2 := by rw [← E5.out]; exact hr
  replace l5 : st5.1 ≤ s.size := by rw [← E5.out]; exact l5
  have h := HF4.out.call hr hk
  obtain ⟨an, nn, cn, rfl⟩ : ∃ a n c, vn = .slice a n c := by obtain ⟨_, h, _⟩ := hn; exact shape_of h
  have Hn : Hid (NsAt B w5 (.slice an nn cn) (neF s.data.toList st4).1) := hn
  clear hn
  have c3 : w5.cell? ⟨w.heap.size + 1, 3, none⟩ = some (.slice none 0 0) := h.c 3 rfl
  have f3 := h.f 3
  replace Hn : Hid (NsAt B _ (.slice an nn cn) (neF s.data.toList st4).1) := Hn.out.setT h.b2 (by decide) (by decide) 3 (.slice an nn cn)
  have HF5 : Hid (Fr B w _ 140 #[.int .u8 0, .int .u8 0, .int .i64 0, .slice none 0 0, .slice none 0 0, .slice none 0 0] #[.int .u8 (naV s.data.toList i bad), .int .u8 (veV s.data.toList st1.1 st1.2), .int .i64 (mkV s.data.toList st2), .slice an nn cn, .slice none 0 0, .slice none 0 0] s st5) := h.store 3 (.slice an nn cn)
  clear HF4 h hr hk
  go_wp2_with fail
  refine (rd_expect B s st5.1 st5.2 58 58 rfl _ hs l5 HF5.out.rd).mono ?_
  rintro e w6 ⟨rfl, hr, hk⟩
  obtain ⟨st6, E6⟩ : ∃ x : St, Hid (exS s.data.toList 58 st5 = x) := ⟨_, rfl⟩
  replace hr : Rd B w6 s st6.1 st6.2 := by rw [← E6.out]; exact hr
  have l6 : st6.1 ≤ s.size := by rw [← E6.out]; exact acI_le s 58 st5.1 st5.2 l5
  have h := HF5.out.call hr hk
  replace Hn : Hid (NsAt B w6 (.slice an nn cn) (neF s.data.toList st4).1) := Hn.out.kp hk
  have HF6 : Hid (Fr B w w6 140 #[.int .u8 0, .int .u8 0, .int .i64 0, .slice none 0 0, .slice none 0 0, .slice none 0 0] #[.int .u8 (naV s.data.toList i bad), .int .u8 (veV s.data.toList st1.1 st1.2), .int .i64 (mkV s.data.toList st2), .slice an nn cn, .slice none 0 0, .slice none 0 0] s st6) := h
  clear HF5 h hr hk
  go_wp2_with fail
  refine (rd_constraints B s st6 _ hs l6 HF6.out.rd).mono ?_
  rintro e w7 ⟨vc, rfl, hc, hr, hk, l7, _⟩
  obtain ⟨st7, E7⟩ : ∃ x : St, Hid ((csF s.data.toList st6).2 = x) := ⟨_, rfl⟩
  replace hr : Rd B w7 s st7.1 st7.2 := by rw [← E7.out]; exact hr
  replace l7 : st7.1 ≤ s.size := by rw [← E7.out]; exact l7
  have h := HF6.out.call hr hk
  replace Hn : Hid (NsAt B w7 (.slice an nn cn) (neF s.data.toList st4).1) := Hn.out.kp hk
  obtain ⟨ac, nc, cc, rfl⟩ : ∃ a n c, vc = .slice a n c := shape_of hc
  have Hc : Hid (CsAt B w7 (.slice ac nc cc) (csF s.data.toList st6).1) := hc
  clear hc
  have c4 : w7.cell? ⟨w.heap.size + 1, 4, none⟩ = some (.slice none 0 0) := h.c 4 rfl
  have f4 := h.f 4
  replace Hn : Hid (NsAt B _ (.slice an nn cn) (neF s.data.toList st4).1) := Hn.out.setT h.b2 (by decide) (by decide) 4 (.slice ac nc cc)
  replace Hc : Hid (CsAt B _ (.slice ac nc cc) (csF s.data.toList st6).1) := Hc.out.setT h.b2 (by decide) 4 (.slice ac nc cc)
  have HF7 : Hid (Fr B w _ 140 #[.int .u8 0, .int .u8 0, .int .i64 0, .slice none 0 0, .slice none 0 0, .slice none 0 0] #[.int .u8 (naV s.data.toList i bad), .int .u8 (veV s.data.toList st1.1 st1.2), .int .i64 (mkV s.data.toList st2), .slice an nn cn, .slice ac nc cc, .slice none 0 0] s st7) := h.store 4 (.slice ac nc cc)
  clear HF6 h hr hk
  go_wp2_with fail
  refine (rd_expect B s st7.1 st7.2 58 58 rfl _ hs l7 HF7.out.rd).mono ?_
  rintro e w8 ⟨rfl, hr, hk⟩
  obtain ⟨st8, E8⟩ : ∃ x : St, Hid (exS s.data.toList 58 st7 = x) := ⟨_, rfl⟩
  replace hr : Rd B w8 s st8.1 st8.2 := by rw [← E8.out]; exact hr
  have l8 : st8.1 ≤ s.size := by rw [← E8.out]; exact acI_le s 58 st7.1 st7.2 l7
  have h := HF7.out.call hr hk
  replace Hn : Hid (NsAt B w8 (.slice an nn cn) (neF s.data.toList st4).1) := Hn.out.kp hk
  replace Hc : Hid (CsAt B w8 (.slice ac nc cc) (csF s.data.toList st6).1) := Hc.out.kp hk
  have HF8 : Hid (Fr B w w8 140 #[.int .u8 0, .int .u8 0, .int .i64 0, .slice none 0 0, .slice none 0 0, .slice none 0 0] #[.int .u8 (naV s.data.toList i bad), .int .u8 (veV s.data.toList st1.1 st1.2), .int .i64 (mkV s.data.toList st2), .slice an nn cn, .slice ac nc cc, .slice none 0 0] s st8) := h
  clear HF7 h hr hk
  go_wp2_with fail
  refine (rd_names B s st8 _ hs l8 HF8.out.rd).mono ?_
  rintro e w9 ⟨vp, rfl, hb, hr, hk, l9, _⟩
  obtain ⟨st9, E9⟩ : ∃ x : St, Hid ((nmsF s.data.toList st8).2 = x) := ⟨_, rfl⟩
  replace hr : Rd B w9 s st9.1 st9.2 := by rw [← E9.out]; exact hr
  replace l9 : st9.1 ≤ s.size := by rw [← E9.out]; exact l9
  have h := HF8.out.call hr hk
  replace Hn : Hid (NsAt B w9 (.slice an nn cn) (neF s.data.toList st4).1) := Hn.out.kp hk
  replace Hc : Hid (CsAt B w9 (.slice ac nc cc) (csF s.data.toList st6).1) := Hc.out.kp hk
  obtain ⟨ap, np, cp, rfl⟩ : ∃ a n c, vp = .slice a n c := shape_of hb
  have Hb : Hid (BsAt B w9 (.slice ap np cp) (nmsF s.data.toList st8).1) := hb
  clear hb
  have c5 : w9.cell? ⟨w.heap.size + 1, 5, none⟩ = some (.slice none 0 0) := h.c 5 rfl
  have f5 := h.f 5
  replace Hn : Hid (NsAt B _ (.slice an nn cn) (neF s.data.toList st4).1) := Hn.out.setT h.b2 (by decide) (by decide) 5 (.slice ap np cp)
  replace Hc : Hid (CsAt B _ (.slice ac nc cc) (csF s.data.toList st6).1) := Hc.out.setT h.b2 (by decide) 5 (.slice ap np cp)
  replace Hb : Hid (BsAt B _ (.slice ap np cp) (nmsF s.data.toList st8).1) := Hb.out.setT h.b2 (by decide) 5 (.slice ap np cp)
  have HF9 : Hid (Fr B w _ 140 #[.int .u8 0, .int .u8 0, .int .i64 0, .slice none 0 0, .slice none 0 0, .slice none 0 0] #[.int .u8 (naV s.data.toList i bad), .int .u8 (veV s.data.toList st1.1 st1.2), .int .i64 (mkV s.data.toList st2), .slice an nn cn, .slice ac nc cc, .slice ap np cp] s st9) := h.store 5 (.slice ap np cp)
  clear HF8 h hr hk
  go_wp2_with fail
  refine (rd_expect B s st9.1 st9.2 59 59 rfl _ hs l9 HF9.out.rd).mono ?_
  rintro e w10 ⟨rfl, hr, hk⟩
  obtain ⟨st10, E10⟩ : ∃ x : St, Hid (exS s.data.toList 59 st9 = x) := ⟨_, rfl⟩
  replace hr : Rd B w10 s st10.1 st10.2 := by rw [← E10.out]; exact hr
  have l10 : st10.1 ≤ s.size := by rw [← E10.out]; exact acI_le s 59 st9.1 st9.2 l9
  have h := HF9.out.call hr hk
  replace Hn : Hid (NsAt B w10 (.slice an nn cn) (neF s.data.toList st4).1) := Hn.out.kp hk
  replace Hc : Hid (CsAt B w10 (.slice ac nc cc) (csF s.data.toList st6).1) := Hc.out.kp hk
  replace Hb : Hid (BsAt B w10 (.slice ap np cp) (nmsF s.data.toList st8).1) := Hb.out.kp hk
  have c0 : w10.cell? ⟨w.heap.size + 1, 0, none⟩ = some (.int .u8 (naV s.data.toList i bad)) := h.c 0 rfl
  have c1 : w10.cell? ⟨w.heap.size + 1, 1, none⟩ = some (.int .u8 (veV s.data.toList st1.1 st1.2)) := h.c 1 rfl
  have c2 : w10.cell? ⟨w.heap.size + 1, 2, none⟩ = some (.int .i64 (mkV s.data.toList st2)) := h.c 2 rfl
  have c3 : w10.cell? ⟨w.heap.size + 1, 3, none⟩ = some (.slice an nn cn) := h.c 3 rfl
  have c4 : w10.cell? ⟨w.heap.size + 1, 4, none⟩ = some (.slice ac nc cc) := h.c 4 rfl
  have c5 : w10.cell? ⟨w.heap.size + 1, 5, none⟩ = some (.slice ap np cp) := h.c 5 rfl
  have d0 : w10.cell? ⟨w.heap.size, 0, none⟩ = some (.int .u8 0) := h.c' 0 rfl
  have d1 : w10.cell? ⟨w.heap.size, 1, none⟩ = some (.int .u8 0) := h.c' 1 rfl
  have d2 : w10.cell? ⟨w.heap.size, 2, none⟩ = some (.int .i64 0) := h.c' 2 rfl
  have d3 : w10.cell? ⟨w.heap.size, 3, none⟩ = some (.slice none 0 0) := h.c' 3 rfl
  have d4 : w10.cell? ⟨w.heap.size, 4, none⟩ = some (.slice none 0 0) := h.c' 4 rfl
  have d5 : w10.cell? ⟨w.heap.size, 5, none⟩ = some (.slice none 0 0) := h.c' 5 rfl
  have e0 := h.f' 0
  have e1 := h.f' 1
  have e2 := h.f' 2
  have e3 := h.f' 3
  have e4 := h.f' 4
  have e5 := h.f' 5
  have HFF : Hid (Fr B w w10 140 #[.int .u8 0, .int .u8 0, .int .i64 0, .slice none 0 0, .slice none 0 0, .slice none 0 0] #[.int .u8 (naV s.data.toList i bad), .int .u8 (veV s.data.toList st1.1 st1.2), .int .i64 (mkV s.data.toList st2), .slice an nn cn, .slice ac nc cc, .slice ap np cp] s st10) := h
  have HE : Hid (pkV s.data.toList (i, bad) = _ ∧ p5 s.data.toList (i, bad) = st10) := pk_eq E1.out E2.out E3.out E4.out E5.out E6.out E7.out E8.out E9.out E10.out
  clear h hr hk
  go_wp2
  refine bodyPost_ret (v := .agg #[.int .u8 (naV s.data.toList i bad), .int .u8 (veV s.data.toList st1.1 st1.2), .int .i64 (mkV s.data.toList st2), .slice an nn cn, .slice ac nc cc, .slice ap np cp]) ?_ rfl ⟨.slice an nn cn, .slice ac nc cc, .slice ap np cp, ?_, ?_, ⟨_, _, _, rfl⟩, ⟨_, _, _, rfl⟩, ⟨_, _, _, rfl⟩, ?_, ?_, ?_⟩
  · simp [results, Tryz.results91, go_sem, d0, d1, d2, d3, d4, d5]
  · rw [HE.out.1]; rfl
  · rw [HE.out.1]
    exact ⟨((((((Hn.out.setT HFF.out.b1 (by decide) (by decide) 0 _).setT (setAt HFF.out.b1 0 _) (by decide) (by decide) 1 _).setT (setAt (setAt HFF.out.b1 0 _) 1 _) (by decide) (by decide) 2 _).setT (setAt (setAt (setAt HFF.out.b1 0 _) 1 _) 2 _) (by decide) (by decide) 3 _).setT (setAt (setAt (setAt (setAt HFF.out.b1 0 _) 1 _) 2 _) 3 _) (by decide) (by decide) 4 _).setT (setAt (setAt (setAt (setAt (setAt HFF.out.b1 0 _) 1 _) 2 _) 3 _) 4 _) (by decide) (by decide) 5 _), ((((((Hc.out.setT HFF.out.b1 (by decide) 0 _).setT (setAt HFF.out.b1 0 _) (by decide) 1 _).setT (setAt (setAt HFF.out.b1 0 _) 1 _) (by decide) 2 _).setT (setAt (setAt (setAt HFF.out.b1 0 _) 1 _) 2 _) (by decide) 3 _).setT (setAt (setAt (setAt (setAt HFF.out.b1 0 _) 1 _) 2 _) 3 _) (by decide) 4 _).setT (setAt (setAt (setAt (setAt (setAt HFF.out.b1 0 _) 1 _) 2 _) 3 _) 4 _) (by decide) 5 _), ((((((Hb.out.setT HFF.out.b1 (by decide) 0 _).setT (setAt HFF.out.b1 0 _) (by decide) 1 _).setT (setAt (setAt HFF.out.b1 0 _) 1 _) (by decide) 2 _).setT (setAt (setAt (setAt HFF.out.b1 0 _) 1 _) 2 _) (by decide) 3 _).setT (setAt (setAt (setAt (setAt HFF.out.b1 0 _) 1 _) 2 _) 3 _) (by decide) 4 _).setT (setAt (setAt (setAt (setAt (setAt HFF.out.b1 0 _) 1 _) 2 _) 3 _) 4 _) (by decide) 5 _)⟩
  · rw [HE.out.2]
    exact (Rd.setNew (Rd.setNew (Rd.setNew (Rd.setNew (Rd.setNew (Rd.setNew HFF.out.rd (by simp <;> omega) _) (by simp <;> omega) _) (by simp <;> omega) _) (by simp <;> omega) _) (by simp <;> omega) _) (by simp <;> omega) _)
  · exact (Kp.setNew (Kp.setNew (Kp.setNew (Kp.setNew (Kp.setNew (Kp.setNew HFF.out.kp (by simp) _) (by simp) _) (by simp) _) (by simp) _) (by simp) _) (by simp) _)
  · rw [HE.out.2]; exact l10

end Go.Proofs.YtenbnmbbfeekpabGreatDoor
