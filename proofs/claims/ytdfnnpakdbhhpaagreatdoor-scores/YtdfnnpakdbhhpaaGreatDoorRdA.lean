import Derived.Test.YtdfnnpakdbhhpaaGreatDoorRows
import Derived.Test.YtdfnnpakdbhhpaaGreatDoorRdM
import Derived.Deep.QuietTactic
import Derived.BigQuiet
namespace Go.Proofs.YtdfnnpakdbhhpaaGreatDoor
open Go.RowKit

set_option maxHeartbeats 400000 in
theorem rd_ahead (B : Nat) (s : ByteArray) (i : Nat) (bad : Bool) (w : World) (_hs : s.size ≤ 800) (hi : i ≤ s.size) (hr : Rd B w s i bad) :
    Calls Tryz.prog 99 #[.pointer (some ⟨B, 0, none⟩)] w fun e w' => e = .returned (.int .u8 (ahF s.data.toList i bad)) ∧ ∃ n, w' = w.drewN n := by
  have c0 := hr.c0
  have c1 := hr.c1
  have c2 := hr.c2
  cases bad
  · by_cases hlt : i < s.size
    · have HA := ahF_at s i hlt
      have HA' : Hid (ahF s.data.toList i false = s[i].toNat) := HA
      clear HA hr
      have hd : decide ((s.size : Int) ≤ (i : Int)) = false := by simp; omega
      go_enter Tryz.func99, Tryz.ntmps99
      go_wp2
      go_quiet (fail)
      go_wp2
      go_quiet (fail)
      go_wp2
      go_ret
      exact ⟨ret_int (by rw [HA'.out]), _, by rw [World.drewN_drewN]⟩
    · have HA' : Hid (ahF s.data.toList i false = 0) := ahF_end _ _ (by simp; omega) _
      clear hr
      have hd : (s.size : Int) ≤ (i : Int) := by omega
      go_enter Tryz.func99, Tryz.ntmps99
      go_wp2
      go_quiet (fail)
      go_wp2
      go_ret
      exact ⟨ret_int (by rw [HA'.out]; rfl), _, rfl⟩
  · clear hr
    go_enter Tryz.func99, Tryz.ntmps99
    go_wp2
    go_quiet (fail)
    go_wp2
    go_ret
    exact ⟨ret_int rfl, _, rfl⟩

set_option maxHeartbeats 400000 in
theorem rd_isName (c : Int) (w : World) : Calls Tryz.prog 100 #[.int .u8 c] w fun e w' => e = .returned (.bool (nmB c)) ∧ w' = w := by
  go_enter Tryz.func100, Tryz.ntmps100
  go_wp2
  all_goals go_ret
  all_goals simp_all [nmB]
  all_goals omega

set_option maxHeartbeats 400000 in
theorem rd_nameAhead (B : Nat) (s : ByteArray) (i : Nat) (bad : Bool) (w : World) (hs : s.size ≤ 800) (hi : i ≤ s.size) (hr : Rd B w s i bad) :
    Calls Tryz.prog 73 #[.pointer (some ⟨B, 0, none⟩)] w fun e w' => e = .returned (.bool (naB s.data.toList i bad)) ∧ ∃ n, w' = w.drewN n := by
  have HR : Hid (Rd B w s i bad) := hr
  clear hr
  go_enter Tryz.func73, Tryz.ntmps73
  go_wp2_with (go_at_call 99; refine (rd_ahead B s i bad _ hs hi HR.out).mono ?_; rintro e w' ⟨rfl, n, rfl⟩)
  go_wp2_with (go_at_call 100; refine (rd_isName _ _).mono ?_; rintro e w' ⟨rfl, rfl⟩)
  go_ret
  exact ⟨rfl, _, rfl⟩

set_option maxHeartbeats 400000 in
theorem rd_accept (B : Nat) (s : ByteArray) (i : Nat) (bad : Bool) (x : Nat) (xi : Int) (hx : xi = (x : Int)) (w : World) (hs : s.size ≤ 800) (hi : i ≤ s.size) (hr : Rd B w s i bad) :
    Calls Tryz.prog 106 #[.pointer (some ⟨B, 0, none⟩), .int .u8 xi] w fun e w' => e = .returned (.bool (acB s.data.toList x i bad)) ∧ Rd B w' s (acI s.data.toList x i bad) bad ∧ Kp B w w' := by
  subst hx
  have HR : Hid (Rd B w s i bad) := hr
  have c1 := hr.c1
  have f1 := hr.f1
  clear hr
  by_cases h : acB s.data.toList x i bad = true
  · have h' := h
    unfold acB at h'
    simp only [Bool.and_eq_true, Bool.not_eq_true', beq_eq_false_iff_ne, beq_iff_eq] at h'
    obtain ⟨h1, h2⟩ := h'
    have e1 : ((ahF s.data.toList i bad : Int) == 0) = false := by rw [beq_eq_false_iff_ne]; omega
    have e2 : ((ahF s.data.toList i bad : Int) != (x : Int)) = false := by rw [bne_eq_false_iff_eq]; omega
    have hl := (ahF_in _ _ _ h1).2
    have HI : Hid (acI s.data.toList x i bad = i + 1) := by show _ = _; unfold acI; rw [if_pos h]
    have HB : Hid (acB s.data.toList x i bad = true) := h
    clear h h1 h2
    simp only [Array.length_toList] at hl
    replace hl : i < s.size := hl
    go_enter Tryz.func106, Tryz.ntmps106
    go_wp2_with (go_at_call 99; refine (rd_ahead B s i bad _ hs hi HR.out).mono ?_; rintro e w' ⟨rfl, n, rfl⟩)
    go_wp2
    go_ret
    refine ⟨ret_bool HB.out.symm, ?_, ((Kp.refl B w).drewN n).set _ _⟩
    rw [HI.out]
    exact (HR.out.drewN n).set1 (i + 1)
  · simp only [Bool.not_eq_true] at h
    have HI : Hid (acI s.data.toList x i bad = i) := by show _ = _; unfold acI; rw [if_neg (by simp [h])]
    have HB : Hid (acB s.data.toList x i bad = false) := h
    by_cases h0 : ahF s.data.toList i bad = 0
    · have e1 : ((ahF s.data.toList i bad : Int) == 0) = true := by rw [beq_iff_eq]; omega
      clear h h0
      go_enter Tryz.func106, Tryz.ntmps106
      go_wp2_with (go_at_call 99; refine (rd_ahead B s i bad _ hs hi HR.out).mono ?_; rintro e w' ⟨rfl, n, rfl⟩)
      go_wp2
      go_ret
      refine ⟨ret_bool HB.out.symm, ?_, ((Kp.refl B w).drewN n)⟩
      rw [HI.out]
      exact (HR.out.drewN n)
    · have e1 : ((ahF s.data.toList i bad : Int) == 0) = false := by rw [beq_eq_false_iff_ne]; omega
      have e2 : ((ahF s.data.toList i bad : Int) != (x : Int)) = true := by
        rw [bne_iff_ne]; intro e; have e' : ahF s.data.toList i bad = x := by omega
        have : acB s.data.toList x i bad = true := by unfold acB; simp [e']; omega
        rw [h] at this; cases this
      clear h h0
      go_enter Tryz.func106, Tryz.ntmps106
      go_wp2_with (go_at_call 99; refine (rd_ahead B s i bad _ hs hi HR.out).mono ?_; rintro e w' ⟨rfl, n, rfl⟩)
      go_wp2
      go_ret
      refine ⟨ret_bool HB.out.symm, ?_, ((Kp.refl B w).drewN n)⟩
      rw [HI.out]
      exact (HR.out.drewN n)

end Go.Proofs.YtdfnnpakdbhhpaaGreatDoor
