import Derived.Test.YtenbnmbbfeekpabDoorKdW
import Derived.Test.YtenbnmbbfeekpabDoorXT2
namespace Go.Proofs.YtenbnmbbfeekpabDoor
open Go.RowKit

/-- Which of eight things a number speaks of. -/
def pkN (c : Int) : Nat := (if c < 0 then -(c + 1) else c).toNat % 8
theorem pkN_lt (c : Int) : pkN c < 8 := Nat.mod_lt _ (by omega)
/-- One of the eight criteria. -/
def crN (v : Nat) : List UInt8 := [if v / 4 = 0 then 45 else 43, [114, 110, 99, 117].getD (v % 4) 114]

set_option maxHeartbeats 800000 in
theorem keep_pick (c : Int) (w : World) (h1 : -9223372036854775808 ≤ c) (h2 : c ≤ 9223372036854775807) : Calls Tryd.prog 12 #[.int .i64 c, .int .i64 8] w fun e w' => e = .returned (.int .i64 (pkN c : Nat)) ∧ w' = w := by
  by_cases h : c < 0
  · have HV : Hid (((pkN c : Nat) : Int) = -((c + 1).tmod 8)) := by
      show _ = _; unfold pkN; rw [if_pos h, ← Int.neg_tmod, Int.tmod_eq_emod_of_nonneg (by omega)]; omega
    go_enter Tryd.func12, Tryd.ntmps12
    go_wp2
    go_ret
    exact ⟨congrArg (fun x => Ending.returned (Value.int .i64 x)) HV.out.symm, rfl⟩
  · have HV : Hid (((pkN c : Nat) : Int) = c % 8) := by
      show _ = _; unfold pkN; rw [if_neg h]; omega
    go_enter Tryd.func12, Tryd.ntmps12
    go_wp2
    go_ret
    exact ⟨congrArg (fun x => Ending.returned (Value.int .i64 x)) HV.out.symm, rfl⟩

set_option maxHeartbeats 1600000 in
theorem keep_criterion (c : Int) (w : World) (h1 : -9223372036854775808 ≤ c) (h2 : c ≤ 9223372036854775807) : Calls Tryd.prog 5 #[.int .i64 c] w fun e w' => e = .returned (.string (bs (crN (pkN c)))) ∧ Below w.heap.size w w' := by
  have H1 : Hid (-9223372036854775808 ≤ c) := h1
  have H2 : Hid (c ≤ 9223372036854775807) := h2
  clear h1 h2
  have hv := pkN_lt c
  obtain ⟨v, Hv⟩ : ∃ v, Hid (pkN c = v) := ⟨_, rfl⟩
  rw [Hv.out] at hv ⊢
  match v, hv, Hv with
  | 0, _, Hv =>
    go_enter Tryd.func5, Tryd.ntmps5
    go_wp2_with fail
    refine (keep_pick c _ H1.out H2.out).mono ?_
    rintro e w0 ⟨rfl, rfl⟩
    rw [Hv.out]
    go_wp2
    go_quiet (fail)
    go_wp2
    go_ret
    exact ⟨congrArg (fun x => Ending.returned (Value.string x)) (show (ByteArray.mk #[45, 43]).extract 0 1 ++ (ByteArray.mk #[114, 110, 99, 117]).extract 0 1 = bs (crN 0) by decide +kernel), ⟨rfl, rfl, rfl, Nat.le_refl _, fun _ _ => rfl⟩⟩
  | 1, _, Hv =>
    go_enter Tryd.func5, Tryd.ntmps5
    go_wp2_with fail
    refine (keep_pick c _ H1.out H2.out).mono ?_
    rintro e w0 ⟨rfl, rfl⟩
    rw [Hv.out]
    go_wp2
    go_quiet (fail)
    go_wp2
    go_ret
    exact ⟨congrArg (fun x => Ending.returned (Value.string x)) (show (ByteArray.mk #[45, 43]).extract 0 1 ++ (ByteArray.mk #[114, 110, 99, 117]).extract 1 2 = bs (crN 1) by decide +kernel), ⟨rfl, rfl, rfl, Nat.le_refl _, fun _ _ => rfl⟩⟩
  | 2, _, Hv =>
    go_enter Tryd.func5, Tryd.ntmps5
    go_wp2_with fail
    refine (keep_pick c _ H1.out H2.out).mono ?_
    rintro e w0 ⟨rfl, rfl⟩
    rw [Hv.out]
    go_wp2
    go_quiet (fail)
    go_wp2
    go_ret
    exact ⟨congrArg (fun x => Ending.returned (Value.string x)) (show (ByteArray.mk #[45, 43]).extract 0 1 ++ (ByteArray.mk #[114, 110, 99, 117]).extract 2 3 = bs (crN 2) by decide +kernel), ⟨rfl, rfl, rfl, Nat.le_refl _, fun _ _ => rfl⟩⟩
  | 3, _, Hv =>
    go_enter Tryd.func5, Tryd.ntmps5
    go_wp2_with fail
    refine (keep_pick c _ H1.out H2.out).mono ?_
    rintro e w0 ⟨rfl, rfl⟩
    rw [Hv.out]
    go_wp2
    go_quiet (fail)
    go_wp2
    go_ret
    exact ⟨congrArg (fun x => Ending.returned (Value.string x)) (show (ByteArray.mk #[45, 43]).extract 0 1 ++ (ByteArray.mk #[114, 110, 99, 117]).extract 3 4 = bs (crN 3) by decide +kernel), ⟨rfl, rfl, rfl, Nat.le_refl _, fun _ _ => rfl⟩⟩
  | 4, _, Hv =>
    go_enter Tryd.func5, Tryd.ntmps5
    go_wp2_with fail
    refine (keep_pick c _ H1.out H2.out).mono ?_
    rintro e w0 ⟨rfl, rfl⟩
    rw [Hv.out]
    go_wp2
    go_quiet (fail)
    go_wp2
    go_ret
    exact ⟨congrArg (fun x => Ending.returned (Value.string x)) (show (ByteArray.mk #[45, 43]).extract 1 2 ++ (ByteArray.mk #[114, 110, 99, 117]).extract 0 1 = bs (crN 4) by decide +kernel), ⟨rfl, rfl, rfl, Nat.le_refl _, fun _ _ => rfl⟩⟩
  | 5, _, Hv =>
    go_enter Tryd.func5, Tryd.ntmps5
    go_wp2_with fail
    refine (keep_pick c _ H1.out H2.out).mono ?_
    rintro e w0 ⟨rfl, rfl⟩
    rw [Hv.out]
    go_wp2
    go_quiet (fail)
    go_wp2
    go_ret
    exact ⟨congrArg (fun x => Ending.returned (Value.string x)) (show (ByteArray.mk #[45, 43]).extract 1 2 ++ (ByteArray.mk #[114, 110, 99, 117]).extract 1 2 = bs (crN 5) by decide +kernel), ⟨rfl, rfl, rfl, Nat.le_refl _, fun _ _ => rfl⟩⟩
  | 6, _, Hv =>
    go_enter Tryd.func5, Tryd.ntmps5
    go_wp2_with fail
    refine (keep_pick c _ H1.out H2.out).mono ?_
    rintro e w0 ⟨rfl, rfl⟩
    rw [Hv.out]
    go_wp2
    go_quiet (fail)
    go_wp2
    go_ret
    exact ⟨congrArg (fun x => Ending.returned (Value.string x)) (show (ByteArray.mk #[45, 43]).extract 1 2 ++ (ByteArray.mk #[114, 110, 99, 117]).extract 2 3 = bs (crN 6) by decide +kernel), ⟨rfl, rfl, rfl, Nat.le_refl _, fun _ _ => rfl⟩⟩
  | 7, _, Hv =>
    go_enter Tryd.func5, Tryd.ntmps5
    go_wp2_with fail
    refine (keep_pick c _ H1.out H2.out).mono ?_
    rintro e w0 ⟨rfl, rfl⟩
    rw [Hv.out]
    go_wp2
    go_quiet (fail)
    go_wp2
    go_ret
    exact ⟨congrArg (fun x => Ending.returned (Value.string x)) (show (ByteArray.mk #[45, 43]).extract 1 2 ++ (ByteArray.mk #[114, 110, 99, 117]).extract 3 4 = bs (crN 7) by decide +kernel), ⟨rfl, rfl, rfl, Nat.le_refl _, fun _ _ => rfl⟩⟩

theorem crP_app : ∀ (n : Nat) (A M : List UInt8), A.length ≤ n → A.length % 2 = 0 → crP (A ++ M) = (crP A && crP M)
  | _, [], M, _, _ => by simp [crP]
  | _, [c], M, _, h => by simp at h
  | 0, a :: b :: r, M, hn, _ => by simp at hn
  | n + 1, a :: b :: r, M, hn, h => by
    show crP (a :: b :: (r ++ M)) = _
    rw [crP, crP, crP_app n r M (by simp at hn; omega) (by simp at h; omega), Bool.and_assoc]
theorem crN_ok {v : Nat} (hv : v < 8) : crP (crN v) = true ∧ (crN v).length = 2 := by
  refine ⟨?_, by rfl⟩
  match v, hv with
  | 0, _ | 1, _ | 2, _ | 3, _ | 4, _ | 5, _ | 6, _ | 7, _ => decide +kernel
theorem crit_app {A : List UInt8} {v : Nat} (hv : v < 8) (hA : critB A = true) (hl : A.length ≤ 7) : critB (A ++ crN v) = true ∧ (A ++ crN v).length = A.length + 2 := by
  obtain ⟨h1, h2⟩ := crN_ok hv
  have hl2 : (A ++ crN v).length = A.length + 2 := by rw [List.length_append, h2]
  refine ⟨?_, hl2⟩
  unfold critB at hA ⊢
  simp at hA
  obtain ⟨⟨⟨a, b⟩, c⟩, d⟩ := hA
  rw [hl2, crP_app A.length A _ (Nat.le_refl _) c, d, h1]
  simp
  omega
theorem crit_rng {A : List UInt8} (hA : critB A = true) : 2 ≤ A.length ∧ A.length ≤ 8 ∧ A.length % 2 = 0 := by
  unfold critB at hA
  simp at hA
  omega


end Go.Proofs.YtenbnmbbfeekpabDoor
