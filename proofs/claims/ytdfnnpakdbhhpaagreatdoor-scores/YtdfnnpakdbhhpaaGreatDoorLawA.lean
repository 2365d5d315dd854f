import Derived.Test.YtdfnnpakdbhhpaaGreatDoorRefH
namespace Go.Proofs.YtdfnnpakdbhhpaaGreatDoor
open Go.RowKit

set_option maxHeartbeats 400000 in
theorem law_num (n : Int) (w : World) : Calls Tryz.prog 18 #[.int .i64 n] w fun e w' => e = .returned (.int .i64 n) ∧ w' = w := by
  go_enter Tryz.func18, Tryz.ntmps18
  go_wp2
  go_ret
  exact ⟨rfl, rfl⟩

set_option maxHeartbeats 800000 in
theorem law_texts1 (n : Int) (S T U : ByteArray) (w : World) (hS : S.size ≤ maxLen) : Calls Tryz.prog 16 #[.agg #[.int .i64 1, .int .i64 n, .string S, .string T, .string U]] w fun e w' => e = .returned (.bool true) ∧ Below w.heap.size w w' := by
  go_enter Tryz.func16, Tryz.ntmps16
  go_wp2_with fail
  refine (up_Check S _ hS).mono ?_
  rintro e w1 ⟨rfl, hb1⟩
  have hb : Below w.heap.size w w1 := ((Below.refl _ _).alloc (Nat.le_refl _) _).trans (hb1.mono (by simp))
  have hbx := blk_below hb1 (blk_new w (.cells #[.int .i64 1, .int .i64 n, .string S, .string T, .string U] 27)) (by simp)
  have c2 := cellAt hbx 2
  simp at c2
  have HB : Hid (Below w.heap.size w w1) := hb
  clear hb hb1 hbx
  go_wp2_with fail
  refine (ref_Check S _ hS).mono ?_
  rintro e w2 ⟨rfl, hb2⟩
  have HB2 : Hid (Below w.heap.size w w2) := HB.out.trans (hb2.mono HB.out.size)
  clear hb2 HB c2
  go_wp2_with (go_at_call 18; refine (law_num _ _).mono ?_; rintro e w' ⟨rfl, rfl⟩)
  all_goals go_ret
  all_goals exact ⟨ret_bool (by simp), HB2.out⟩

set_option maxHeartbeats 800000 in
theorem law_plays1 (n : Int) (S T U : ByteArray) (w : World) (hS : S.size ≤ maxLen) : Calls Tryz.prog 9 #[.agg #[.int .i64 1, .int .i64 n, .string S, .string T, .string U]] w fun e w' => e = .returned (.bool true) ∧ Below w.heap.size w w' := by
  go_enter Tryz.func9, Tryz.ntmps9
  go_wp2_with fail
  refine (law_texts1 n S T U _ hS).mono ?_
  rintro e w1 ⟨rfl, hb1⟩
  have HB : Hid (Below w.heap.size w w1) := ((Below.refl _ _).alloc (Nat.le_refl _) _).trans (hb1.mono (by simp))
  clear hb1
  go_wp2
  go_ret
  exact ⟨rfl, HB.out⟩

def headS : List UInt8 := [97, 49, 58, 58, 58, 59, 97, 50, 58, 58, 58, 59, 97, 49, 58, 58, 58, 59, 47, 47, 47]
theorem head1E : rdE headS = 4 := by decide +kernel
theorem head1P : rdP headS = 2 := by decide +kernel

set_option maxHeartbeats 800000 in
theorem law_heads1 (w : World) : Calls Tryz.prog 8 #[.int .i64 1] w fun e w' => e = .returned (.bool true) ∧ Below w.heap.size w w' := by
  go_enter Tryz.func8, Tryz.ntmps8
  go_wp2_with fail
  refine (up_Check (bs headS) _ (by unfold maxLen; decide)).mono ?_
  rintro e w1 ⟨rfl, hb1⟩
  rw [bs_list, head1E, head1P]
  go_wp2
  go_ret
  exact ⟨rfl, hb1⟩

/-- A step of the script, in memory. -/
def OpAt (w : World) (b off i : Nat) : Prop := ∃ (k n : Int) (S T U : ByteArray), w.cell? ⟨b, off + i * 5, none⟩ = some (.int .i64 k) ∧ w.cell? ⟨b, off + i * 5 + 1, none⟩ = some (.int .i64 n) ∧ w.cell? ⟨b, off + i * 5 + 2, none⟩ = some (.string S) ∧ w.cell? ⟨b, off + i * 5 + 3, none⟩ = some (.string T) ∧ w.cell? ⟨b, off + i * 5 + 4, none⟩ = some (.string U) ∧ S.size ≤ maxLen ∧ T.size ≤ maxLen ∧ U.size ≤ maxLen

/-- upTo, of whatever kind: where the head is right and every step of the kind is. -/
theorem law_upTo (kd : Int) (hkd : 1 ≤ kd ∧ kd ≤ 6) (heads : ∀ w, Calls Tryz.prog 8 #[.int .i64 kd] w fun e w' => e = .returned (.bool true) ∧ Below w.heap.size w w')
    (plays : ∀ (n : Int) (S T U : ByteArray) (w : World), S.size ≤ maxLen → T.size ≤ maxLen → U.size ≤ maxLen → Calls Tryz.prog 9 #[.agg #[.int .i64 kd, .int .i64 n, .string S, .string T, .string U]] w fun e w' => e = .returned (.bool true) ∧ Below w.heap.size w w')
    (ao : Option Addr) (len cap : Nat) (w : World) (hlen : len ≤ maxLen) (hrow : ∀ i, i < len → ∃ b off, ao = some ⟨b, off, none⟩ ∧ OpAt w b off i) :
    Calls Tryz.prog 7 #[.slice ao len cap, .int .i64 kd] w fun e w' => e = .returned (.int .i64 (-1)) ∧ Below w.heap.size w w' := by
  have HH : Hid _ := heads
  have HP : Hid _ := plays
  have HR : Hid _ := hrow
  clear heads plays hrow
  unfold maxLen at hlen
  go_enter Tryz.func7, Tryz.ntmps7
  go_wp2_with fail
  refine (HH.out _).mono ?_
  rintro e w1 ⟨rfl, hb1⟩
  have HB1 : Hid (Below w.heap.size w w1) := hb1
  clear hb1
  go_wp2
  go_loopw [6] (fun i wr => ∃ k : Nat, k ≤ len ∧ i = .int .i64 k ∧ Below w.heap.size w wr) (fun i _ => len - (intOf i).toNat)
  case atStart => exact ⟨0, by omega, rfl, HB1.out⟩
  case round =>
    obtain ⟨k, hk, rfl, hb⟩ := hrel
    by_cases hlt : k < len
    · obtain ⟨b, off, rfl, kk, n, S, T, U, x0, x1, x2, x3, x4, s1, s2, s3⟩ := HR.out k hlt
      have hg : b < w.heap.size := World.block_lt_of_cell? _ _ x0
      rw [← hb.cell (p := ⟨b, _, none⟩) hg] at x0 x1 x2 x3 x4
      have HB : Hid (Below w.heap.size w wr) := hb
      clear hb
      by_cases he : kk = kd
      · subst he
        go_wp2_with fail
        refine (HP.out n S T U _ s1 s2 s3).mono ?_
        rintro e w2 ⟨rfl, hb2⟩
        have HB2 : Hid (Below w.heap.size w w2) := HB.out.trans (hb2.mono HB.out.size)
        clear hb2
        go_wp2
        go_roundw
        case rel => exact ⟨k + 1, by omega, by go_num, HB2.out⟩
        case measure => simp [intOf]; omega
      · have he' : (kk == kd) = false := by rw [beq_eq_false_iff_ne]; exact he
        go_wp2
        go_roundw
        case rel => exact ⟨k + 1, by omega, by go_num, HB.out⟩
        case measure => simp [intOf]; omega
    · go_wp2
      go_ret
      exact ⟨rfl, hb⟩

end Go.Proofs.YtdfnnpakdbhhpaaGreatDoor
