import Derived.Test.YtenbnmbbfeekpaaGreatDoorXE
namespace Go.Proofs.YtenbnmbbfeekpaaGreatDoor
open Go.RowKit

/-- upTo, of whatever kind: where the head is right and every step of the kind is. -/
theorem law_upTo (kd : Int) (hkd : 1 ≤ kd ∧ kd ≤ 6) (heads : ∀ w, Calls Tryz.prog 10 #[.int .i64 kd] w fun e w' => e = .returned (.bool true) ∧ Below w.heap.size w w')
    (plays : ∀ (n : Int) (S T U : ByteArray) (w : World), S.size ≤ maxLen → T.size ≤ maxLen → U.size ≤ maxLen → Calls Tryz.prog 11 #[.agg #[.int .i64 kd, .int .i64 n, .string S, .string T, .string U]] w fun e w' => e = .returned (.bool true) ∧ Below w.heap.size w w')
    (ao : Option Addr) (len cap : Nat) (w : World) (hlen : len ≤ maxLen) (hrow : ∀ i, i < len → ∃ b off, ao = some ⟨b, off, none⟩ ∧ OpAt w b off i) :
    Calls Tryz.prog 9 #[.slice ao len cap, .int .i64 kd] w fun e w' => e = .returned (.int .i64 (-1)) ∧ Below w.heap.size w w' := by
  have HH : Hid _ := heads
  have HP : Hid _ := plays
  have HR : Hid _ := hrow
  clear heads plays hrow
  unfold maxLen at hlen
  go_enter Tryz.func9, Tryz.ntmps9
  go_wp2_with fail
  refine (HH.out _).mono ?_
  rintro e w1 ⟨rfl, hb1⟩
  have HB1 : Hid (Below w.heap.size w w1) := hb1
  clear hb1
  go_wp2
  go_loopw [6] (fun i wr => ∃ k : Nat, k ≤ len ∧ i = .int .i64 k ∧ Below w.heap.size w wr) (fun i _ => len - (intOf i).toNat)
  case atStart => exact ⟨0, by omega, rfl, HB1.out⟩
  case round =>
    obtain ⟨k, hk, rfl, hb⟩ := hrel
    by_cases hlt : k < len
    · obtain ⟨b, off, rfl, kk, n, S, T, U, x0, x1, x2, x3, x4, s1, s2, s3⟩ := HR.out k hlt
      have hg : b < w.heap.size := World.block_lt_of_cell? _ _ x0
      rw [← hb.cell (p := ⟨b, _, none⟩) hg] at x0 x1 x2 x3 x4
      have HB : Hid (Below w.heap.size w wr) := hb
      clear hb
      by_cases he : kk = kd
      · subst he
        go_wp2_with fail
        refine (HP.out n S T U _ s1 s2 s3).mono ?_
        rintro e w2 ⟨rfl, hb2⟩
        have HB2 : Hid (Below w.heap.size w w2) := HB.out.trans (hb2.mono HB.out.size)
        clear hb2
        go_wp2
        go_roundw
        case rel => exact ⟨k + 1, by omega, by go_num, HB2.out⟩
        case measure => simp [intOf]; omega
      · have he' : (kk == kd) = false := by rw [beq_eq_false_iff_ne]; exact he
        go_wp2
        go_roundw
        case rel => exact ⟨k + 1, by omega, by go_num, HB.out⟩
        case measure => simp [intOf]; omega
    · go_wp2
      go_ret
      exact ⟨rfl, hb⟩

end Go.Proofs.YtenbnmbbfeekpaaGreatDoor
