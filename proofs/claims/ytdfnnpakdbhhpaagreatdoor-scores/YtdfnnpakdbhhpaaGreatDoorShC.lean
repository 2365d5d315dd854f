import Derived.Test.YtdfnnpakdbhhpaaGreatDoorShB
namespace Go.Proofs.YtdfnnpakdbhhpaaGreatDoor
open Go.RowKit

set_option maxHeartbeats 400000 in
theorem doc_markText (m : Nat) (hm : m ≤ 3) (w : World) : Calls Tryz.prog 79 #[.int .i64 m] w fun e w' => e = .returned (strV (mkT m)) ∧ w' = w := by
  rcases (by omega : m = 0 ∨ m = 1 ∨ m = 2 ∨ m = 3) with rfl | rfl | rfl | rfl
  all_goals
    go_enter Tryz.func79, Tryz.ntmps79
    go_wp2
    go_ret
    exact ⟨rfl, rfl⟩

/-- string([]byte{..}): the bytes lie in the newest block. -/
theorem conv_new (w : World) (l : List UInt8) : (convert 59 9 (.slice (some ⟨w.heap.size, 0, none⟩) l.length l.length)).run Tryz.prog (w.alloc (.cells (l.map fun b => Value.int .u8 (b.toNat : Int)).toArray 5)) = .ok (.string (bs l)) (w.alloc (.cells (l.map fun b => Value.int .u8 (b.toNat : Int)).toArray 5)) := by
  refine run_convert_bytes_back (P := Tryz.prog) _ 59 9 5 ⟨w.heap.size, 0, none⟩ l.length l Tryz.underlying59 Tryz.underlying5 Tryz.underlying9 (fun j hj => ?_)
  rw [Addr.add_lit, cellAt (blk_new _ _)]
  simp [hj]
theorem conv1 (w : World) (n : Nat) (hn : n < 256) : (convert 59 9 (.slice (some ⟨w.heap.size, 0, none⟩) 1 1)).run Tryz.prog (w.alloc (.cells #[.int .u8 n] 5)) = .ok (.string (bs [b8 n])) (w.alloc (.cells #[.int .u8 n] 5)) := by
  have := conv_new w [b8 n]
  simpa [b8_val hn] using this
theorem conv2 (w : World) (n m : Nat) (hn : n < 256) (hm : m < 256) : (convert 59 9 (.slice (some ⟨w.heap.size, 0, none⟩) 2 2)).run Tryz.prog (w.alloc (.cells #[.int .u8 n, .int .u8 m] 5)) = .ok (.string (bs [b8 n, b8 m])) (w.alloc (.cells #[.int .u8 n, .int .u8 m] 5)) := by
  have := conv_new w [b8 n, b8 m]
  simpa [b8_val hn, b8_val hm] using this
theorem conv3 (w : World) (n m k : Nat) (hn : n < 256) (hm : m < 256) (hk : k < 256) : (convert 59 9 (.slice (some ⟨w.heap.size, 0, none⟩) 3 3)).run Tryz.prog (w.alloc (.cells #[.int .u8 n, .int .u8 m, .int .u8 k] 5)) = .ok (.string (bs [b8 n, b8 m, b8 k])) (w.alloc (.cells #[.int .u8 n, .int .u8 m, .int .u8 k] 5)) := by
  have := conv_new w [b8 n, b8 m, b8 k]
  simpa [b8_val hn, b8_val hm, b8_val hk] using this

theorem nm_lt {n : Nat} (h : nmB n = true) : n < 256 := by have := nm_rng h; omega
theorem vr_lt {n : Nat} (h : vrB n = true) : n < 256 := by have := vr_rng h; omega
theorem sg_lt {n : Nat} (h : sgB n = true) : n < 256 ∧ n ≠ 0 := by have := sg_ne h; omega

set_option maxHeartbeats 400000 in
set_option maxRecDepth 100000 in
theorem doc_constraintText (c : Cn) (hc : CnOk c) (w : World) : Calls Tryz.prog 83 #[cnVal c] w fun e w' => e = .returned (strV (cnT c)) ∧ Below w.heap.size w w' := by
  obtain ⟨n, sg, v⟩ := c
  have hn := nm_lt hc.n
  unfold cnVal
  simp only at hn ⊢
  rcases hc.sv with ⟨h0, h1⟩ | ⟨h0, h1⟩
  · simp only at h0 h1
    subst h0 h1
    have HT : Hid (cnT { n := n, s := 0, v := 0 } = [b8 n]) := rfl
    have hcv := conv1 (w.alloc (.cells #[.int .u8 n, .int .u8 0, .int .u8 0] 121)) n hn
    rw [World.size_alloc] at hcv
    clear hc
    go_enter Tryz.func83, Tryz.ntmps83
    go_wp2
    go_ret
    exact ⟨ret_str (by rw [HT.out]), ((Below.refl _ _).alloc (Nat.le_refl _) _).alloc (by simp) _⟩
  · obtain ⟨hs, hs0⟩ := sg_lt h0
    have hv := vr_lt h1
    simp only at hs hs0 hv
    have HT : Hid (cnT { n := n, s := sg, v := v } = [b8 n, b8 sg, b8 v]) := by show _ = _; unfold cnT; rw [if_neg hs0]
    have hz : ((sg : Int) == 0) = false := by rw [beq_eq_false_iff_ne]; omega
    have hcv := conv3 (w.alloc (.cells #[.int .u8 n, .int .u8 sg, .int .u8 v] 121)) n sg v hn hs hv
    rw [World.size_alloc] at hcv
    clear hc h0 h1
    go_enter Tryz.func83, Tryz.ntmps83
    go_wp2
    go_ret
    exact ⟨ret_str (by rw [HT.out]), ((Below.refl _ _).alloc (Nat.le_refl _) _).alloc (by simp) _⟩

end Go.Proofs.YtdfnnpakdbhhpaaGreatDoor
