import Derived.Test.YtdfnnpakdbhhpaaGreatDoorRefB
import Derived.Test.YtdfnnpakdbhhpaaGreatDoorStrs
namespace Go.Proofs.YtdfnnpakdbhhpaaGreatDoor
open Go.RowKit

theorem Tryz.infoStr : (Tryz.prog.info? 9).map (fun i => (i.zero, i.size, i.bytes)) = some (some (.string ByteArray.empty), 1, 16) := by kernel_rfl

set_option maxHeartbeats 1600000 in
set_option maxRecDepth 100000 in
theorem ref_split (s : ByteArray) (c : UInt8) (w : World) (hs : s.size ≤ 800) : Calls Tryz.prog 61 #[.string s, .int .u8 c.toNat] w fun e w' =>
    ∃ v, e = .returned v ∧ w'.ownsRow w.heap.size 9 1 v (splitL c s.data.toList).length ((splitL c s.data.toList).map strV) ∧ Below w.heap.size w w' := by
  obtain ⟨i0, hi, hz0, hz1, hz2⟩ := info_parts Tryz.infoStr
  go_enter Tryz.func61, Tryz.ntmps61
  go_wp2
  go_loopw [5, 6, 7] (fun o f i wr => ∃ (k fr : Nat) (acc : List (List UInt8)), fr ≤ k ∧ k ≤ s.size ∧ acc.length ≤ k ∧ f = .int .i64 fr ∧ i = .int .i64 k ∧ wr.ownsRow w.heap.size 9 1 o acc.length (acc.map strV) ∧ Below w.heap.size w wr ∧ Hid (piecesGo c [] s.data.toList = acc ++ piecesGo c ((s.data.toList.take k).drop fr) (s.data.toList.drop k))) (fun _ _ i _ => s.size - (intOf i).toNat)
  case atStart => exact ⟨0, 0, [], by omega, by omega, by simp, rfl, rfl, World.ownsRow_nil _ _ _ _, Below.refl _ _, by show _ = _; simp⟩
  case round =>
    obtain ⟨k, fr, acc, hfk, hk, hal, rfl, rfl, hown, hb, HP⟩ := hrel
    have hwsz := hb.size
    by_cases hlt : k < s.size
    · have hd := drop_cons s k hlt
      by_cases hc : s[k] = c
      · have HS : Hid (piecesGo c [] s.data.toList = (acc ++ [(s.data.toList.take k).drop fr]) ++ piecesGo c ((s.data.toList.take (k+1)).drop (k+1)) (s.data.toList.drop (k+1))) := by
          have := HP.out; rw [hd, piecesGo, if_pos (by simpa using hc)] at this
          show _ = _
          rw [this, List.drop_of_length_le (l := List.take (k+1) _) (by simp; omega)]; simp
        clear HP hd
        have hcb : ((s[k].toNat : Int) == c.toNat) = true := by simp [hc]
        clear hc
        go_wp2_with (at_builtin; refine wpList_append_own _ rfl _ _ 67 rfl w.heap.size 9 i0 (.string ByteArray.empty) 1 16 Tryz.underlying67 hi hz0 hz1 hz2 rfl (by decide) _ _ _ rfl (hown.alloc _) ⟨wr.heap.size, 0, none⟩ 1 1 [.string (s.extract fr k)] rfl rfl ?c1 ?c2 ?c3 ?c4 ?c5 ?_)
        case c1 => exact cell_one_new _ _ _
        case c2 => intro u hu; simp at hu; subst hu; rfl
        case c3 => unfold maxLen; omega
        case c4 => omega
        case c5 => simp; omega
        intro v' w2 hown' hgrow _
        go_wp2
        go_roundw
        case rel => exact ⟨k + 1, k + 1, acc ++ [(s.data.toList.take k).drop fr], by omega, by omega, by simp; omega, by go_num, by go_num, by rw [extract_bs] at hown'; simpa [strV] using hown', ((hb.alloc hwsz _).grown hgrow (by simp; omega) (fun j hj => (hown.lt j hj).1)), HS⟩
        case measure => simp [intOf]; omega
      · have HS : Hid (piecesGo c [] s.data.toList = acc ++ piecesGo c ((s.data.toList.take (k+1)).drop fr) (s.data.toList.drop (k+1))) := by
          have := HP.out; rw [hd, piecesGo, if_neg (by simpa using hc)] at this
          show _ = _
          rw [this, take_snoc' _ _ _ _ _ hfk hd]
        clear HP hd
        have hcb : ((s[k].toNat : Int) == c.toNat) = false := by
          rw [beq_eq_false_iff_ne]; intro h; exact hc (UInt8.toNat.inj (by omega))
        clear hc
        go_wp2
        go_roundw
        case rel => exact ⟨k + 1, fr, acc, by omega, by omega, by omega, rfl, by go_num, hown, hb, HS⟩
        case measure => simp [intOf]; omega
    · have hke : k = s.size := by omega
      subst hke
      by_cases h0 : s.size = 0
      · have HS : Hid (splitL c s.data.toList = acc) := by
          show _ = _
          have hl : s.data.toList = [] := List.eq_nil_of_length_eq_zero (by simpa using h0)
          have : acc = [] := List.eq_nil_of_length_eq_zero (by omega)
          rw [hl, this]; rfl
        have hz : ¬ (0 : Int) < (s.size : Int) := by omega
        clear HP h0
        go_wp2
        go_ret
        exact ⟨_, rfl, by rw [HS.out]; exact hown, hb⟩
      · have HS : Hid (splitL c s.data.toList = acc ++ [s.data.toList.drop fr]) := by
          show _ = _
          have hl : s.data.toList.isEmpty = false := by
            rw [List.isEmpty_eq_false_iff]; intro h; apply h0; have := congrArg List.length h; simpa using this
          have := HP.out
          rw [List.drop_of_length_le (i := s.size) (by simp), List.take_of_length_le (by simp)] at this
          unfold splitL; rw [hl]; exact this
        have hz : (0 : Int) < (s.size : Int) := by omega
        clear HP h0
        go_wp2_with (at_builtin; refine wpList_append_own _ rfl _ _ 67 rfl w.heap.size 9 i0 (.string ByteArray.empty) 1 16 Tryz.underlying67 hi hz0 hz1 hz2 rfl (by decide) _ _ _ rfl (hown.alloc _) ⟨wr.heap.size, 0, none⟩ 1 1 [.string (s.extract fr s.size)] rfl rfl ?c1 ?c2 ?c3 ?c4 ?c5 ?_)
        case c1 => exact cell_one_new _ _ _
        case c2 => intro u hu; simp at hu; subst hu; rfl
        case c3 => unfold maxLen; omega
        case c4 => omega
        case c5 => simp; omega
        intro v' w2 hown' hgrow _
        go_wp2
        go_ret
        refine ⟨_, rfl, ?_, ((hb.alloc hwsz _).grown hgrow (by simp; omega) (fun j hj => (hown.lt j hj).1))⟩
        rw [HS.out]
        rw [extract_bs, List.take_of_length_le (by simp)] at hown'
        simpa [strV] using hown'

/-- As split, but the empty text has one piece. -/
theorem piecesL_of (c : UInt8) (l : List UInt8) (h : l.isEmpty = false) : piecesL c l = splitL c l := by unfold splitL piecesL; rw [h]; rfl

end Go.Proofs.YtdfnnpakdbhhpaaGreatDoor
