import Derived.Test.YtenbnmbbfeekpabGreatDoorRows
import Derived.Test.YtenbnmbbfeekpabGreatDoorXO0
import Derived.Test.YtenbnmbbfeekpabGreatDoorXC

namespace Go.Proofs.YtenbnmbbfeekpabGreatDoor
open Go.RowKit

set_option maxHeartbeats 400000 in
theorem ref_name (c : Int) (w : World) : Calls Tryz.prog 153 #[.int .u8 c] w fun e w' => e = .returned (.bool (nmB c)) ∧ w' = w := by
  go_enter Tryz.func153, Tryz.ntmps153
  go_wp2
  all_goals go_ret
  all_goals simp_all [nmB]
  all_goals omega

set_option maxHeartbeats 400000 in
theorem ref_version (c : Int) (w : World) : Calls Tryz.prog 154 #[.int .u8 c] w fun e w' => e = .returned (.bool (vrB c)) ∧ w' = w := by
  go_enter Tryz.func154, Tryz.ntmps154
  go_wp2
  all_goals go_ret
  all_goals simp_all [vrB]
  all_goals omega

set_option maxHeartbeats 400000 in
theorem ref_sign (c : Int) (w : World) : Calls Tryz.prog 155 #[.int .u8 c] w fun e w' => e = .returned (.bool (sgB c)) ∧ w' = w := by
  go_enter Tryz.func155, Tryz.ntmps155
  go_wp2
  all_goals go_ret
  all_goals simp_all [sgB]
  all_goals rw [Bool.or_assoc]

set_option maxHeartbeats 800000 in
theorem ref_head (q c : Int) (w : World) (h0 : 0 ≤ q) (h1 : q < 5) : Calls Tryz.prog 139 #[.int .i64 q, .int .u8 c] w fun e w' => e = .returned (.int .i64 (headF q c)) ∧ w' = w := by
  rcases (by omega : q = 0 ∨ q = 1 ∨ q = 2 ∨ q = 3 ∨ q = 4) with rfl | rfl | rfl | rfl | rfl
  all_goals
    go_enter Tryz.func139, Tryz.ntmps139
    go_wp2_with (first | (go_at_call 153; refine (ref_name _ _).mono ?_; rintro e w' ⟨rfl, rfl⟩) | (go_at_call 154; refine (ref_version _ _).mono ?_; rintro e w' ⟨rfl, rfl⟩))
    all_goals go_ret
    all_goals simp_all [headF]

set_option maxHeartbeats 800000 in
theorem ref_needs (q c : Int) (w : World) (h0 : 5 ≤ q) (h1 : q < 13) : Calls Tryz.prog 140 #[.int .i64 q, .int .u8 c] w fun e w' => e = .returned (.int .i64 (needF q c)) ∧ w' = w := by
  rcases (by omega : q = 5 ∨ q = 6 ∨ q = 7 ∨ q = 8 ∨ q = 9 ∨ q = 10 ∨ q = 11 ∨ q = 12) with rfl | rfl | rfl | rfl | rfl | rfl | rfl | rfl
  all_goals
    go_enter Tryz.func140, Tryz.ntmps140
    go_wp2_with (first | (go_at_call 153; refine (ref_name _ _).mono ?_; rintro e w' ⟨rfl, rfl⟩) | (go_at_call 154; refine (ref_version _ _).mono ?_; rintro e w' ⟨rfl, rfl⟩) | (go_at_call 155; refine (ref_sign _ _).mono ?_; rintro e w' ⟨rfl, rfl⟩))
    all_goals go_ret
    all_goals simp_all [needF]

set_option maxHeartbeats 1600000 in
theorem ref_lists (k q c : Int) (w : World) (k0 : 0 ≤ k) (k1 : k ≤ 3) (h0 : 0 ≤ q) (h1 : q < 5) : Calls Tryz.prog 141 #[.int .i64 k, .int .i64 q, .int .u8 c] w fun e w' => e = .returned (.int .i64 (listF k q c)) ∧ w' = w := by
  rcases (by omega : q = 0 ∨ q = 1 ∨ q = 2 ∨ q = 3 ∨ q = 4) with rfl | rfl | rfl | rfl | rfl
  all_goals
    rcases (by omega : k = 0 ∨ k = 1 ∨ k = 2 ∨ k = 3) with rfl | rfl | rfl | rfl
    all_goals
      go_enter Tryz.func141, Tryz.ntmps141
      go_wp2_with (first | (go_at_call 153; refine (ref_name _ _).mono ?_; rintro e w' ⟨rfl, rfl⟩) | (go_at_call 154; refine (ref_version _ _).mono ?_; rintro e w' ⟨rfl, rfl⟩) | (go_at_call 155; refine (ref_sign _ _).mono ?_; rintro e w' ⟨rfl, rfl⟩))
      all_goals go_ret
      all_goals simp_all [listF]

end Go.Proofs.YtenbnmbbfeekpabGreatDoor

namespace Go.Proofs.YtenbnmbbfeekpabGreatDoor
open Go.RowKit

set_option maxHeartbeats 1600000 in
theorem ref_place (s : ByteArray) (w : World) (hs : s.size ≤ maxLen) : Calls Tryz.prog 101 #[.string s] w fun e w' => e = .returned (.int .i64 (plF 0 s.data.toList 0)) ∧ w' = w := by
  unfold maxLen at hs
  go_enter Tryz.func101, Tryz.ntmps101
  go_wp2
  go_loop [3, 4] (fun t i => ∃ (k : Nat) (q : Int), k ≤ s.size ∧ 0 ≤ q ∧ q ≤ 32 ∧ t = .int .i64 q ∧ i = .int .i64 k ∧ Hid (plF 0 s.data.toList 0 = plF q (s.data.toList.drop k) k)) (fun _ i => s.size - (intOf i).toNat)
  case atStart => exact ⟨0, 0, by omega, by omega, by omega, rfl, rfl, rfl⟩
  case round =>
    obtain ⟨k, q, hk, hq0, hq1, rfl, rfl, HP⟩ := hrel
    by_cases hlt : k < s.size
    · have hr := stepF_rng q s[k].toNat hq0 hq1
      have HS : Hid (plF 0 s.data.toList 0 = if stepF q s[k].toNat == -1 then (k : Int) else plF (stepF q s[k].toNat) (s.data.toList.drop (k + 1)) (k + 1)) := by
        have := HP.out; rw [drop_cons s k hlt] at this; exact this
      clear HP
      by_cases hn : stepF q s[k].toNat = -1
      · have HE : Hid (plF 0 s.data.toList 0 = (k : Int)) := by have := HS.out; rw [hn] at this; show _ = _; simpa using this
        clear HS hr
        rcases (by omega : q < 5 ∨ (¬ q < 5 ∧ q < 13) ∨ (¬ q < 5 ∧ ¬ q < 13)) with a1 | ⟨a1, a2⟩ | ⟨a1, a2⟩
        · have hn' : (headF q s[k].toNat == -1) = true := by simpa [stepF, a1] using hn
          clear hn
          go_wp2_with (go_at_call 139; refine (ref_head _ _ _ (by omega) (by omega)).mono ?_; rintro e w' ⟨rfl, rfl⟩)
          go_ret
          exact ⟨ret_int HE.out.symm, rfl⟩
        · have hn' : (needF q s[k].toNat == -1) = true := by simpa [stepF, a1, a2] using hn
          clear hn
          go_wp2_with (go_at_call 140; refine (ref_needs _ _ _ (by omega) (by omega)).mono ?_; rintro e w' ⟨rfl, rfl⟩)
          go_ret
          exact ⟨ret_int HE.out.symm, rfl⟩
        · have hn' : (listF ((q - 13) / 5) ((q - 13) % 5) s[k].toNat == -1) = true := by simpa [stepF, a1, a2] using hn
          clear hn
          go_wp2_with (go_at_call 141; refine (ref_lists _ _ _ _ (by omega) (by omega) (by omega) (by omega)).mono ?_; rintro e w' ⟨rfl, rfl⟩)
          go_ret
          exact ⟨ret_int HE.out.symm, rfl⟩
      · have HE : Hid (plF 0 s.data.toList 0 = plF (stepF q s[k].toNat) (s.data.toList.drop (k + 1)) (k + 1)) := by have := HS.out; rw [if_neg (by simpa using hn)] at this; exact this
        clear HS
        obtain ⟨r0, r1⟩ : 0 ≤ stepF q s[k].toNat ∧ stepF q s[k].toNat ≤ 32 := by omega
        clear hr
        rcases (by omega : q < 5 ∨ (¬ q < 5 ∧ q < 13) ∨ (¬ q < 5 ∧ ¬ q < 13)) with a1 | ⟨a1, a2⟩ | ⟨a1, a2⟩
        · have hn' : (headF q s[k].toNat == -1) = false := by simpa [stepF, a1] using hn
          have HQ : Hid (stepF q s[k].toNat = headF q s[k].toNat) := by show _ = _; simp [stepF, a1]
          rw [HQ.out] at r0 r1
          clear hn
          go_wp2_with (go_at_call 139; refine (ref_head _ _ _ (by omega) (by omega)).mono ?_; rintro e w' ⟨rfl, rfl⟩)
          go_round
          case rel => exact ⟨k + 1, _, by omega, r0, r1, rfl, by go_num, by rw [← HQ.out]; exact HE⟩
          case measure => simp [intOf]; omega
        · have hn' : (needF q s[k].toNat == -1) = false := by simpa [stepF, a1, a2] using hn
          have HQ : Hid (stepF q s[k].toNat = needF q s[k].toNat) := by show _ = _; simp [stepF, a1, a2]
          rw [HQ.out] at r0 r1
          clear hn
          go_wp2_with (go_at_call 140; refine (ref_needs _ _ _ (by omega) (by omega)).mono ?_; rintro e w' ⟨rfl, rfl⟩)
          go_round
          case rel => exact ⟨k + 1, _, by omega, r0, r1, rfl, by go_num, by rw [← HQ.out]; exact HE⟩
          case measure => simp [intOf]; omega
        · have hn' : (listF ((q - 13) / 5) ((q - 13) % 5) s[k].toNat == -1) = false := by simpa [stepF, a1, a2] using hn
          have HQ : Hid (stepF q s[k].toNat = listF ((q - 13) / 5) ((q - 13) % 5) s[k].toNat) := by show _ = _; simp [stepF, a1, a2]
          rw [HQ.out] at r0 r1
          clear hn
          go_wp2_with (go_at_call 141; refine (ref_lists _ _ _ _ (by omega) (by omega) (by omega) (by omega)).mono ?_; rintro e w' ⟨rfl, rfl⟩)
          go_round
          case rel => exact ⟨k + 1, _, by omega, r0, r1, rfl, by go_num, by rw [← HQ.out]; exact HE⟩
          case measure => simp [intOf]; omega
    · have HE : Hid (plF 0 s.data.toList 0 = if q == 28 || (q == 30 || q == 32) then -1 else (k : Int)) := by
        have := HP.out; rw [List.drop_of_length_le (by simp; omega)] at this; exact this
      clear HP
      have hke : k = s.size := by omega
      subst hke
      by_cases h1 : q = 28
      · subst h1
        go_wp2
        go_ret
        exact ⟨ret_int HE.out.symm, rfl⟩
      by_cases h2 : q = 30
      · subst h2
        go_wp2
        go_ret
        exact ⟨ret_int HE.out.symm, rfl⟩
      by_cases h3 : q = 32
      · subst h3
        go_wp2
        go_ret
        exact ⟨ret_int HE.out.symm, rfl⟩
      have e1 : (q - 13 - 15 == 0) = false := by rw [beq_eq_false_iff_ne]; omega
      have e2 : (q - 13 - 15 == 2) = false := by rw [beq_eq_false_iff_ne]; omega
      have e3 : (q - 13 - 15 == 4) = false := by rw [beq_eq_false_iff_ne]; omega
      have HE' : Hid (plF 0 s.data.toList 0 = (s.size : Int)) := by
        have := HE.out; rw [if_neg (by simp [h1, h2, h3])] at this; exact this
      clear HE h1 h2 h3
      go_wp2
      go_ret
      exact ⟨ret_int HE'.out.symm, rfl⟩

end Go.Proofs.YtenbnmbbfeekpabGreatDoor

namespace Go.Proofs.YtenbnmbbfeekpabGreatDoor
open Go.RowKit

set_option maxHeartbeats 1600000 in
set_option maxRecDepth 100000 in
theorem ref_split (s : ByteArray) (c : UInt8) (w : World) (hs : s.size ≤ 800) : Calls Tryz.prog 105 #[.string s, .int .u8 c.toNat] w fun e w' =>
    ∃ v, e = .returned v ∧ w'.ownsRow w.heap.size 9 1 v (splitL c s.data.toList).length ((splitL c s.data.toList).map strV) ∧ Below w.heap.size w w' := by
  obtain ⟨i0, hi, hz0, hz1, hz2⟩ := info_parts Tryz.infoStr
  go_enter Tryz.func105, Tryz.ntmps105
  go_wp2
  go_loopw [5, 6, 7] (fun o f i wr => ∃ (k fr : Nat) (acc : List (List UInt8)), fr ≤ k ∧ k ≤ s.size ∧ acc.length ≤ k ∧ f = .int .i64 fr ∧ i = .int .i64 k ∧ wr.ownsRow w.heap.size 9 1 o acc.length (acc.map strV) ∧ Below w.heap.size w wr ∧ Hid (piecesGo c [] s.data.toList = acc ++ piecesGo c ((s.data.toList.take k).drop fr) (s.data.toList.drop k))) (fun _ _ i _ => s.size - (intOf i).toNat)
  case atStart => exact ⟨0, 0, [], by omega, by omega, by simp, rfl, rfl, World.ownsRow_nil _ _ _ _, Below.refl _ _, by show _ = _; simp⟩
  case round =>
    obtain ⟨k, fr, acc, hfk, hk, hal, rfl, rfl, hown, hb, HP⟩ := hrel
    have hwsz := hb.size
    by_cases hlt : k < s.size
    · have hd := drop_cons s k hlt
      by_cases hc : s[k] = c
      · have HS : Hid (piecesGo c [] s.data.toList = (acc ++ [(s.data.toList.take k).drop fr]) ++ piecesGo c ((s.data.toList.take (k+1)).drop (k+1)) (s.data.toList.drop (k+1))) := by
          have := HP.out; rw [hd, piecesGo, if_pos (by simpa using hc)] at this
          show _ = _
          rw [this, List.drop_of_length_le (l := List.take (k+1) _) (by simp; omega)]; simp
        clear HP hd
        have hcb : ((s[k].toNat : Int) == c.toNat) = true := by simp [hc]
        clear hc
        go_wp2_with (at_builtin; refine wpList_append_own _ rfl _ _ 36 rfl w.heap.size 9 i0 (.string ByteArray.empty) 1 16 Tryz.underlying36 hi hz0 hz1 hz2 rfl (by decide) _ _ _ rfl (hown.alloc _) ⟨wr.heap.size, 0, none⟩ 1 1 [.string (s.extract fr k)] rfl rfl ?c1 ?c2 ?c3 ?c4 ?c5 ?_)
        case c1 => exact cell_one_new _ _ _
        case c2 => intro u hu; simp at hu; subst hu; rfl
        case c3 => unfold maxLen; omega
        case c4 => omega
        case c5 => simp; omega
        intro v' w2 hown' hgrow _
        go_wp2
        go_roundw
        case rel => exact ⟨k + 1, k + 1, acc ++ [(s.data.toList.take k).drop fr], by omega, by omega, by simp; omega, by go_num, by go_num, by rw [extract_bs] at hown'; simpa [strV] using hown', ((hb.alloc hwsz _).grown hgrow (by simp; omega) (fun j hj => (hown.lt j hj).1)), HS⟩
        case measure => simp [intOf]; omega
      · have HS : Hid (piecesGo c [] s.data.toList = acc ++ piecesGo c ((s.data.toList.take (k+1)).drop fr) (s.data.toList.drop (k+1))) := by
          have := HP.out; rw [hd, piecesGo, if_neg (by simpa using hc)] at this
          show _ = _
          rw [this, take_snoc' _ _ _ _ _ hfk hd]
        clear HP hd
        have hcb : ((s[k].toNat : Int) == c.toNat) = false := by
          rw [beq_eq_false_iff_ne]; intro h; exact hc (UInt8.toNat.inj (by omega))
        clear hc
        go_wp2
        go_roundw
        case rel => exact ⟨k + 1, fr, acc, by omega, by omega, by omega, rfl, by go_num, hown, hb, HS⟩
        case measure => simp [intOf]; omega
    · have hke : k = s.size := by omega
      subst hke
      by_cases h0 : s.size = 0
      · have HS : Hid (splitL c s.data.toList = acc) := by
          show _ = _
          have hl : s.data.toList = [] := List.eq_nil_of_length_eq_zero (by simpa using h0)
          have : acc = [] := List.eq_nil_of_length_eq_zero (by omega)
          rw [hl, this]; rfl
        have hz : ¬ (0 : Int) < (s.size : Int) := by omega
        clear HP h0
        go_wp2
        go_ret
        exact ⟨_, rfl, by rw [HS.out]; exact hown, hb⟩
      · have HS : Hid (splitL c s.data.toList = acc ++ [s.data.toList.drop fr]) := by
          show _ = _
          have hl : s.data.toList.isEmpty = false := by
            rw [List.isEmpty_eq_false_iff]; intro h; apply h0; have := congrArg List.length h; simpa using this
          have := HP.out
          rw [List.drop_of_length_le (i := s.size) (by simp), List.take_of_length_le (by simp)] at this
          unfold splitL; rw [hl]; exact this
        have hz : (0 : Int) < (s.size : Int) := by omega
        clear HP h0
        go_wp2_with (at_builtin; refine wpList_append_own _ rfl _ _ 36 rfl w.heap.size 9 i0 (.string ByteArray.empty) 1 16 Tryz.underlying36 hi hz0 hz1 hz2 rfl (by decide) _ _ _ rfl (hown.alloc _) ⟨wr.heap.size, 0, none⟩ 1 1 [.string (s.extract fr s.size)] rfl rfl ?c1 ?c2 ?c3 ?c4 ?c5 ?_)
        case c1 => exact cell_one_new _ _ _
        case c2 => intro u hu; simp at hu; subst hu; rfl
        case c3 => unfold maxLen; omega
        case c4 => omega
        case c5 => simp; omega
        intro v' w2 hown' hgrow _
        go_wp2
        go_ret
        refine ⟨_, rfl, ?_, ((hb.alloc hwsz _).grown hgrow (by simp; omega) (fun j hj => (hown.lt j hj).1))⟩
        rw [HS.out]
        rw [extract_bs, List.take_of_length_le (by simp)] at hown'
        simpa [strV] using hown'

/-- As split, but the empty text has one piece. -/
theorem piecesL_of (c : UInt8) (l : List UInt8) (h : l.isEmpty = false) : piecesL c l = splitL c l := by unfold splitL piecesL; rw [h]; rfl

end Go.Proofs.YtenbnmbbfeekpabGreatDoor

namespace Go.Proofs.YtenbnmbbfeekpabGreatDoor
open Go.RowKit

set_option maxHeartbeats 800000 in
set_option maxRecDepth 100000 in
theorem ref_pieces (s : ByteArray) (c : UInt8) (ci : Int) (hc : ci = (c.toNat : Int)) (w : World) (hs : s.size ≤ 800) : Calls Tryz.prog 104 #[.string s, .int .u8 ci] w fun e w' =>
    ∃ v, e = .returned v ∧ w'.ownsRow w.heap.size 9 1 v (piecesL c s.data.toList).length ((piecesL c s.data.toList).map strV) ∧ Below w.heap.size w w' := by
  subst hc
  obtain ⟨i0, hi, hz0, hz1, hz2⟩ := info_parts Tryz.infoStr
  by_cases h0 : s.size = 0
  · have hl : s.data.toList = [] := List.eq_nil_of_length_eq_zero (by rw [sz]; exact h0)
    have H1 : Hid (splitL c s.data.toList = []) := by show _ = _; rw [hl]; rfl
    have H2 : Hid (piecesL c s.data.toList = [[]]) := by show _ = _; rw [hl]; rfl
    clear hl
    go_enter Tryz.func104, Tryz.ntmps104
    go_wp2_with fail
    refine (ref_split s c _ hs).mono ?_
    rintro e w1 ⟨v, rfl, hown, hb⟩
    rw [H1.out] at hown
    obtain ⟨ao, cc, hv⟩ : ∃ ao cc, v = .slice ao 0 cc := by
      rcases own_shape hown with ⟨h, _⟩ | ⟨g, cap, h, _⟩
      · exact ⟨_, _, h⟩
      · exact ⟨_, _, h⟩
    rw [hv] at hown ⊢
    have hsz := hb.size
    have HO : Hid _ := hown
    go_wp2_with (at_builtin; refine wpList_append_own _ rfl _ _ 36 rfl w.heap.size 9 i0 (.string ByteArray.empty) 1 16 Tryz.underlying36 hi hz0 hz1 hz2 rfl (by decide) _ _ _ rfl (hown.alloc _) ⟨w1.heap.size, 0, none⟩ 1 1 [.string ByteArray.empty] rfl rfl ?c1 ?c2 ?c3 ?c4 ?c5 ?_)
    case c1 => exact cell_one_new _ _ _
    case c2 => intro u hu; simp at hu; subst hu; rfl
    case c3 => unfold maxLen; simp
    case c4 => simp
    case c5 => simp; omega
    intro v' w2 hown' hgrow _
    go_wp2
    go_ret
    refine ⟨_, rfl, ?_, ((hb.alloc hsz _).grown hgrow (by simp; omega) (fun j hj => (hown.lt j hj).1))⟩
    rw [H2.out]
    exact hown'
  · have hl : s.data.toList.isEmpty = false := by
      rw [List.isEmpty_eq_false_iff]; intro h; apply h0; rw [← sz, h]; rfl
    have H2 : Hid (piecesL c s.data.toList = splitL c s.data.toList) := piecesL_of c _ hl
    have hpos : 0 < (splitL c s.data.toList).length := by
      rw [← H2.out]; unfold piecesL
      cases s.data.toList with
      | nil => simp [piecesGo]
      | cons x l =>
        generalize ([] : List UInt8) = cur
        unfold piecesGo; split
        · simp
        · have : ∀ (l cur : List UInt8), 0 < (piecesGo c cur l).length := by
            intro l
            induction l with
            | nil => intro cur; simp [piecesGo]
            | cons y l ih => intro cur; unfold piecesGo; split <;> simp [ih]
          exact this _ _
    clear hl
    go_enter Tryz.func104, Tryz.ntmps104
    go_wp2_with fail
    refine (ref_split s c _ hs).mono ?_
    rintro e w1 ⟨v, rfl, hown, hb⟩
    generalize splitL c s.data.toList = L at *
    obtain ⟨ao, cc, hv⟩ : ∃ ao cc, v = .slice ao L.length cc := by
      rcases own_shape hown with ⟨h, h0⟩ | ⟨g, cap, h, _⟩
      · exact ⟨_, _, by rw [h, h0]⟩
      · exact ⟨_, _, h⟩
    rw [hv] at hown ⊢
    have hz : ((L.length : Int) == 0) = false := by rw [beq_eq_false_iff_ne]; omega
    clear hv
    go_wp2
    go_ret
    refine ⟨_, rfl, ?_, hb⟩
    rw [H2.out]
    exact hown

theorem ref_split' (s : ByteArray) (c : UInt8) (ci : Int) (hc : ci = (c.toNat : Int)) (w : World) (hs : s.size ≤ 800) : Calls Tryz.prog 105 #[.string s, .int .u8 ci] w fun e w' =>
    ∃ ao n cap, e = .returned (.slice ao n cap) ∧ w'.ownsRow w.heap.size 9 1 (.slice ao n cap) (splitL c s.data.toList).length ((splitL c s.data.toList).map strV) ∧ Below w.heap.size w w' := by
  subst hc
  refine (ref_split s c w hs).mono ?_
  rintro e w' ⟨v, rfl, h, hb⟩
  rcases own_shape h with ⟨rfl, _⟩ | ⟨g, cap, rfl, _⟩
  · exact ⟨_, _, _, rfl, h, hb⟩
  · exact ⟨_, _, _, rfl, h, hb⟩

end Go.Proofs.YtenbnmbbfeekpabGreatDoor

/-
  The document's answer's Check over what read lays: how its packages lie, and which one is there twice.
-/
namespace Go.Proofs.YtenbnmbbfeekpabGreatDoor
open Go.RowKit

/-- A package of the document's answer: its five cells. -/
def rpkCells (p : Pk) (vn vc vp : Value) : List Value := [strV [b8 p.n, b8 p.v], strV (mkT p.m), vn, vc, vp]
def RPkAt (w : World) (p : Pk) (vn vc vp : Value) : Prop := StAt w vn (p.needs.map ndT) ∧ StAt w vc (p.conf.map cnT) ∧ StAt w vp (p.prov.map fun c => [b8 c])
def RPkC (w : World) (c : List Value) (p : Pk) : Prop := ∃ vn vc vp, c = rpkCells p vn vc vp ∧ RPkAt w p vn vc vp
def RPksAt (w : World) (v : Value) (ps : List Pk) : Prop := ∃ css : List (List Value), w.ownsRow 0 173 5 v ps.length css.flatten ∧ All2 (RPkC w) css ps
theorem RPkC.below {w w' : World} {c : List Value} {p : Pk} (h : RPkC w c p) (hb : Below w.heap.size w w') : RPkC w' c p := by
  obtain ⟨a, b, d, e, f⟩ := h; exact ⟨a, b, d, e, f.1.below hb, f.2.1.below hb, f.2.2.below hb⟩
theorem RPkC.alloc {w : World} {c : List Value} {p : Pk} (h : RPkC w c p) (o : Obj) : RPkC (w.alloc o) c p := by
  obtain ⟨a, b, d, e, f⟩ := h; exact ⟨a, b, d, e, f.1.alloc o, f.2.1.alloc o, f.2.2.alloc o⟩
theorem RPkC.setT {w : World} {c : List Value} {p : Pk} (h : RPkC w c p) {k : Nat} {cur : Array Value} {T : TypeId} {m : Nat × Nat} (hk : w.heap[k]? = some (.cells cur T m)) (hT : 9 ≠ T) (o : Nat) (u : Value) : RPkC (w.setCell ⟨k, o, none⟩ u) c p := by
  obtain ⟨a, b, d, e, f⟩ := h; exact ⟨a, b, d, e, f.1.setT hk hT o u, f.2.1.setT hk hT o u, f.2.2.setT hk hT o u⟩
theorem RPkC.other {w w' : World} {c : List Value} {p : Pk} (h : RPkC w c p) {b : Nat} {sz : Nat} {o : Value} {n : Nat} {xs : List Value} (ho : w.ownsRow b 173 sz o n xs) (hg : w.grownBy w' o.ownBlock) : RPkC w' c p := by
  obtain ⟨a, b, d, e, f⟩ := h; exact ⟨a, b, d, e, f.1.other ho (by decide) hg, f.2.1.other ho (by decide) hg, f.2.2.other ho (by decide) hg⟩
theorem RPksAt.below {w w' : World} {v : Value} {ps : List Pk} (h : RPksAt w v ps) (hb : Below w.heap.size w w') : RPksAt w' v ps := by
  obtain ⟨css, h1, h2⟩ := h
  exact ⟨css, World.ownsRow.kept (row := none) h1 ⟨hb.os, hb.tape, hb.output, hb.size, fun k hk _ => hb.block k hk⟩ (by rcases v.ownBlock with _ | k <;> simp), h2.mono fun _ _ h => h.below hb⟩
theorem RPksAt.setT {w : World} {v : Value} {ps : List Pk} (h : RPksAt w v ps) {k : Nat} {cur : Array Value} {T : TypeId} {m : Nat × Nat} (hk : w.heap[k]? = some (.cells cur T m)) (h0 : 173 ≠ T) (h1 : 9 ≠ T) (o : Nat) (u : Value) : RPksAt (w.setCell ⟨k, o, none⟩ u) v ps := by
  obtain ⟨css, h4, h5⟩ := h
  exact ⟨css, own_setT h4 hk h0 o u, h5.mono fun _ _ h => h.setT hk h1 o u⟩
def RDcAt (w : World) (d : Dc) (vp vi vr vu : Value) : Prop := RPksAt w vp d.packs ∧ StAt w vi (d.ins.map cnT) ∧ StAt w vr (d.rem.map cnT) ∧ StAt w vu (d.upg.map cnT)
theorem RDcAt.below {w w' : World} {d : Dc} {vp vi vr vu : Value} (h : RDcAt w d vp vi vr vu) (hb : Below w.heap.size w w') : RDcAt w' d vp vi vr vu := ⟨h.1.below hb, h.2.1.below hb, h.2.2.1.below hb, h.2.2.2.below hb⟩
theorem RDcAt.setT {w : World} {d : Dc} {vp vi vr vu : Value} (h : RDcAt w d vp vi vr vu) {k : Nat} {cur : Array Value} {T : TypeId} {m : Nat × Nat} (hk : w.heap[k]? = some (.cells cur T m)) (h0 : 173 ≠ T) (h1 : 9 ≠ T) (o : Nat) (u : Value) : RDcAt (w.setCell ⟨k, o, none⟩ u) d vp vi vr vu :=
  ⟨h.1.setT hk h0 h1 o u, h.2.1.setT hk h1 o u, h.2.2.1.setT hk h1 o u, h.2.2.2.setT hk h1 o u⟩

/-- The cells of a package in the row. -/
def RPkRow (w : World) (g j : Nat) (p : Pk) : Prop := ∃ an nn cn ac nc cc ap np cp, w.cell? ⟨g, j * 5, none⟩ = some (strV [b8 p.n, b8 p.v]) ∧ w.cell? ⟨g, j * 5 + 1, none⟩ = some (strV (mkT p.m)) ∧
  w.cell? ⟨g, j * 5 + 2, none⟩ = some (.slice an nn cn) ∧ w.cell? ⟨g, j * 5 + 3, none⟩ = some (.slice ac nc cc) ∧ w.cell? ⟨g, j * 5 + 4, none⟩ = some (.slice ap np cp)
theorem rpks_rows {w : World} {v : Value} {ps : List Pk} (h : RPksAt w v ps) : (v = .slice none 0 0 ∧ ps = []) ∨ ∃ g cap, v = .slice (some ⟨g, 0, none⟩) ps.length cap ∧ ps.length ≤ cap ∧ g < w.heap.size ∧ ∀ j (h : j < ps.length), RPkRow w g j ps[j] := by
  obtain ⟨css, h1, h2⟩ := h
  rcases own_shape h1 with ⟨rfl, h0⟩ | ⟨g, cap, rfl, hc⟩
  · exact Or.inl ⟨rfl, List.eq_nil_of_length_eq_zero h0⟩
  · refine Or.inr ⟨g, cap, rfl, hc, own_lt h1, fun j hj => ?_⟩
    obtain ⟨c, hcj, vn, vc, vp, rfl, hp⟩ := h2.get (j := j) (List.getElem?_eq_getElem hj)
    have h5 : ∀ c ∈ css, c.length = 5 := All2.forall (Q := fun c : List Value => c.length = 5) (fun a b ⟨_, _, _, e, _⟩ => by rw [e]; rfl) h2
    have hf : ∀ k, k < 5 → css.flatten[j * 5 + k]? = (rpkCells ps[j] vn vc vp)[k]? := fun k hk => by rw [flat_get 5 css h5 j k hk, hcj]; rfl
    obtain ⟨an, nn, cn, rfl⟩ := hp.1.shape
    obtain ⟨ac, nc, cc, rfl⟩ := hp.2.1.shape
    obtain ⟨ap, np, cp, rfl⟩ := hp.2.2.shape
    exact ⟨an, nn, cn, ac, nc, cc, ap, np, cp, own_cell h1 _ _ (hf 0 (by omega)), own_cell h1 _ _ (hf 1 (by omega)), own_cell h1 _ _ (hf 2 (by omega)), own_cell h1 _ _ (hf 3 (by omega)), own_cell h1 _ _ (hf 4 (by omega))⟩

/-- Two packages' texts are one just if name and version are. -/
theorem id_eq {p q : Pk} (hp : PkOk p) (hq : PkOk q) : (bs [b8 p.n, b8 p.v] = bs [b8 q.n, b8 q.v]) ↔ p.n = q.n ∧ p.v = q.v := by
  constructor
  · intro h
    have h2 := bs_inj h
    simp at h2
    have a1 := nm_rng hp.n
    have a2 := nm_rng hq.n
    have a3 := vr_rng hp.v
    have a4 := vr_rng hq.v
    have e1 := congrArg UInt8.toNat h2.1
    have e2 := congrArg UInt8.toNat h2.2
    rw [b8_val (by omega), b8_val (by omega)] at e1 e2
    exact ⟨e1, e2⟩
  · rintro ⟨h1, h2⟩
    rw [h1, h2]

/-- Is one of the packages from k on, ahead of i, the same? -/
theorem amB_step {ps : List Pk} {i k : Nat} (hk : k < i) (hi : i ≤ ps.length) (n v : Nat) : amB ((ps.take i).drop k) n v = ((ps[k].n == n && ps[k].v == v) || amB ((ps.take i).drop (k + 1)) n v) := by
  rw [List.drop_eq_getElem_cons (by simp; omega)]
  simp [amB]

end Go.Proofs.YtenbnmbbfeekpabGreatDoor
