import Derived.Test.YtdfnnpakdbhhpaaGreatDoorRefC
import Derived.Test.YtdfnnpakdbhhpaaGreatDoorRepR
namespace Go.Proofs.YtdfnnpakdbhhpaaGreatDoor
open Go.RowKit

set_option maxHeartbeats 800000 in
set_option maxRecDepth 100000 in
theorem ref_pieces (s : ByteArray) (c : UInt8) (ci : Int) (hc : ci = (c.toNat : Int)) (w : World) (hs : s.size ≤ 800) : Calls Tryz.prog 60 #[.string s, .int .u8 ci] w fun e w' =>
    ∃ v, e = .returned v ∧ w'.ownsRow w.heap.size 9 1 v (piecesL c s.data.toList).length ((piecesL c s.data.toList).map strV) ∧ Below w.heap.size w w' := by
  subst hc
  obtain ⟨i0, hi, hz0, hz1, hz2⟩ := info_parts Tryz.infoStr
  by_cases h0 : s.size = 0
  · have hl : s.data.toList = [] := List.eq_nil_of_length_eq_zero (by rw [sz]; exact h0)
    have H1 : Hid (splitL c s.data.toList = []) := by show _ = _; rw [hl]; rfl
    have H2 : Hid (piecesL c s.data.toList = [[]]) := by show _ = _; rw [hl]; rfl
    clear hl
    go_enter Tryz.func60, Tryz.ntmps60
    go_wp2_with fail
    refine (ref_split s c _ hs).mono ?_
    rintro e w1 ⟨v, rfl, hown, hb⟩
    rw [H1.out] at hown
    obtain ⟨ao, cc, hv⟩ : ∃ ao cc, v = .slice ao 0 cc := by
      rcases own_shape hown with ⟨h, _⟩ | ⟨g, cap, h, _⟩
      · exact ⟨_, _, h⟩
      · exact ⟨_, _, h⟩
    rw [hv] at hown ⊢
    have hsz := hb.size
    have HO : Hid _ := hown
    go_wp2_with (at_builtin; refine wpList_append_own _ rfl _ _ 67 rfl w.heap.size 9 i0 (.string ByteArray.empty) 1 16 Tryz.underlying67 hi hz0 hz1 hz2 rfl (by decide) _ _ _ rfl (hown.alloc _) ⟨w1.heap.size, 0, none⟩ 1 1 [.string ByteArray.empty] rfl rfl ?c1 ?c2 ?c3 ?c4 ?c5 ?_)
    case c1 => exact cell_one_new _ _ _
    case c2 => intro u hu; simp at hu; subst hu; rfl
    case c3 => unfold maxLen; simp
    case c4 => simp
    case c5 => simp; omega
    intro v' w2 hown' hgrow _
    go_wp2
    go_ret
    refine ⟨_, rfl, ?_, ((hb.alloc hsz _).grown hgrow (by simp; omega) (fun j hj => (hown.lt j hj).1))⟩
    rw [H2.out]
    exact hown'
  · have hl : s.data.toList.isEmpty = false := by
      rw [List.isEmpty_eq_false_iff]; intro h; apply h0; rw [← sz, h]; rfl
    have H2 : Hid (piecesL c s.data.toList = splitL c s.data.toList) := piecesL_of c _ hl
    have hpos : 0 < (splitL c s.data.toList).length := by
      rw [← H2.out]; unfold piecesL
      cases s.data.toList with
      | nil => simp [piecesGo]
      | cons x l =>
        generalize ([] : List UInt8) = cur
        unfold piecesGo; split
        · simp
        · have : ∀ (l cur : List UInt8), 0 < (piecesGo c cur l).length := by
            intro l
            induction l with
            | nil => intro cur; simp [piecesGo]
            | cons y l ih => intro cur; unfold piecesGo; split <;> simp [ih]
          exact this _ _
    clear hl
    go_enter Tryz.func60, Tryz.ntmps60
    go_wp2_with fail
    refine (ref_split s c _ hs).mono ?_
    rintro e w1 ⟨v, rfl, hown, hb⟩
    generalize splitL c s.data.toList = L at *
    obtain ⟨ao, cc, hv⟩ : ∃ ao cc, v = .slice ao L.length cc := by
      rcases own_shape hown with ⟨h, h0⟩ | ⟨g, cap, h, _⟩
      · exact ⟨_, _, by rw [h, h0]⟩
      · exact ⟨_, _, h⟩
    rw [hv] at hown ⊢
    have hz : ((L.length : Int) == 0) = false := by rw [beq_eq_false_iff_ne]; omega
    clear hv
    go_wp2
    go_ret
    refine ⟨_, rfl, ?_, hb⟩
    rw [H2.out]
    exact hown

theorem ref_split' (s : ByteArray) (c : UInt8) (ci : Int) (hc : ci = (c.toNat : Int)) (w : World) (hs : s.size ≤ 800) : Calls Tryz.prog 61 #[.string s, .int .u8 ci] w fun e w' =>
    ∃ ao n cap, e = .returned (.slice ao n cap) ∧ w'.ownsRow w.heap.size 9 1 (.slice ao n cap) (splitL c s.data.toList).length ((splitL c s.data.toList).map strV) ∧ Below w.heap.size w w' := by
  subst hc
  refine (ref_split s c w hs).mono ?_
  rintro e w' ⟨v, rfl, h, hb⟩
  rcases own_shape h with ⟨rfl, _⟩ | ⟨g, cap, rfl, _⟩
  · exact ⟨_, _, _, rfl, h, hb⟩
  · exact ⟨_, _, _, rfl, h, hb⟩

end Go.Proofs.YtdfnnpakdbhhpaaGreatDoor
