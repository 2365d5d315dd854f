import Derived.Test.YtdfnnpakdbhhpaaGreatDoorRdI
import Derived.Deep.RegionHeld3
namespace Go.Proofs.YtdfnnpakdbhhpaaGreatDoor
open Go.RowKit

theorem PkRow.below {w w' : World} {g j : Nat} {p : Pk} (h : PkRow w g j p) {B : Nat} (hb : Below B w w') (hg : g < B) : PkRow w' g j p := by
  obtain ⟨a, b, c, d, e, f, g', h', i, x⟩ := h
  refine ⟨a, b, c, d, e, f, g', h', i, ?_⟩
  rw [hb.cell (p := ⟨g, _, none⟩) hg, hb.cell (p := ⟨g, _, none⟩) hg, hb.cell (p := ⟨g, _, none⟩) hg, hb.cell (p := ⟨g, _, none⟩) hg, hb.cell (p := ⟨g, _, none⟩) hg, hb.cell (p := ⟨g, _, none⟩) hg]
  exact x

theorem below_drew0 {n : Nat} {W w' : World} (hb : Below n W.drew w') : Below n W w' := ⟨hb.os, hb.tape, hb.output, hb.size, hb.block⟩
theorem dcell0 {W w' : World} (hb : Below W.drew.heap.size W.drew w') {p : Addr} {v : Value} (h : W.cell? p = some v) : w'.cell? p = some v := ((below_drew0 hb).cell (World.block_lt_of_cell? _ _ h)).trans h

set_option maxHeartbeats 1600000 in
set_option maxRecDepth 100000 in
theorem doc_firstTwice (g n cap : Nat) (ps : List Pk) (w : World) (hn : n ≤ 801) (hnc : n ≤ cap) (hps : ps.length = n) (hg : g < w.heap.size) (hrow : ∀ j (h : j < ps.length), PkRow w g j ps[j]) :
    Calls Tryz.prog 42 #[.slice (some ⟨g, 0, none⟩) n cap] w fun e w' => e = .returned (.int .i64 (ftT ps)) ∧ Below w.heap.size w w' := by
  have HR : Hid (∀ j (h : j < ps.length), PkRow w g j ps[j]) := hrow
  clear hrow
  go_enter Tryz.func42, Tryz.ntmps42
  go_wp2
  go_loopw [7] (fun i wr => ∃ k : Nat, k ≤ n ∧ i = .int .i64 k ∧ Hid (ftT ps = ftF ps (n + 1 - k) k) ∧ Below w.heap.size w wr) (fun i _ => n - (intOf i).toNat)
  case atStart => exact ⟨0, by omega, rfl, by show _ = _; unfold ftT; rw [hps]; rfl, Below.refl _ _⟩
  case round =>
    obtain ⟨k, hk, rfl, HP, hb⟩ := hrel
    have hbs := hb.size
    by_cases hlt : k < n
    · have hlt' : k < ps.length := by omega
      obtain ⟨an', nn', cn', ac', nc', cc', ap', np', cp', x0, x1, x2, x3, x4, x5⟩ := HR.out k hlt'
      rw [← hb.cell (p := ⟨g, _, none⟩) hg] at x0 x1 x2 x3 x4 x5
      have hgr : g < wr.heap.size := by omega
      have hk0 : (0 : Int) ≤ (k : Int) := by omega
      have hkc : (k : Int) ≤ (cap : Int) := by omega
      have HW : Hid (∀ wx : World, Below wr.heap.size wr wx → ∀ j (h : j < (ps.take k).length), PkRw wx (some ⟨g, 0, none⟩) j (ps.take k)[j]) := by
        intro wx hx j h
        rw [List.getElem_take]
        have h' : j < ps.length := by simp at h; omega
        exact (((HR.out j h').below hb hg).below hx hgr).rw (Nat.lt_of_lt_of_le hgr hx.size)
      have HD : Hid (ftF ps (n + 1 - k) k = if amB (ps.take k) ps[k].n ps[k].v then k else ftF ps (n + 1 - (k + 1)) (k + 1)) := by
        show _ = _
        rw [show n + 1 - k = (n + 1 - (k + 1)) + 1 by omega, ftF, List.getElem?_eq_getElem hlt']
      by_cases ha : amB (ps.take k) ps[k].n ps[k].v = true
      · have HF : Hid (ftT ps = k) := by show _ = _; rw [HP.out, HD.out, if_pos ha]
        go_wp2_with fail
        have d0 : (wr.alloc (.cells #[.int .u8 ps[k].n, .int .u8 ps[k].v, .int .i64 ps[k].m, .slice an' nn' cn', .slice ac' nc' cc', .slice ap' np' cp'] 88)).cell? ⟨wr.heap.size, 0, none⟩ = some (.int .u8 ps[k].n) := by rw [cellAt (blk_new _ _)]; rfl
        have d1 : (wr.alloc (.cells #[.int .u8 ps[k].n, .int .u8 ps[k].v, .int .i64 ps[k].m, .slice an' nn' cn', .slice ac' nc' cc', .slice ap' np' cp'] 88)).cell? ⟨wr.heap.size, 1, none⟩ = some (.int .u8 ps[k].v) := by rw [cellAt (blk_new _ _)]; rfl
        go_region_held3 (fun w' => w'.cell? ⟨wr.heap.size, 0, none⟩ = some (.int .u8 ps[k].n) ∧ w'.cell? ⟨wr.heap.size, 1, none⟩ = some (.int .u8 ps[k].v)) (first | exact ⟨d0, d1⟩ | exact ⟨dcell0 (by assumption) d0, dcell0 (by assumption) d1⟩)
          (first | (go_at_call 78; refine (doc_Has (some ⟨g, 0, none⟩) k cap (ps.take k) ps[k].n ps[k].v _ (by omega) (by simp; omega) (HW.out _ (Below.drew ((Below.refl _ _).alloc (Nat.le_refl _) _)))).mono ?_; rintro e w1 ⟨rfl, hb1⟩; rw [ha]; have hbw : Below w.heap.size w w1 := (hb.trans (Below.alloc (Below.refl _ _) hbs _)).trans ((below_drew0 hb1).mono (by simp; omega))))
        all_goals (try go_wp2)
        all_goals
          go_ret
          exact ⟨ret_int (by rw [HF.out]), hbw⟩
      · simp only [Bool.not_eq_true] at ha
        have HF : Hid (ftT ps = ftF ps (n + 1 - (k + 1)) (k + 1)) := by show _ = _; rw [HP.out, HD.out, if_neg (by simp [ha])]
        go_wp2_with fail
        have d0 : (wr.alloc (.cells #[.int .u8 ps[k].n, .int .u8 ps[k].v, .int .i64 ps[k].m, .slice an' nn' cn', .slice ac' nc' cc', .slice ap' np' cp'] 88)).cell? ⟨wr.heap.size, 0, none⟩ = some (.int .u8 ps[k].n) := by rw [cellAt (blk_new _ _)]; rfl
        have d1 : (wr.alloc (.cells #[.int .u8 ps[k].n, .int .u8 ps[k].v, .int .i64 ps[k].m, .slice an' nn' cn', .slice ac' nc' cc', .slice ap' np' cp'] 88)).cell? ⟨wr.heap.size, 1, none⟩ = some (.int .u8 ps[k].v) := by rw [cellAt (blk_new _ _)]; rfl
        go_region_held3 (fun w' => w'.cell? ⟨wr.heap.size, 0, none⟩ = some (.int .u8 ps[k].n) ∧ w'.cell? ⟨wr.heap.size, 1, none⟩ = some (.int .u8 ps[k].v)) (first | exact ⟨d0, d1⟩ | exact ⟨dcell0 (by assumption) d0, dcell0 (by assumption) d1⟩)
          (first | (go_at_call 78; refine (doc_Has (some ⟨g, 0, none⟩) k cap (ps.take k) ps[k].n ps[k].v _ (by omega) (by simp; omega) (HW.out _ (Below.drew ((Below.refl _ _).alloc (Nat.le_refl _) _)))).mono ?_; rintro e w1 ⟨rfl, hb1⟩; rw [ha]; have hbw : Below w.heap.size w w1 := (hb.trans (Below.alloc (Below.refl _ _) hbs _)).trans ((below_drew0 hb1).mono (by simp; omega))))
        all_goals (try go_wp2)
        all_goals
          go_roundw
          case rel => exact ⟨k + 1, by omega, by go_num, HF, hbw⟩
          case measure => simp [intOf]; omega
    · have HF : Hid (ftT ps = n) := by
        show _ = _
        have hk' : k = n := by omega
        rw [HP.out, hk', show n + 1 - n = 0 + 1 by omega, ftF, List.getElem?_eq_none (by omega)]
      go_wp2
      go_ret
      exact ⟨ret_int (by rw [HF.out]), hb⟩

end Go.Proofs.YtdfnnpakdbhhpaaGreatDoor
