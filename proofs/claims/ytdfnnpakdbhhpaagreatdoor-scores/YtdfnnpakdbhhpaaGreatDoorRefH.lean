import Derived.Test.YtdfnnpakdbhhpaaGreatDoorRefE
import Derived.Test.YtdfnnpakdbhhpaaGreatDoorRefB
import Derived.Deep.QuietTactic
import Derived.BigQuiet
namespace Go.Proofs.YtdfnnpakdbhhpaaGreatDoor
open Go.RowKit

set_option maxHeartbeats 1600000 in
set_option maxRecDepth 100000 in
theorem ref_Check (s : ByteArray) (w : World) (hs : s.size ≤ maxLen) : Calls Tryz.prog 28 #[.string s] w fun e w' => e = .returned (.tuple #[.int .i64 (rdE s.data.toList), .int .i64 (rdP s.data.toList)]) ∧ Below w.heap.size w w' := by
  have hs' := hs
  unfold maxLen at hs
  by_cases hlong : 800 < s.size
  · have HE : Hid (rdE s.data.toList = 1 ∧ rdP s.data.toList = 0) := by show _ ∧ _; unfold rdE rdP; rw [sz, if_pos hlong, if_pos hlong]; exact ⟨rfl, rfl⟩
    go_enter Tryz.func28, Tryz.ntmps28
    go_wp2
    go_ret2
    exact ⟨by rw [HE.out.1, HE.out.2]; rfl, Below.refl _ _⟩
  · obtain ⟨r1, r2⟩ := dc_run s.data.toList
    cases hbad : dcBad s.data.toList with
    | true =>
      have HP : Hid (plF 0 s.data.toList 0 = (dcI s.data.toList : Int)) := r2 hbad
      have HE : Hid (rdE s.data.toList = 2 ∧ rdP s.data.toList = dcI s.data.toList) := by show _ ∧ _; unfold rdE rdP; rw [sz, if_neg hlong, if_neg hlong, if_pos hbad, if_pos hbad]; exact ⟨rfl, rfl⟩
      clear r1 r2 hbad
      go_enter Tryz.func28, Tryz.ntmps28
      go_wp2_with fail
      refine (ref_place s _ hs').mono ?_
      rintro e w1 ⟨rfl, rfl⟩
      rw [HP.out]
      go_wp2
      go_ret2
      exact ⟨by rw [HE.out.1, HE.out.2]; rfl, Below.refl _ _⟩
    | false =>
      obtain ⟨hP, hT, hok⟩ := r1 hbad
      have HP : Hid (plF 0 s.data.toList 0 = -1) := hP
      have HT : Hid (s.data.toList = dcT (dcV s.data.toList)) := hT
      have HB : Hid (dcBad s.data.toList = false) := hbad
      clear r1 r2 hP hT hbad
      have hs8 : s.size ≤ 800 := by omega
      go_enter Tryz.func28, Tryz.ntmps28
      go_wp2_with fail
      refine (ref_place s _ hs').mono ?_
      rintro e w1 ⟨rfl, rfl⟩
      rw [HP.out]
      go_wp2_with fail
      refine (ref_read (dcV s.data.toList) hok s HT.out _ hs8).mono ?_
      rintro e w2 ⟨ap, np, cp, ai, ni, ci, ar, nr, cr, au, nu, cu, rfl, hd, hb⟩
      have hpk := hok.packs
      have hnp : np = (dcV s.data.toList).packs.length := by
        obtain ⟨css, h1, _⟩ := hd.1
        rcases own_shape h1 with ⟨h, h0⟩ | ⟨g, cap, h, _⟩
        · injection h with _ h _; omega
        · injection h with _ h _
      subst hnp
      have hE3 := rd_3 (t := s.data.toList) (by rw [sz]; exact hlong) HB.out
      have hE4 := rd_4 (t := s.data.toList) (by rw [sz]; exact hlong) HB.out
      have hE0 := rd_0 (t := s.data.toList) (by rw [sz]; exact hlong) HB.out
      have hrows := rpks_rows hd.1
      generalize (dcV s.data.toList).packs = ps at *
      have H3 : Hid _ := hE3
      have H4 : Hid _ := hE4
      have H0 : Hid _ := hE0
      have HR : Hid _ := hrows
      have HK : Hid _ := hpk
      have HBW : Hid (Below w1.heap.size w1 w2) := hb
      clear hE3 hE4 hE0 hrows hpk hd HP HT HB hb hok
      by_cases hmany : 20 < ps.length
      · have HE : Hid (rdE s.data.toList = 3 ∧ rdP s.data.toList = 0) := H3.out hmany
        go_wp2
        go_ret2
        exact ⟨by rw [HE.out.1, HE.out.2]; rfl, HBW.out.alloc HBW.out.size _⟩
      · replace H4 := H4.out hmany
        replace H0 := H0.out hmany
        have H4' : Hid _ := H4
        have H0' : Hid _ := H0
        clear H3 H4 H0
        go_wp2_with fail
        obtain ⟨W, hW⟩ : ∃ W, W = w2.alloc (.cells #[.slice ap ps.length cp, .slice ai ni ci, .slice ar nr cr, .slice au nu cu] 69) := ⟨_, rfl⟩
        have hbd : W.heap[w2.heap.size]? = some (.cells #[.slice ap ps.length cp, .slice ai ni ci, .slice ar nr cr, .slice au nu cu] 69 (0, 0)) := by rw [hW]; exact blk_new _ _
        have HW : Hid (Below w1.heap.size w1 W) := by show Below _ _ _; rw [hW]; exact HBW.out.alloc HBW.out.size _
        have HR' : Hid ((ps = []) ∨ ∃ g, ap = some ⟨g, 0, none⟩ ∧ ∀ j (h : j < ps.length), RPkRow W g j ps[j]) := by
          rcases HR.out with ⟨_, h⟩ | ⟨g, cap, h1, _, hg, h⟩
          · exact Or.inl h
          · injection h1 with h1 _ _
            refine Or.inr ⟨g, h1, fun j hj => ?_⟩
            obtain ⟨a1, a2, a3, a4, a5, a6, a7, a8, a9, x⟩ := h j hj
            refine ⟨a1, a2, a3, a4, a5, a6, a7, a8, a9, ?_⟩
            have hbb : Below w2.heap.size w2 W := by rw [hW]; exact (Below.refl _ _).alloc (Nat.le_refl _) _
            rw [hbb.cell (p := ⟨g, _, none⟩) hg, hbb.cell (p := ⟨g, _, none⟩) hg, hbb.cell (p := ⟨g, _, none⟩) hg, hbb.cell (p := ⟨g, _, none⟩) hg, hbb.cell (p := ⟨g, _, none⟩) hg]
            exact x
        have d0 : W.cell? ⟨w2.heap.size, 0, none⟩ = some (.slice ap ps.length cp) := by rw [cellAt hbd]; rfl
        rw [← hW]
        clear hW hbd HBW HR
        go_loopw [6] (fun i wr => ∃ k m : Nat, k ≤ ps.length ∧ i = .int .i64 k ∧ wr = W.drewN m ∧ Hid (ftT ps = ftF ps (ps.length + 1 - k) k)) (fun i _ => ps.length - (intOf i).toNat)
        case atStart => exact ⟨0, 0, by omega, rfl, rfl, rfl⟩
        case round =>
          obtain ⟨k, m, hk, rfl, rfl, HF⟩ := hrel
          by_cases hlt : k < ps.length
          · obtain ⟨g, rfl, hrow⟩ : ∃ g, ap = some ⟨g, 0, none⟩ ∧ ∀ j (h : j < ps.length), RPkRow W g j ps[j] := by
              rcases HR'.out with h | h
              · rw [h] at hlt; simp at hlt
              · exact h
            have HRR : Hid (∀ j (h : j < ps.length), RPkRow W g j ps[j]) := hrow
            obtain ⟨_, _, _, _, _, _, _, _, _, xk, _⟩ := hrow k hlt
            unfold strV at xk
            clear hrow HR'
            have HD : Hid (ftF ps (ps.length + 1 - k) k = if amB (ps.take k) ps[k].n ps[k].v then k else ftF ps (ps.length + 1 - (k + 1)) (k + 1)) := by
              show _ = _
              rw [show ps.length + 1 - k = (ps.length + 1 - (k + 1)) + 1 by omega, ftF, List.getElem?_eq_getElem hlt]
            go_wp2_with fail
            go_loopw [7] (fun i wr => ∃ j m2 : Nat, j ≤ k ∧ i = .int .i64 j ∧ wr = W.drewN m2 ∧ Hid (amB (ps.take k) ps[k].n ps[k].v = amB ((ps.take k).drop j) ps[k].n ps[k].v)) (fun i _ => k - (intOf i).toNat)
            case atStart => exact ⟨0, m, by omega, rfl, rfl, rfl⟩
            case round =>
              obtain ⟨j, m2, hj, rfl, rfl, HA⟩ := hrel
              by_cases hjk : j < k
              · have hjl : j < ps.length := by omega
                obtain ⟨_, _, _, _, _, _, _, _, _, xj, _⟩ := HRR.out j hjl
                unfold strV at xj
                have HS : Hid (amB ((ps.take k).drop j) ps[k].n ps[k].v = ((ps[j].n == ps[k].n && ps[j].v == ps[k].v) || amB ((ps.take k).drop (j + 1)) ps[k].n ps[k].v)) := amB_step hjk (by omega) _ _
                have hid := id_eq (HK.out ps[j] (List.getElem_mem _)) (HK.out ps[k] (List.getElem_mem _))
                by_cases he : ps[j].n = ps[k].n ∧ ps[j].v = ps[k].v
                · have heq := hid.2 he
                  have HFF : Hid (rdE s.data.toList = 4 ∧ rdP s.data.toList = k) := by
                    have h9 : ftT ps = k := by rw [HF.out, HD.out, HA.out, HS.out]; simp [he.1, he.2]
                    have h8 : ftT ps < ps.length := by rw [h9]; exact hlt
                    have h7 := H4'.out h8
                    rwa [h9] at h7
                  clear hid he
                  go_wp2_with fail
                  go_quiet (fail)
                  go_wp2
                  go_ret2
                  exact ⟨by rw [HFF.out.1, HFF.out.2]; rfl, HW.out.trans (show Below w1.heap.size W ((W.drewN m2).drewN nq) from ⟨rfl, rfl, rfl, Nat.le_refl _, fun _ _ => rfl⟩)⟩
                · have hne : ¬ (bs [b8 ps[j].n, b8 ps[j].v] = bs [b8 ps[k].n, b8 ps[k].v]) := fun h => he (hid.1 h)
                  have HFF : Hid (amB (ps.take k) ps[k].n ps[k].v = amB ((ps.take k).drop (j + 1)) ps[k].n ps[k].v) := by
                    show _ = _; rw [HA.out, HS.out]
                    have : (ps[j].n == ps[k].n && ps[j].v == ps[k].v) = false := by simpa using he
                    rw [this]; simp
                  clear hid he
                  have hneb : ((bs [b8 ps[j].n, b8 ps[j].v]).toList == (bs [b8 ps[k].n, b8 ps[k].v]).toList) = false := by
                    rw [beq_eq_false_iff_ne, ByteArray.toList_eq, ByteArray.toList_eq, bs_list, bs_list]; intro h; exact hne (congrArg bs h)
                  go_wp2_with fail
                  go_quiet (fail)
                  go_wp2
                  go_roundw
                  case rel => exact ⟨j + 1, m2 + nq, by omega, by go_num, rfl, HFF⟩
                  case measure => simp [intOf]; omega
              · have HFF : Hid (ftT ps = ftF ps (ps.length + 1 - (k + 1)) (k + 1)) := by
                  have hjk' : j = k := by omega
                  have h9 : amB (ps.take k) ps[k].n ps[k].v = false := by rw [HA.out, hjk', List.drop_of_length_le (by simp; omega)]; rfl
                  show _ = _; rw [HF.out, HD.out, if_neg (by simp [h9])]
                go_wp2
                go_roundw
                case rel => exact ⟨k + 1, m2, by omega, by go_num, rfl, HFF⟩
                case measure => simp [intOf]; omega
          · have HFF : Hid (rdE s.data.toList = 0 ∧ rdP s.data.toList = 0) := by
              have h9 := HF.out
              have hk' : k = ps.length := by omega
              rw [hk', show ps.length + 1 - ps.length = 0 + 1 by omega, ftF, List.getElem?_eq_none (by omega)] at h9
              have h8 : ¬ ftT ps < ps.length := by rw [h9]; exact Nat.lt_irrefl _
              exact H0'.out h8
            go_wp2
            go_ret2
            exact ⟨by rw [HFF.out.1, HFF.out.2]; rfl, HW.out.trans (show Below w1.heap.size W (W.drewN _) from ⟨rfl, rfl, rfl, Nat.le_refl _, fun _ _ => rfl⟩)⟩

end Go.Proofs.YtdfnnpakdbhhpaaGreatDoor
