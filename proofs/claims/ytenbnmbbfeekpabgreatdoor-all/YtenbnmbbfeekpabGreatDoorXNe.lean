import Derived.Test.YtenbnmbbfeekpabGreatDoorXNb
import Derived.Deep.RegionHeld3
import Derived.Test.YtenbnmbbfeekpabGreatDoorXNc
import Derived.Test.YtenbnmbbfeekpabGreatDoorXBq

namespace Go.Proofs.YtenbnmbbfeekpabGreatDoor
open Go.RowKit

theorem fu_lt : ∀ (l : List Nat) (s : Nat), Sm l → fuN l s < 2 ^ 20
  | [], _, _ => by simp [fuN]
  | x :: l, s, h => by
    rw [fuN]
    split
    · exact h x (by simp)
    · exact fu_lt l s fun y hy => h y (by simp [hy])
theorem ugN_lt : ∀ (l : List (Nat × Nat)) (s : Nat), (∀ u ∈ l, u.1 < 2 ^ 20 ∧ u.2 < 2 ^ 20) → ugN l s < 2 ^ 20
  | [], _, _ => by simp [ugN]
  | x :: l, s, h => by
    rw [ugN]
    split
    · exact (h x (by simp)).2
    · exact ugN_lt l s fun y hy => h y (by simp [hy])
theorem ne_sm {l : List Rp} (h : ∀ q ∈ l, Sm q.1 ∧ q.2 < 2 ^ 20) (i : Nat) : Sm (neAt l i) := by
  unfold neAt
  rcases Nat.lt_or_ge i l.length with g | g
  · rw [List.getElem?_eq_getElem g]; exact (h _ (List.getElem_mem g)).1
  · rw [List.getElem?_eq_none g]; intro x hx; simp at hx
theorem nedF_lt {l : List Rp} (h : ∀ q ∈ l, Sm q.1 ∧ q.2 < 2 ^ 20) (s : Nat) : ∀ f k, nedF l s f k < 2 ^ 20
  | 0, k => by simp [nedF]
  | f + 1, k => by
    rw [nedF]
    split
    · split
      · exact fu_lt _ _ (ne_sm h k)
      · exact nedF_lt h s f (k + 1)
    · exact nedF_lt h s f (k + 1)
theorem asN_lt {R : Ru} (h : RuSm R) (s : Nat) : asN R s < 2 ^ 20 := by
  unfold asN
  repeat' split
  · exact nedF_lt h.packs s _ _
  · exact fu_lt _ _ h.stay
  · exact fu_lt _ _ h.ins
  · exact ugN_lt _ _ h.upg

set_option maxHeartbeats 1600000 in
set_option maxRecDepth 100000 in
theorem ch_firstUnmet (v : Value) (L : List Nat) (s : Nat) (w : World) (hv : SV w v L) (hs : Sm L) (hp : s < 2 ^ 20) :
    Calls Tryz.prog 151 #[v, .int .u32 s] w fun e w' => e = .returned (.int .u32 (fuN L s : Nat)) ∧ Below w.heap.size w w' := by
  obtain ⟨hl, a, c, rfl, hrow⟩ := hv
  have HR : Hid _ := hrow
  have HS : Hid (∀ x ∈ L, x < 2 ^ 20) := hs
  clear hrow hs
  go_enter Tryz.func151, Tryz.ntmps151
  go_wp2
  go_loopw [9] (fun i wr => ∃ k : Nat, k ≤ L.length ∧ i = .int .i64 k ∧ Hid (fuN L s = fuN (L.drop k) s) ∧ Below w.heap.size w wr) (fun i _ => L.length - (intOf i).toNat)
  case atStart => exact ⟨0, by omega, rfl, by show _ = _; simp, Below.refl _ _⟩
  case round =>
    obtain ⟨k, hk, rfl, HP, hb⟩ := hrel
    by_cases hlt : k < L.length
    · obtain ⟨g, off, rfl, hg, x0⟩ := HR.out k hlt
      rw [← hb.cell (p := ⟨g, _, none⟩) hg] at x0
      have hx := HS.out _ (List.getElem_mem hlt)
      have HD : Hid (fuN (L.drop k) s = if (L[k] &&& s) = 0 then L[k] else fuN (L.drop (k + 1)) s) := by show _ = _; rw [List.drop_eq_getElem_cons hlt]; rfl
      generalize L[k] = x at *
      have a1 := and_u32 x s (by omega) (by omega)
      by_cases h0 : x &&& s = 0
      · have e0 : (((x &&& s : Nat) : Int) == 0) = true := by rw [beq_iff_eq]; omega
        have HF : Hid (fuN L s = x) := by show _ = _; rw [HP.out, HD.out, if_pos h0]
        clear h0 HD HP
        go_wp2
        go_ret
        exact ⟨ret_int (by rw [HF.out]), hb⟩
      · have e0 : (((x &&& s : Nat) : Int) == 0) = false := by rw [beq_eq_false_iff_ne]; omega
        have HF : Hid (fuN L s = fuN (L.drop (k + 1)) s) := by show _ = _; rw [HP.out, HD.out, if_neg h0]
        clear h0 HD HP
        go_wp2
        go_roundw
        case rel => exact ⟨k + 1, by omega, by go_num, HF, hb⟩
        case measure => simp [intOf]; omega
    · have HF : Hid (fuN L s = 0) := by show _ = _; rw [HP.out, List.drop_of_length_le (by omega)]; rfl
      clear HP
      go_wp2
      go_ret
      exact ⟨ret_int (by rw [HF.out]; rfl), hb⟩

set_option maxHeartbeats 1600000 in
set_option maxRecDepth 100000 in
theorem ch_upgraded (v : Value) (L : List (Nat × Nat)) (s : Nat) (w : World) (hv : UpV w v L) (hq : ∀ u ∈ L, u.1 < 2 ^ 20 ∧ u.2 < 2 ^ 20) (hp : s < 2 ^ 20) :
    Calls Tryz.prog 152 #[v, .int .u32 s] w fun e w' => e = .returned (.int .u32 (ugN L s : Nat)) ∧ Below w.heap.size w w' := by
  obtain ⟨hl, a, c, rfl, hrow⟩ := hv
  have HR : Hid _ := hrow
  have HQ : Hid (∀ u ∈ L, u.1 < 2 ^ 20 ∧ u.2 < 2 ^ 20) := hq
  clear hrow hq
  go_enter Tryz.func152, Tryz.ntmps152
  go_wp2
  go_loopw [9] (fun i wr => ∃ k : Nat, k ≤ L.length ∧ i = .int .i64 k ∧ Hid (ugN L s = ugN (L.drop k) s) ∧ Below w.heap.size w wr) (fun i _ => L.length - (intOf i).toNat)
  case atStart => exact ⟨0, by omega, rfl, by show _ = _; simp, Below.refl _ _⟩
  case round =>
    obtain ⟨k, hk, rfl, HP, hb⟩ := hrel
    have hbs := hb.size
    by_cases hlt : k < L.length
    · obtain ⟨g, off, rfl, hg, x0, x1⟩ := HR.out k hlt
      rw [← hb.cell (p := ⟨g, _, none⟩) hg] at x0 x1
      have hx := (HQ.out _ (List.getElem_mem hlt)).2
      have HD : Hid (ugN (L.drop k) s = if (L[k].2 &&& s) = 0 then L[k].2 else ugN (L.drop (k + 1)) s) := by show _ = _; rw [List.drop_eq_getElem_cons hlt]; rfl
      have HBA : Hid (Below w.heap.size w (wr.alloc (.cells #[.int .u32 (L[k].1 : Int), .int .u32 (L[k].2 : Int)] 189))) := hb.alloc hbs _
      generalize L[k] = u at *
      have a1 := and_u32 u.2 s (by omega) (by omega)
      by_cases h0 : u.2 &&& s = 0
      · have e0 : (((u.2 &&& s : Nat) : Int) == 0) = true := by rw [beq_iff_eq]; omega
        have HF : Hid (ugN L s = u.2) := by show _ = _; rw [HP.out, HD.out, if_pos h0]
        clear h0 HD HP
        go_wp2
        go_ret
        exact ⟨ret_int (by rw [HF.out]), HBA.out⟩
      · have e0 : (((u.2 &&& s : Nat) : Int) == 0) = false := by rw [beq_eq_false_iff_ne]; omega
        have HF : Hid (ugN L s = ugN (L.drop (k + 1)) s) := by show _ = _; rw [HP.out, HD.out, if_neg h0]
        clear h0 HD HP
        go_wp2
        go_roundw
        case rel => exact ⟨k + 1, by omega, by go_num, HF, HBA.out⟩
        case measure => simp [intOf]; omega
    · have HF : Hid (ugN L s = 0) := by show _ = _; rw [HP.out, List.drop_of_length_le (by omega)]; rfl
      clear HP
      go_wp2
      go_ret
      exact ⟨ret_int (by rw [HF.out]; rfl), hb⟩

theorem ned_step (l : List Rp) (s : Nat) {k n : Nat} (h : k < n) : nedF l s (n - k) k = if hasN s k then (if fuN (neAt l k) s ≠ 0 then fuN (neAt l k) s else nedF l s (n - (k + 1)) (k + 1)) else nedF l s (n - (k + 1)) (k + 1) := by rw [show n - k = (n - (k + 1)) + 1 by omega, nedF]
theorem ned_end (l : List Rp) (s : Nat) {k n : Nat} (h : ¬ k < n) : nedF l s (n - k) k = 0 := by rw [show n - k = 0 by omega, nedF]

set_option maxHeartbeats 3200000 in
set_option maxRecDepth 100000 in
theorem ch_needed (ao : Option Addr) (cap : Nat) (l : List Rp) (s : Nat) (w : World) (hp : RpV w ao l) (hq : ∀ q ∈ l, Sm q.1 ∧ q.2 < 2 ^ 20) (hs : s < 2 ^ 20) :
    Calls Tryz.prog 150 #[.slice ao l.length cap, .int .u32 s] w fun e w' => e = .returned (.int .u32 (nedF l s l.length 0 : Nat)) ∧ Below w.heap.size w w' := by
  have hl := hp.1
  have HR : Hid _ := hp.2
  have HQ : Hid (∀ q ∈ l, Sm q.1 ∧ q.2 < 2 ^ 20) := hq
  obtain ⟨R, hRR⟩ : ∃ R, nedF l s l.length 0 = R := ⟨_, rfl⟩
  have H0 : Hid (nedF l s (l.length - 0) 0 = R) := hRR
  have HA : Hid (∀ k (h : k < l.length), neAt l k = l[k].1) := fun k h => by unfold neAt; rw [List.getElem?_eq_getElem h]
  rw [hRR]
  clear hp hq hRR
  go_enter Tryz.func150, Tryz.ntmps150
  go_wp2
  go_loopw [10] (fun i wr => ∃ k : Nat, k ≤ l.length ∧ i = .int .i64 k ∧ Hid (nedF l s (l.length - k) k = R) ∧ Below w.heap.size w wr) (fun i _ => l.length - (intOf i).toNat)
  case atStart => exact ⟨0, by omega, rfl, H0, Below.refl _ _⟩
  case round =>
    obtain ⟨k, hk, rfl, HI, hb⟩ := hrel
    have hbs := hb.size
    by_cases hlt : k < l.length
    · obtain ⟨g, off, a, n, c, rfl, hg, x0, x1, hsv⟩ := HR.out k hlt
      rw [← hb.cell (p := ⟨g, _, none⟩) hg] at x0 x1
      have HV : Hid (∀ w', Below w.heap.size w w' → SV w' (.slice a n c) l[k].1) := fun w' hb => hsv.below hb
      have HSM : Hid (Sm l[k].1) := (HQ.out _ (List.getElem_mem hlt)).1
      have HD : Hid ((if hasN s k then (if fuN l[k].1 s ≠ 0 then fuN l[k].1 s else nedF l s (l.length - (k + 1)) (k + 1)) else nedF l s (l.length - (k + 1)) (k + 1)) = R) := by show _ = _; rw [← HI.out, ned_step _ _ hlt, HA.out k hlt]
      have HBA : Hid (Below w.heap.size w (wr.alloc (.cells #[.slice a n c, .int .u32 (l[k].2 : Int)] 144))) := hb.alloc hbs _
      clear hsv HI
      generalize l[k] = q at *
      cases hh : hasN s k with
      | false =>
        have HF : Hid (nedF l s (l.length - (k + 1)) (k + 1) = R) := by show _ = _; rw [← HD.out, hh]; rfl
        have HE : Hid (hasN s k = false) := hh
        clear hh HD
        go_wp2_with fail
        refine (set_Has s k hs _).mono ?_
        rintro e w1 ⟨rfl, rfl⟩
        rw [HE.out]
        go_wp2
        go_roundw
        case rel => exact ⟨k + 1, by omega, by go_num, HF, HBA.out⟩
        case measure => simp [intOf]; omega
      | true =>
        have HE : Hid (hasN s k = true) := hh
        have HD2 : Hid ((if fuN q.1 s ≠ 0 then fuN q.1 s else nedF l s (l.length - (k + 1)) (k + 1)) = R) := by show _ = _; rw [← HD.out, hh]; rfl
        clear hh HD
        go_wp2_with fail
        refine (set_Has s k hs _).mono ?_
        rintro e w1 ⟨rfl, rfl⟩
        rw [HE.out]
        go_wp2_with fail
        refine (ch_firstUnmet _ q.1 s _ (HV.out _ HBA.out) HSM.out hs).mono ?_
        rintro e w2 ⟨rfl, hb2⟩
        have HB2 : Hid (Below w.heap.size w w2) := HBA.out.trans (hb2.mono (by simp; omega))
        clear hb2
        generalize fuN q.1 s = F at *
        by_cases h0 : F = 0
        · have e0 : ((F : Int) != 0) = false := by rw [bne_eq_false_iff_eq]; omega
          have HF : Hid (nedF l s (l.length - (k + 1)) (k + 1) = R) := by show _ = _; rw [← HD2.out, if_neg (by omega)]
          clear h0 HD2
          go_wp2
          go_roundw
          case rel => exact ⟨k + 1, by omega, by go_num, HF, HB2.out⟩
          case measure => simp [intOf]; omega
        · have e0 : ((F : Int) != 0) = true := by rw [bne_iff_ne]; omega
          have HF : Hid (F = R) := by show _ = _; rw [← HD2.out, if_pos h0]
          clear h0 HD2
          go_wp2
          go_ret
          exact ⟨ret_int (by rw [HF.out]), HB2.out⟩
    · have HF : Hid (0 = R) := by show _ = _; rw [← HI.out, ned_end _ _ hlt]
      clear HI
      go_wp2
      go_ret
      exact ⟨ret_int (by rw [← HF.out]; rfl), hb⟩

end Go.Proofs.YtenbnmbbfeekpabGreatDoor

namespace Go.Proofs.YtenbnmbbfeekpabGreatDoor
open Go.RowKit

set_option maxHeartbeats 6400000 in
set_option maxRecDepth 100000 in
theorem ch_asked (R : Ru) (s : Nat) (ap : Option Addr) (np cp : Nat) (az : Option Addr) (nz cz : Nat) (ai : Option Addr) (ni ci : Nat) (au : Option Addr) (nu cu : Nat) (w : World) (hR : RuV w R ap np cp az nz cz ai ni ci au nu cu) (hm : RuSm R) (hs : s < 2 ^ 20) :
    Calls Tryz.prog 133 #[.agg #[.slice ap np cp, .slice az nz cz, .slice ai ni ci, .int .u32 R.rem, .slice au nu cu], .int .u32 s] w fun e w' => e = .returned (.int .u32 (asN R s : Nat)) ∧ Below w.heap.size w w' := by
  have hlen := hR.len
  subst hlen
  have HV : Hid (∀ w', Below w.heap.size w w' → RuV w' R ap R.packs.length cp az nz cz ai ni ci au nu cu) := fun w' hb => hR.below hb
  have HM : Hid (RuSm R) := hm
  have HA : Hid (asN R s = if nedF R.packs s R.packs.length 0 ≠ 0 then nedF R.packs s R.packs.length 0 else if fuN R.stay s ≠ 0 then fuN R.stay s else if fuN R.ins s ≠ 0 then fuN R.ins s else ugN R.upg s) := rfl
  clear hR hm
  have HB0 : Hid (Below w.heap.size w (w.alloc (.cells #[.slice ap R.packs.length cp, .slice az nz cz, .slice ai ni ci, .int .u32 R.rem, .slice au nu cu] 95))) := (Below.refl _ _).alloc (Nat.le_refl _) _
  have HR0 : Hid ((w.alloc (.cells #[.slice ap R.packs.length cp, .slice az nz cz, .slice ai ni ci, .int .u32 R.rem, .slice au nu cu] 95)).heap[w.heap.size]? = some (.cells #[.slice ap R.packs.length cp, .slice az nz cz, .slice ai ni ci, .int .u32 R.rem, .slice au nu cu] 95 (0, 0))) := blk_new _ _
  go_enter Tryz.func133, Tryz.ntmps133
  go_wp2_with fail
  refine (ch_needed ap cp R.packs s _ (HV.out _ HB0.out).packs HM.out.packs hs).mono ?_
  rintro e w1 ⟨rfl, hb1⟩
  have HB1 : Hid (Below w.heap.size w w1) := HB0.out.trans (hb1.mono (by simp))
  have HR1 : Hid (w1.heap[w.heap.size]? = some (.cells #[.slice ap R.packs.length cp, .slice az nz cz, .slice ai ni ci, .int .u32 R.rem, .slice au nu cu] 95 (0, 0))) := blk_below hb1 HR0.out (ltAt HR0.out)
  have r10 : w1.cell? ⟨w.heap.size, 0, none⟩ = some (.slice ap R.packs.length cp) := (cellAt HR1.out 0).trans rfl
  have r11 : w1.cell? ⟨w.heap.size, 1, none⟩ = some (.slice az nz cz) := (cellAt HR1.out 1).trans rfl
  have r12 : w1.cell? ⟨w.heap.size, 2, none⟩ = some (.slice ai ni ci) := (cellAt HR1.out 2).trans rfl
  have r13 : w1.cell? ⟨w.heap.size, 3, none⟩ = some (.int .u32 R.rem) := (cellAt HR1.out 3).trans rfl
  have r14 : w1.cell? ⟨w.heap.size, 4, none⟩ = some (.slice au nu cu) := (cellAt HR1.out 4).trans rfl
  have hl1 := ltAt HR1.out
  clear hb1
  generalize nedF R.packs s R.packs.length 0 = X1 at *
  by_cases h1 : X1 = 0
  rotate_left
  · have e1 : ((X1 : Int) == 0) = false := by rw [beq_eq_false_iff_ne]; omega
    have HF : Hid (asN R s = X1) := by show _ = _; rw [HA.out, if_pos h1]
    clear h1 HA
    go_wp2
    go_ret
    exact ⟨ret_int (by rw [HF.out]), HB1.out⟩
  have e1 : ((X1 : Int) == 0) = true := by rw [beq_iff_eq]; omega
  replace HA : Hid (asN R s = if fuN R.stay s ≠ 0 then fuN R.stay s else if fuN R.ins s ≠ 0 then fuN R.ins s else ugN R.upg s) := by show _ = _; rw [HA.out, if_neg (by omega)]
  clear h1
  go_wp2_with fail
  refine (ch_firstUnmet _ R.stay s _ (HV.out _ HB1.out).stay HM.out.stay hs).mono ?_
  rintro e w2 ⟨rfl, hb2⟩
  have HB2 : Hid (Below w.heap.size w w2) := HB1.out.trans (hb2.mono HB1.out.size)
  have HR2 : Hid (w2.heap[w.heap.size]? = some (.cells #[.slice ap R.packs.length cp, .slice az nz cz, .slice ai ni ci, .int .u32 R.rem, .slice au nu cu] 95 (0, 0))) := blk_below hb2 HR1.out (ltAt HR1.out)
  have r20 : w2.cell? ⟨w.heap.size, 0, none⟩ = some (.slice ap R.packs.length cp) := (cellAt HR2.out 0).trans rfl
  have r21 : w2.cell? ⟨w.heap.size, 1, none⟩ = some (.slice az nz cz) := (cellAt HR2.out 1).trans rfl
  have r22 : w2.cell? ⟨w.heap.size, 2, none⟩ = some (.slice ai ni ci) := (cellAt HR2.out 2).trans rfl
  have r23 : w2.cell? ⟨w.heap.size, 3, none⟩ = some (.int .u32 R.rem) := (cellAt HR2.out 3).trans rfl
  have r24 : w2.cell? ⟨w.heap.size, 4, none⟩ = some (.slice au nu cu) := (cellAt HR2.out 4).trans rfl
  have hl2 := ltAt HR2.out
  clear hb2
  generalize fuN R.stay s = X2 at *
  by_cases h2 : X2 = 0
  rotate_left
  · have e2 : ((X2 : Int) == 0) = false := by rw [beq_eq_false_iff_ne]; omega
    have HF : Hid (asN R s = X2) := by show _ = _; rw [HA.out, if_pos h2]
    clear h2 HA
    go_wp2
    go_ret
    exact ⟨ret_int (by rw [HF.out]), HB2.out⟩
  have e2 : ((X2 : Int) == 0) = true := by rw [beq_iff_eq]; omega
  replace HA : Hid (asN R s = if fuN R.ins s ≠ 0 then fuN R.ins s else ugN R.upg s) := by show _ = _; rw [HA.out, if_neg (by omega)]
  clear h2
  go_wp2_with fail
  refine (ch_firstUnmet _ R.ins s _ (HV.out _ HB2.out).ins HM.out.ins hs).mono ?_
  rintro e w3 ⟨rfl, hb3⟩
  have HB3 : Hid (Below w.heap.size w w3) := HB2.out.trans (hb3.mono HB2.out.size)
  have HR3 : Hid (w3.heap[w.heap.size]? = some (.cells #[.slice ap R.packs.length cp, .slice az nz cz, .slice ai ni ci, .int .u32 R.rem, .slice au nu cu] 95 (0, 0))) := blk_below hb3 HR2.out (ltAt HR2.out)
  have r30 : w3.cell? ⟨w.heap.size, 0, none⟩ = some (.slice ap R.packs.length cp) := (cellAt HR3.out 0).trans rfl
  have r31 : w3.cell? ⟨w.heap.size, 1, none⟩ = some (.slice az nz cz) := (cellAt HR3.out 1).trans rfl
  have r32 : w3.cell? ⟨w.heap.size, 2, none⟩ = some (.slice ai ni ci) := (cellAt HR3.out 2).trans rfl
  have r33 : w3.cell? ⟨w.heap.size, 3, none⟩ = some (.int .u32 R.rem) := (cellAt HR3.out 3).trans rfl
  have r34 : w3.cell? ⟨w.heap.size, 4, none⟩ = some (.slice au nu cu) := (cellAt HR3.out 4).trans rfl
  have hl3 := ltAt HR3.out
  clear hb3
  generalize fuN R.ins s = X3 at *
  by_cases h3 : X3 = 0
  rotate_left
  · have e3 : ((X3 : Int) == 0) = false := by rw [beq_eq_false_iff_ne]; omega
    have HF : Hid (asN R s = X3) := by show _ = _; rw [HA.out, if_pos h3]
    clear h3 HA
    go_wp2
    go_ret
    exact ⟨ret_int (by rw [HF.out]), HB3.out⟩
  have e3 : ((X3 : Int) == 0) = true := by rw [beq_iff_eq]; omega
  replace HA : Hid (asN R s = ugN R.upg s) := by show _ = _; rw [HA.out, if_neg (by omega)]
  clear h3
  go_wp2_with fail
  refine (ch_upgraded _ R.upg s _ (HV.out _ HB3.out).upg HM.out.upg hs).mono ?_
  rintro e w4 ⟨rfl, hb4⟩
  have HB4 : Hid (Below w.heap.size w w4) := HB3.out.trans (hb4.mono HB3.out.size)
  clear hb4
  generalize ugN R.upg s = X4 at *
  go_wp2
  go_ret
  exact ⟨ret_int (by rw [HA.out]), HB4.out⟩

theorem fi_step (o : Nat) {k n : Nat} (h : k < n) : fiF o (n - k) k = if hasN o k then k else fiF o (n - (k + 1)) (k + 1) := by rw [show n - k = (n - (k + 1)) + 1 by omega, fiF]
theorem fi_end (o : Nat) {k n : Nat} (h : ¬ k < n) (hk : k ≤ n) : fiF o (n - k) k = n := by rw [show n - k = 0 by omega, fiF]; omega

set_option maxHeartbeats 6400000 in
set_option maxRecDepth 100000 in
theorem ch_next (R : Ru) (s p : Nat) (ap : Option Addr) (np cp : Nat) (az : Option Addr) (nz cz : Nat) (ai : Option Addr) (ni ci : Nat) (au : Option Addr) (nu cu : Nat) (an : Option Addr) (nn cn : Nat) (ak : Option Addr) (nk ck : Nat) (w : World) (hR : RuV w R ap np cp az nz cz ai ni ci au nu cu) (hm : RuSm R) (hs : s < 2 ^ 20) (hp : p < 2 ^ 20) :
    Calls Tryz.prog 97 #[.agg #[.slice ap np cp, .slice az nz cz, .slice ai ni ci, .int .u32 R.rem, .slice au nu cu, .slice an nn cn, .slice ak nk ck], .agg #[.int .u32 s, .int .u32 p]] w fun e w' => e = .returned (.int .i64 (nxM R s p : Nat)) ∧ Below w.heap.size w w' := by
  have hlen := hR.len
  subst hlen
  have hl8 := hR.packs.1
  have HV : Hid (∀ w', Below w.heap.size w w' → RuV w' R ap R.packs.length cp az nz cz ai ni ci au nu cu) := fun w' hb => hR.below hb
  have HM : Hid (RuSm R) := hm
  have lA := asN_lt hm s
  clear hR hm
  have HB0 : Hid (Below w.heap.size w ((w.alloc (.cells #[.slice ap R.packs.length cp, .slice az nz cz, .slice ai ni ci, .int .u32 R.rem, .slice au nu cu, .slice an nn cn, .slice ak nk ck] 117)).alloc (.cells #[.int .u32 s, .int .u32 p] 98))) := ((Below.refl _ _).alloc (Nat.le_refl _) _).alloc (by simp) _
  have HT0 : Hid (((w.alloc (.cells #[.slice ap R.packs.length cp, .slice az nz cz, .slice ai ni ci, .int .u32 R.rem, .slice au nu cu, .slice an nn cn, .slice ak nk ck] 117)).alloc (.cells #[.int .u32 s, .int .u32 p] 98)).heap[w.heap.size]? = some (.cells #[.slice ap R.packs.length cp, .slice az nz cz, .slice ai ni ci, .int .u32 R.rem, .slice au nu cu, .slice an nn cn, .slice ak nk ck] 117 (0, 0))) := blk_old (blk_new _ _) _
  have HS0 : Hid (((w.alloc (.cells #[.slice ap R.packs.length cp, .slice az nz cz, .slice ai ni ci, .int .u32 R.rem, .slice au nu cu, .slice an nn cn, .slice ak nk ck] 117)).alloc (.cells #[.int .u32 s, .int .u32 p] 98)).heap[w.heap.size + 1]? = some (.cells #[.int .u32 s, .int .u32 p] 98 (0, 0))) := by
    have := blk_new (w.alloc (.cells #[.slice ap R.packs.length cp, .slice az nz cz, .slice ai ni ci, .int .u32 R.rem, .slice au nu cu, .slice an nn cn, .slice ak nk ck] 117)) (.cells #[.int .u32 s, .int .u32 p] 98)
    rwa [World.size_alloc] at this
  have d0 : ((w.alloc (.cells #[.slice ap R.packs.length cp, .slice az nz cz, .slice ai ni ci, .int .u32 R.rem, .slice au nu cu, .slice an nn cn, .slice ak nk ck] 117)).alloc (.cells #[.int .u32 s, .int .u32 p] 98)).cell? ⟨w.heap.size, 0, none⟩ = some (.slice ap R.packs.length cp) := (cellAt HT0.out 0).trans rfl
  have d1 : ((w.alloc (.cells #[.slice ap R.packs.length cp, .slice az nz cz, .slice ai ni ci, .int .u32 R.rem, .slice au nu cu, .slice an nn cn, .slice ak nk ck] 117)).alloc (.cells #[.int .u32 s, .int .u32 p] 98)).cell? ⟨w.heap.size, 1, none⟩ = some (.slice az nz cz) := (cellAt HT0.out 1).trans rfl
  have d2 : ((w.alloc (.cells #[.slice ap R.packs.length cp, .slice az nz cz, .slice ai ni ci, .int .u32 R.rem, .slice au nu cu, .slice an nn cn, .slice ak nk ck] 117)).alloc (.cells #[.int .u32 s, .int .u32 p] 98)).cell? ⟨w.heap.size, 2, none⟩ = some (.slice ai ni ci) := (cellAt HT0.out 2).trans rfl
  have d3 : ((w.alloc (.cells #[.slice ap R.packs.length cp, .slice az nz cz, .slice ai ni ci, .int .u32 R.rem, .slice au nu cu, .slice an nn cn, .slice ak nk ck] 117)).alloc (.cells #[.int .u32 s, .int .u32 p] 98)).cell? ⟨w.heap.size, 3, none⟩ = some (.int .u32 R.rem) := (cellAt HT0.out 3).trans rfl
  have d4 : ((w.alloc (.cells #[.slice ap R.packs.length cp, .slice az nz cz, .slice ai ni ci, .int .u32 R.rem, .slice au nu cu, .slice an nn cn, .slice ak nk ck] 117)).alloc (.cells #[.int .u32 s, .int .u32 p] 98)).cell? ⟨w.heap.size, 4, none⟩ = some (.slice au nu cu) := (cellAt HT0.out 4).trans rfl
  have c0 : ((w.alloc (.cells #[.slice ap R.packs.length cp, .slice az nz cz, .slice ai ni ci, .int .u32 R.rem, .slice au nu cu, .slice an nn cn, .slice ak nk ck] 117)).alloc (.cells #[.int .u32 s, .int .u32 p] 98)).cell? ⟨w.heap.size + 1, 0, none⟩ = some (.int .u32 s) := (cellAt HS0.out 0).trans rfl
  have c1 : ((w.alloc (.cells #[.slice ap R.packs.length cp, .slice az nz cz, .slice ai ni ci, .int .u32 R.rem, .slice au nu cu, .slice an nn cn, .slice ak nk ck] 117)).alloc (.cells #[.int .u32 s, .int .u32 p] 98)).cell? ⟨w.heap.size + 1, 1, none⟩ = some (.int .u32 p) := (cellAt HS0.out 1).trans rfl
  obtain ⟨N, hN⟩ : ∃ N, nxM R s p = N := ⟨_, rfl⟩
  have HN0 : Hid (fiF (opnM R s p) (R.packs.length - 0) 0 = N) := hN
  have HOP : Hid (opnM R s p = if (asN R s &&& p) = 0 then adN p s else asN R s &&& p) := rfl
  rw [hN]
  clear hN
  have a1 := and_u32 (asN R s) p (by omega) (by omega)
  have lX : asN R s &&& p < 2 ^ 20 := and_lt lA
  have a2 := andNot_u32 p s (by omega) (by omega)
  by_cases h0 : asN R s &&& p = 0
  · have e0 : (((asN R s &&& p : Nat) : Int) == 0) = true := by rw [beq_iff_eq]; omega
    obtain ⟨O, hO⟩ : ∃ O, adN p s = O := ⟨_, rfl⟩
    have lO : O < 2 ^ 20 := by rw [← hO]; exact adN_lt hp
    have HN : Hid (fiF O (R.packs.length - 0) 0 = N) := by have := HN0.out; rw [HOP.out, if_pos h0, hO] at this; exact this
    rw [hO] at a2
    clear hO HN0 HOP h0
    go_enter Tryz.func97, Tryz.ntmps97
    go_wp2_with fail
    go_region_held3 (fun w' => w'.cell? ⟨w.heap.size, 0, none⟩ = some (.slice ap R.packs.length cp) ∧ w'.cell? ⟨w.heap.size, 1, none⟩ = some (.slice az nz cz) ∧ w'.cell? ⟨w.heap.size, 2, none⟩ = some (.slice ai ni ci) ∧ w'.cell? ⟨w.heap.size, 3, none⟩ = some (.int .u32 R.rem) ∧ w'.cell? ⟨w.heap.size, 4, none⟩ = some (.slice au nu cu) ∧ w'.cell? ⟨w.heap.size + 1, 0, none⟩ = some (.int .u32 s) ∧ w'.cell? ⟨w.heap.size + 1, 1, none⟩ = some (.int .u32 p)) (first | exact ⟨d0, d1, d2, d3, d4, c0, c1⟩ | exact ⟨dcell0 (by assumption) d0, dcell0 (by assumption) d1, dcell0 (by assumption) d2, dcell0 (by assumption) d3, dcell0 (by assumption) d4, dcell0 (by assumption) c0, dcell0 (by assumption) c1⟩)
      (first | (go_at_call 133; refine (ch_asked R s ap R.packs.length cp az nz cz ai ni ci au nu cu _ (HV.out _ (Below.drew HB0.out)) HM.out hs).mono ?_; rintro e w1 ⟨rfl, hb1⟩; have HBx : Hid (Below ((w.alloc (.cells #[.slice ap R.packs.length cp, .slice az nz cz, .slice ai ni ci, .int .u32 R.rem, .slice au nu cu, .slice an nn cn, .slice ak nk ck] 117)).alloc (.cells #[.int .u32 s, .int .u32 p] 98)).heap.size ((w.alloc (.cells #[.slice ap R.packs.length cp, .slice az nz cz, .slice ai ni ci, .int .u32 R.rem, .slice au nu cu, .slice an nn cn, .slice ak nk ck] 117)).alloc (.cells #[.int .u32 s, .int .u32 p] 98)) w1) := below_drew0 hb1; have HB1 : Hid (Below w.heap.size w w1) := HB0.out.trans (HBx.out.mono (by simp; omega)); have HT1 : Hid (w1.heap[w.heap.size]? = some (.cells #[.slice ap R.packs.length cp, .slice az nz cz, .slice ai ni ci, .int .u32 R.rem, .slice au nu cu, .slice an nn cn, .slice ak nk ck] 117 (0, 0))) := blk_below HBx.out HT0.out (ltAt HT0.out); have HS1 : Hid (w1.heap[w.heap.size + 1]? = some (.cells #[.int .u32 s, .int .u32 p] 98 (0, 0))) := blk_below HBx.out HS0.out (ltAt HS0.out); have t0 : w1.cell? ⟨w.heap.size, 0, none⟩ = some (.slice ap R.packs.length cp) := (cellAt HT1.out 0).trans rfl; have s0 : w1.cell? ⟨w.heap.size + 1, 0, none⟩ = some (.int .u32 s) := (cellAt HS1.out 0).trans rfl; have s1 : w1.cell? ⟨w.heap.size + 1, 1, none⟩ = some (.int .u32 p) := (cellAt HS1.out 1).trans rfl; have hlt1 := ltAt HT1.out; have hls1 := ltAt HS1.out))
    all_goals
      clear d0 d1 d2 d3 d4 c0 c1 hb1
      go_wp2
      go_loopw [26] (fun i wr => ∃ k : Nat, k ≤ R.packs.length ∧ i = .int .i64 k ∧ Hid (fiF O (R.packs.length - k) k = N) ∧ Below w.heap.size w wr ∧ wr.heap[w.heap.size]? = some (.cells #[.slice ap R.packs.length cp, .slice az nz cz, .slice ai ni ci, .int .u32 R.rem, .slice au nu cu, .slice an nn cn, .slice ak nk ck] 117 (0, 0))) (fun i _ => R.packs.length - (intOf i).toNat)
      case atStart => exact ⟨0, by omega, rfl, HN, HB1.out, HT1.out⟩
      case round =>
        obtain ⟨k, hk, rfl, HI, hb, hbt⟩ := hrel
        have hlt2 := ltAt hbt
        have y0 : wr.cell? ⟨w.heap.size, 0, none⟩ = some (.slice ap R.packs.length cp) := (cellAt hbt 0).trans rfl
        have HBT : Hid (wr.heap[w.heap.size]? = some (.cells #[.slice ap R.packs.length cp, .slice az nz cz, .slice ai ni ci, .int .u32 R.rem, .slice au nu cu, .slice an nn cn, .slice ak nk ck] 117 (0, 0))) := hbt
        clear hbt
        by_cases hlt : k < R.packs.length
        · have HD : Hid ((if hasN O k then k else fiF O (R.packs.length - (k + 1)) (k + 1)) = N) := by show _ = _; rw [← HI.out, fi_step _ hlt]
          clear HI
          cases hh : hasN O k with
          | true =>
            have HF : Hid (k = N) := by show _ = _; rw [← HD.out, hh]; rfl
            have HE : Hid (hasN O k = true) := hh
            clear hh HD
            go_wp2_with fail
            refine (set_Has O k lO _).mono ?_
            rintro e w2 ⟨rfl, rfl⟩
            rw [HE.out]
            go_wp2
            go_ret
            exact ⟨ret_int (by rw [HF.out]), hb⟩
          | false =>
            have HF : Hid (fiF O (R.packs.length - (k + 1)) (k + 1) = N) := by show _ = _; rw [← HD.out, hh]; rfl
            have HE : Hid (hasN O k = false) := hh
            clear hh HD
            go_wp2_with fail
            refine (set_Has O k lO _).mono ?_
            rintro e w2 ⟨rfl, rfl⟩
            rw [HE.out]
            go_wp2
            go_roundw
            case rel => exact ⟨k + 1, by omega, by go_num, HF, hb, HBT.out⟩
            case measure => simp [intOf]; omega
        · have HF : Hid (R.packs.length = N) := by show _ = _; rw [← HI.out, fi_end _ hlt hk]
          clear HI
          go_wp2
          go_ret
          exact ⟨ret_int (by rw [HF.out]), hb⟩
  · have e0 : (((asN R s &&& p : Nat) : Int) == 0) = false := by rw [beq_eq_false_iff_ne]; omega
    have HN : Hid (fiF (asN R s &&& p) (R.packs.length - 0) 0 = N) := by have := HN0.out; rw [HOP.out, if_neg h0] at this; exact this
    clear HN0 HOP h0
    obtain ⟨O, hO⟩ : ∃ O, asN R s &&& p = O := ⟨_, rfl⟩
    have lO : O < 2 ^ 20 := by rw [← hO]; exact lX
    rw [hO] at a1 e0 HN
    clear hO lX
    go_enter Tryz.func97, Tryz.ntmps97
    go_wp2_with fail
    go_region_held3 (fun w' => w'.cell? ⟨w.heap.size, 0, none⟩ = some (.slice ap R.packs.length cp) ∧ w'.cell? ⟨w.heap.size, 1, none⟩ = some (.slice az nz cz) ∧ w'.cell? ⟨w.heap.size, 2, none⟩ = some (.slice ai ni ci) ∧ w'.cell? ⟨w.heap.size, 3, none⟩ = some (.int .u32 R.rem) ∧ w'.cell? ⟨w.heap.size, 4, none⟩ = some (.slice au nu cu) ∧ w'.cell? ⟨w.heap.size + 1, 0, none⟩ = some (.int .u32 s) ∧ w'.cell? ⟨w.heap.size + 1, 1, none⟩ = some (.int .u32 p)) (first | exact ⟨d0, d1, d2, d3, d4, c0, c1⟩ | exact ⟨dcell0 (by assumption) d0, dcell0 (by assumption) d1, dcell0 (by assumption) d2, dcell0 (by assumption) d3, dcell0 (by assumption) d4, dcell0 (by assumption) c0, dcell0 (by assumption) c1⟩)
      (first | (go_at_call 133; refine (ch_asked R s ap R.packs.length cp az nz cz ai ni ci au nu cu _ (HV.out _ (Below.drew HB0.out)) HM.out hs).mono ?_; rintro e w1 ⟨rfl, hb1⟩; have HBx : Hid (Below ((w.alloc (.cells #[.slice ap R.packs.length cp, .slice az nz cz, .slice ai ni ci, .int .u32 R.rem, .slice au nu cu, .slice an nn cn, .slice ak nk ck] 117)).alloc (.cells #[.int .u32 s, .int .u32 p] 98)).heap.size ((w.alloc (.cells #[.slice ap R.packs.length cp, .slice az nz cz, .slice ai ni ci, .int .u32 R.rem, .slice au nu cu, .slice an nn cn, .slice ak nk ck] 117)).alloc (.cells #[.int .u32 s, .int .u32 p] 98)) w1) := below_drew0 hb1; have HB1 : Hid (Below w.heap.size w w1) := HB0.out.trans (HBx.out.mono (by simp; omega)); have HT1 : Hid (w1.heap[w.heap.size]? = some (.cells #[.slice ap R.packs.length cp, .slice az nz cz, .slice ai ni ci, .int .u32 R.rem, .slice au nu cu, .slice an nn cn, .slice ak nk ck] 117 (0, 0))) := blk_below HBx.out HT0.out (ltAt HT0.out); have HS1 : Hid (w1.heap[w.heap.size + 1]? = some (.cells #[.int .u32 s, .int .u32 p] 98 (0, 0))) := blk_below HBx.out HS0.out (ltAt HS0.out); have t0 : w1.cell? ⟨w.heap.size, 0, none⟩ = some (.slice ap R.packs.length cp) := (cellAt HT1.out 0).trans rfl; have s0 : w1.cell? ⟨w.heap.size + 1, 0, none⟩ = some (.int .u32 s) := (cellAt HS1.out 0).trans rfl; have s1 : w1.cell? ⟨w.heap.size + 1, 1, none⟩ = some (.int .u32 p) := (cellAt HS1.out 1).trans rfl; have hlt1 := ltAt HT1.out; have hls1 := ltAt HS1.out))
    all_goals
      clear d0 d1 d2 d3 d4 c0 c1 hb1
      go_wp2
      go_loopw [26] (fun i wr => ∃ k : Nat, k ≤ R.packs.length ∧ i = .int .i64 k ∧ Hid (fiF O (R.packs.length - k) k = N) ∧ Below w.heap.size w wr ∧ wr.heap[w.heap.size]? = some (.cells #[.slice ap R.packs.length cp, .slice az nz cz, .slice ai ni ci, .int .u32 R.rem, .slice au nu cu, .slice an nn cn, .slice ak nk ck] 117 (0, 0))) (fun i _ => R.packs.length - (intOf i).toNat)
      case atStart => exact ⟨0, by omega, rfl, HN, HB1.out, HT1.out⟩
      case round =>
        obtain ⟨k, hk, rfl, HI, hb, hbt⟩ := hrel
        have hlt2 := ltAt hbt
        have y0 : wr.cell? ⟨w.heap.size, 0, none⟩ = some (.slice ap R.packs.length cp) := (cellAt hbt 0).trans rfl
        have HBT : Hid (wr.heap[w.heap.size]? = some (.cells #[.slice ap R.packs.length cp, .slice az nz cz, .slice ai ni ci, .int .u32 R.rem, .slice au nu cu, .slice an nn cn, .slice ak nk ck] 117 (0, 0))) := hbt
        clear hbt
        by_cases hlt : k < R.packs.length
        · have HD : Hid ((if hasN O k then k else fiF O (R.packs.length - (k + 1)) (k + 1)) = N) := by show _ = _; rw [← HI.out, fi_step _ hlt]
          clear HI
          cases hh : hasN O k with
          | true =>
            have HF : Hid (k = N) := by show _ = _; rw [← HD.out, hh]; rfl
            have HE : Hid (hasN O k = true) := hh
            clear hh HD
            go_wp2_with fail
            refine (set_Has O k lO _).mono ?_
            rintro e w2 ⟨rfl, rfl⟩
            rw [HE.out]
            go_wp2
            go_ret
            exact ⟨ret_int (by rw [HF.out]), hb⟩
          | false =>
            have HF : Hid (fiF O (R.packs.length - (k + 1)) (k + 1) = N) := by show _ = _; rw [← HD.out, hh]; rfl
            have HE : Hid (hasN O k = false) := hh
            clear hh HD
            go_wp2_with fail
            refine (set_Has O k lO _).mono ?_
            rintro e w2 ⟨rfl, rfl⟩
            rw [HE.out]
            go_wp2
            go_roundw
            case rel => exact ⟨k + 1, by omega, by go_num, HF, hb, HBT.out⟩
            case measure => simp [intOf]; omega
        · have HF : Hid (R.packs.length = N) := by show _ = _; rw [← HI.out, fi_end _ hlt hk]
          clear HI
          go_wp2
          go_ret
          exact ⟨ret_int (by rw [HF.out]), hb⟩

end Go.Proofs.YtenbnmbbfeekpabGreatDoor

namespace Go.Proofs.YtenbnmbbfeekpabGreatDoor
open Go.RowKit

theorem cell_set3 {w : World} {k : Nat} {x0 x1 x2 : Value} {T : TypeId} (hk : w.heap[k]? = some (.cells #[x0, x1, x2] T (0, 0))) (u0 u1 u2 : Value) : (((w.setCell ⟨k, 0, none⟩ u0).setCell ⟨k, 1, none⟩ u1).setCell ⟨k, 2, none⟩ u2).cell? ⟨k, 0, none⟩ = some u0 ∧ (((w.setCell ⟨k, 0, none⟩ u0).setCell ⟨k, 1, none⟩ u1).setCell ⟨k, 2, none⟩ u2).cell? ⟨k, 1, none⟩ = some u1 ∧ (((w.setCell ⟨k, 0, none⟩ u0).setCell ⟨k, 1, none⟩ u1).setCell ⟨k, 2, none⟩ u2).cell? ⟨k, 2, none⟩ = some u2 := by
  have h := setAt (setAt (setAt hk 0 u0) 1 u1) 2 u2
  exact ⟨(cellAt h 0).trans rfl, (cellAt h 1).trans rfl, (cellAt h 2).trans rfl⟩
theorem below_set3 {n : Nat} {a w : World} (h : Below n a w) {k : Nat} (hk : n ≤ k) (u0 u1 u2 : Value) : Below n a (((w.setCell ⟨k, 0, none⟩ u0).setCell ⟨k, 1, none⟩ u1).setCell ⟨k, 2, none⟩ u2) :=
  ((h.setCell (p := ⟨k, 0, none⟩) hk u0).setCell (p := ⟨k, 1, none⟩) hk u1).setCell (p := ⟨k, 2, none⟩) hk u2
theorem blk_set3 {w : World} {j : Nat} {x : Obj} (h : w.heap[j]? = some x) {k : Nat} (hn : j ≠ k) (u0 u1 u2 : Value) : (((w.setCell ⟨k, 0, none⟩ u0).setCell ⟨k, 1, none⟩ u1).setCell ⟨k, 2, none⟩ u2).heap[j]? = some x :=
  blk_set (p := ⟨k, 2, none⟩) (blk_set (p := ⟨k, 1, none⟩) (blk_set (p := ⟨k, 0, none⟩) h hn _) hn _) hn _
theorem blk_at3 {w : World} {k : Nat} {x0 x1 x2 : Value} {T : TypeId} (hk : w.heap[k]? = some (.cells #[x0, x1, x2] T (0, 0))) (u0 u1 u2 : Value) : (((w.setCell ⟨k, 0, none⟩ u0).setCell ⟨k, 1, none⟩ u1).setCell ⟨k, 2, none⟩ u2).heap[k]? = some (.cells #[u0, u1, u2] T (0, 0)) := setAt (setAt (setAt hk 0 u0) 1 u1) 2 u2
theorem fo_get {l : List Rp} {n : Nat} (h : n < l.length) : foAt l n = l[n].2 := by unfold foAt; rw [List.getElem?_eq_getElem h]

/-- The search, called. -/
def SrC (R : Ru) (ns : List Nm) (cs : List Cr) (ap : Option Addr) (cp : Nat) (az : Option Addr) (nz cz : Nat) (ai : Option Addr) (ni ci : Nat) (au : Option Addr) (nu cu : Nat) (an : Option Addr) (nn cn : Nat) (ak : Option Addr) (nk ck : Nat) (f : Nat) : Prop :=
  ∀ (s p : Nat) (bf : Bool) (bp : Nat) (bc : Int) (w : World), p + 1048576 < f + s → s < 2 ^ 20 → p < 2 ^ 20 → RuV w R ap R.packs.length cp az nz cz ai ni ci au nu cu → NmV w (.slice an nn cn) ns → CrV w (.slice ak nk ck) cs →
    Calls Tryz.prog 54 #[.agg #[.slice ap R.packs.length cp, .slice az nz cz, .slice ai ni ci, .int .u32 R.rem, .slice au nu cu, .slice an nn cn, .slice ak nk ck], .agg #[.int .u32 s, .int .u32 p], .agg #[.bool bf, .int .u32 bp, .int .i64 bc]] w fun e w' => e = .returned (.agg #[.bool (srcM R ns cs f s p ⟨bf, bp, bc⟩).f, .int .u32 (srcM R ns cs f s p ⟨bf, bp, bc⟩).p, .int .i64 (srcM R ns cs f s p ⟨bf, bp, bc⟩).c]) ∧ Below w.heap.size w w'

set_option maxHeartbeats 3000000 in
set_option maxRecDepth 100000 in
theorem ch_search (R : Ru) (ns : List Nm) (cs : List Cr) (ap : Option Addr) (cp : Nat) (az : Option Addr) (nz cz : Nat) (ai : Option Addr) (ni ci : Nat) (au : Option Addr) (nu cu : Nat) (an : Option Addr) (nn cn : Nat) (ak : Option Addr) (nk ck : Nat) (hm : RuSm R) (h4 : cs.length ≤ 4) (h26 : ns.length ≤ 26) (hsm : ∀ n ∈ ns, NmSm n) : ∀ f, SrC R ns cs ap cp az nz cz ai ni ci au nu cu an nn cn ak nk ck f := by
  intro f
  induction f with
  | zero =>
    intro s p bf bp bc w hf hs
    omega
  | succ f ih =>
  intro s p bf bp bc w hf hs hp hR hN hC
  have HIH : Hid (SrC R ns cs ap cp az nz cz ai ni ci au nu cu an nn cn ak nk ck f) := ih
  clear ih
  have HVR : Hid (∀ w', Below w.heap.size w w' → RuV w' R ap R.packs.length cp az nz cz ai ni ci au nu cu) := fun w' hb => hR.below hb
  have HVN : Hid (∀ w', Below w.heap.size w w' → NmV w' (.slice an nn cn) ns) := fun w' hb => hN.below hb
  have HVC : Hid (∀ w', Below w.heap.size w w' → CrV w' (.slice ak nk ck) cs) := fun w' hb => hC.below hb
  have HM : Hid (RuSm R) := hm
  have HSM : Hid (∀ n ∈ ns, NmSm n) := hsm
  have HF : Hid (p + 1048576 < f + 1 + s) := hf
  have hl8 := hR.packs.1
  have HSR : Hid (srcM R ns cs (f + 1) s p ⟨bf, bp, bc⟩ = if fbM R s p ≠ 0 then ⟨bf, bp, bc⟩
    else if bf = true ∧ bc ≤ csN cs ns s p then ⟨bf, bp, bc⟩
    else if R.packs.length ≤ nxM R s p then ⟨true, s, csN cs ns s p⟩
    else srcM R ns cs f s (adN p (oneN (nxM R s p))) (srcM R ns cs f (s ||| oneN (nxM R s p)) (adN p (foAt R.packs (nxM R s p))) ⟨bf, bp, bc⟩)) := rfl
  have HNX : Hid (nxM R s p < R.packs.length → nxM R s p < 20 ∧ p.testBit (nxM R s p) = true ∧ s.testBit (nxM R s p) = false) := nx_in
  clear hR hN hC hf hm hsm
  have HB0 : Hid (Below w.heap.size w ((((w.alloc (.cells #[.slice ap R.packs.length cp, .slice az nz cz, .slice ai ni ci, .int .u32 R.rem, .slice au nu cu, .slice an nn cn, .slice ak nk ck] 117)).alloc (.cells #[.int .u32 s, .int .u32 p] 98)).alloc (.cells #[.bool bf, .int .u32 bp, .int .i64 bc] 74)).alloc (.cells #[.bool false, .int .u32 0, .int .i64 0] 74))) := ((((Below.refl _ _).alloc (Nat.le_refl _) _).alloc (by simp) _).alloc (by simp; omega) _).alloc (by simp; omega) _
  have HT0 : Hid (((((w.alloc (.cells #[.slice ap R.packs.length cp, .slice az nz cz, .slice ai ni ci, .int .u32 R.rem, .slice au nu cu, .slice an nn cn, .slice ak nk ck] 117)).alloc (.cells #[.int .u32 s, .int .u32 p] 98)).alloc (.cells #[.bool bf, .int .u32 bp, .int .i64 bc] 74)).alloc (.cells #[.bool false, .int .u32 0, .int .i64 0] 74)).heap[w.heap.size]? = some (.cells #[.slice ap R.packs.length cp, .slice az nz cz, .slice ai ni ci, .int .u32 R.rem, .slice au nu cu, .slice an nn cn, .slice ak nk ck] 117 (0, 0))) := blk_old (blk_old (blk_old (blk_new _ _) _) _) _
  have HS0 : Hid (((((w.alloc (.cells #[.slice ap R.packs.length cp, .slice az nz cz, .slice ai ni ci, .int .u32 R.rem, .slice au nu cu, .slice an nn cn, .slice ak nk ck] 117)).alloc (.cells #[.int .u32 s, .int .u32 p] 98)).alloc (.cells #[.bool bf, .int .u32 bp, .int .i64 bc] 74)).alloc (.cells #[.bool false, .int .u32 0, .int .i64 0] 74)).heap[w.heap.size + 1]? = some (.cells #[.int .u32 s, .int .u32 p] 98 (0, 0))) := by
    refine blk_old (blk_old ?_ _) _
    have := blk_new (w.alloc (.cells #[.slice ap R.packs.length cp, .slice az nz cz, .slice ai ni ci, .int .u32 R.rem, .slice au nu cu, .slice an nn cn, .slice ak nk ck] 117)) (.cells #[.int .u32 s, .int .u32 p] 98)
    rwa [World.size_alloc] at this
  have HA0 : Hid (((((w.alloc (.cells #[.slice ap R.packs.length cp, .slice az nz cz, .slice ai ni ci, .int .u32 R.rem, .slice au nu cu, .slice an nn cn, .slice ak nk ck] 117)).alloc (.cells #[.int .u32 s, .int .u32 p] 98)).alloc (.cells #[.bool bf, .int .u32 bp, .int .i64 bc] 74)).alloc (.cells #[.bool false, .int .u32 0, .int .i64 0] 74)).heap[w.heap.size + 1 + 1]? = some (.cells #[.bool bf, .int .u32 bp, .int .i64 bc] 74 (0, 0))) := by
    refine blk_old ?_ _
    have := blk_new ((w.alloc (.cells #[.slice ap R.packs.length cp, .slice az nz cz, .slice ai ni ci, .int .u32 R.rem, .slice au nu cu, .slice an nn cn, .slice ak nk ck] 117)).alloc (.cells #[.int .u32 s, .int .u32 p] 98)) (.cells #[.bool bf, .int .u32 bp, .int .i64 bc] 74)
    rwa [World.size_alloc, World.size_alloc] at this
  have HQ0 : Hid (((((w.alloc (.cells #[.slice ap R.packs.length cp, .slice az nz cz, .slice ai ni ci, .int .u32 R.rem, .slice au nu cu, .slice an nn cn, .slice ak nk ck] 117)).alloc (.cells #[.int .u32 s, .int .u32 p] 98)).alloc (.cells #[.bool bf, .int .u32 bp, .int .i64 bc] 74)).alloc (.cells #[.bool false, .int .u32 0, .int .i64 0] 74)).heap[w.heap.size + 1 + 1 + 1]? = some (.cells #[.bool false, .int .u32 0, .int .i64 0] 74 (0, 0))) := by
    have := blk_new (((w.alloc (.cells #[.slice ap R.packs.length cp, .slice az nz cz, .slice ai ni ci, .int .u32 R.rem, .slice au nu cu, .slice an nn cn, .slice ak nk ck] 117)).alloc (.cells #[.int .u32 s, .int .u32 p] 98)).alloc (.cells #[.bool bf, .int .u32 bp, .int .i64 bc] 74)) (.cells #[.bool false, .int .u32 0, .int .i64 0] 74)
    rwa [World.size_alloc, World.size_alloc, World.size_alloc] at this
  go_enter Tryz.func54, Tryz.ntmps54
  go_wp2_with fail
  refine (pk_FirstBroken R s p ap R.packs.length cp az nz cz ai ni ci au nu cu _ (HVR.out _ HB0.out) HM.out hs hp).mono ?_
  rintro e w1 ⟨rfl, hb1⟩
  have HB1 : Hid (Below w.heap.size w w1) := HB0.out.trans (hb1.mono (by simp; omega))
  have HT1 : Hid (w1.heap[w.heap.size]? = some (.cells #[.slice ap R.packs.length cp, .slice az nz cz, .slice ai ni ci, .int .u32 R.rem, .slice au nu cu, .slice an nn cn, .slice ak nk ck] 117 (0, 0))) := blk_below hb1 HT0.out (ltAt HT0.out)
  have HS1 : Hid (w1.heap[w.heap.size + 1]? = some (.cells #[.int .u32 s, .int .u32 p] 98 (0, 0))) := blk_below hb1 HS0.out (ltAt HS0.out)
  have HA1 : Hid (w1.heap[w.heap.size + 1 + 1]? = some (.cells #[.bool bf, .int .u32 bp, .int .i64 bc] 74 (0, 0))) := blk_below hb1 HA0.out (ltAt HA0.out)
  have HQ1 : Hid (w1.heap[w.heap.size + 1 + 1 + 1]? = some (.cells #[.bool false, .int .u32 0, .int .i64 0] 74 (0, 0))) := blk_below hb1 HQ0.out (ltAt HQ0.out)
  have t10 : w1.cell? ⟨w.heap.size, 0, none⟩ = some (.slice ap R.packs.length cp) := (cellAt HT1.out 0).trans rfl
  have t11 : w1.cell? ⟨w.heap.size, 1, none⟩ = some (.slice az nz cz) := (cellAt HT1.out 1).trans rfl
  have t12 : w1.cell? ⟨w.heap.size, 2, none⟩ = some (.slice ai ni ci) := (cellAt HT1.out 2).trans rfl
  have t13 : w1.cell? ⟨w.heap.size, 3, none⟩ = some (.int .u32 R.rem) := (cellAt HT1.out 3).trans rfl
  have t14 : w1.cell? ⟨w.heap.size, 4, none⟩ = some (.slice au nu cu) := (cellAt HT1.out 4).trans rfl
  have t15 : w1.cell? ⟨w.heap.size, 5, none⟩ = some (.slice an nn cn) := (cellAt HT1.out 5).trans rfl
  have t16 : w1.cell? ⟨w.heap.size, 6, none⟩ = some (.slice ak nk ck) := (cellAt HT1.out 6).trans rfl
  have s10 : w1.cell? ⟨w.heap.size + 1, 0, none⟩ = some (.int .u32 s) := (cellAt HS1.out 0).trans rfl
  have s11 : w1.cell? ⟨w.heap.size + 1, 1, none⟩ = some (.int .u32 p) := (cellAt HS1.out 1).trans rfl
  have b10 : w1.cell? ⟨w.heap.size + 1 + 1, 0, none⟩ = some (.bool bf) := (cellAt HA1.out 0).trans rfl
  have b11 : w1.cell? ⟨w.heap.size + 1 + 1, 1, none⟩ = some (.int .u32 bp) := (cellAt HA1.out 1).trans rfl
  have b12 : w1.cell? ⟨w.heap.size + 1 + 1, 2, none⟩ = some (.int .i64 bc) := (cellAt HA1.out 2).trans rfl
  have q10 : w1.cell? ⟨w.heap.size + 1 + 1 + 1, 0, none⟩ = some (.bool false) := (cellAt HQ1.out 0).trans rfl
  have q11 : w1.cell? ⟨w.heap.size + 1 + 1 + 1, 1, none⟩ = some (.int .u32 0) := (cellAt HQ1.out 1).trans rfl
  have q12 : w1.cell? ⟨w.heap.size + 1 + 1 + 1, 2, none⟩ = some (.int .i64 0) := (cellAt HQ1.out 2).trans rfl
  have g10 := freeAt HQ1.out 0
  have g11 := freeAt HQ1.out 1
  have g12 := freeAt HQ1.out 2
  have ga10 := freeAt HA1.out 0
  have ga11 := freeAt HA1.out 1
  have ga12 := freeAt HA1.out 2
  have lt1 := ltAt HT1.out
  have ls1 := ltAt HS1.out
  have la1 := ltAt HA1.out
  have lq1 := ltAt HQ1.out
  clear hb1
  generalize fbM R s p = FB at *
  by_cases h1 : FB = 0
  rotate_left
  · have e1 : ((FB : Int) != 0) = true := by rw [bne_iff_ne]; omega
    replace HSR : Hid (srcM R ns cs (f + 1) s p ⟨bf, bp, bc⟩ = ⟨bf, bp, bc⟩) := by show _ = _; rw [HSR.out, if_pos h1]
    clear h1
    go_wp2
    refine bodyPost_ret (v := .agg #[.bool bf, .int .u32 bp, .int .i64 bc]) ?_ rfl ⟨?_, below_set3 HB1.out (by omega) _ _ _⟩
    · obtain ⟨z0, z1, z2⟩ := cell_set3 HQ1.out (.bool bf) (.int .u32 bp) (.int .i64 bc)
      simp [results, Tryz.results54, go_sem, z0, z1, z2]
    · rw [HSR.out]
  have e1 : ((FB : Int) != 0) = false := by rw [bne_eq_false_iff_eq]; omega
  replace HSR : Hid (srcM R ns cs (f + 1) s p ⟨bf, bp, bc⟩ = if bf = true ∧ bc ≤ csN cs ns s p then ⟨bf, bp, bc⟩
    else if R.packs.length ≤ nxM R s p then ⟨true, s, csN cs ns s p⟩
    else srcM R ns cs f s (adN p (oneN (nxM R s p))) (srcM R ns cs f (s ||| oneN (nxM R s p)) (adN p (foAt R.packs (nxM R s p))) ⟨bf, bp, bc⟩)) := by show _ = _; rw [HSR.out, if_neg (by simpa using h1)]
  clear h1
  go_wp2_with fail
  refine (sc_Cost _ cs _ ns s p _ (HVC.out _ HB1.out) h4 (HVN.out _ HB1.out) h26 HSM.out hs hp).mono ?_
  rintro e w2 ⟨rfl, hb2⟩
  have HB2 : Hid (Below w.heap.size w w2) := HB1.out.trans (hb2.mono HB1.out.size)
  have HT2 : Hid (w2.heap[w.heap.size]? = some (.cells #[.slice ap R.packs.length cp, .slice az nz cz, .slice ai ni ci, .int .u32 R.rem, .slice au nu cu, .slice an nn cn, .slice ak nk ck] 117 (0, 0))) := blk_below hb2 HT1.out (ltAt HT1.out)
  have HS2 : Hid (w2.heap[w.heap.size + 1]? = some (.cells #[.int .u32 s, .int .u32 p] 98 (0, 0))) := blk_below hb2 HS1.out (ltAt HS1.out)
  have HA2 : Hid (w2.heap[w.heap.size + 1 + 1]? = some (.cells #[.bool bf, .int .u32 bp, .int .i64 bc] 74 (0, 0))) := blk_below hb2 HA1.out (ltAt HA1.out)
  have HQ2 : Hid (w2.heap[w.heap.size + 1 + 1 + 1]? = some (.cells #[.bool false, .int .u32 0, .int .i64 0] 74 (0, 0))) := blk_below hb2 HQ1.out (ltAt HQ1.out)
  have t20 : w2.cell? ⟨w.heap.size, 0, none⟩ = some (.slice ap R.packs.length cp) := (cellAt HT2.out 0).trans rfl
  have t21 : w2.cell? ⟨w.heap.size, 1, none⟩ = some (.slice az nz cz) := (cellAt HT2.out 1).trans rfl
  have t22 : w2.cell? ⟨w.heap.size, 2, none⟩ = some (.slice ai ni ci) := (cellAt HT2.out 2).trans rfl
  have t23 : w2.cell? ⟨w.heap.size, 3, none⟩ = some (.int .u32 R.rem) := (cellAt HT2.out 3).trans rfl
  have t24 : w2.cell? ⟨w.heap.size, 4, none⟩ = some (.slice au nu cu) := (cellAt HT2.out 4).trans rfl
  have t25 : w2.cell? ⟨w.heap.size, 5, none⟩ = some (.slice an nn cn) := (cellAt HT2.out 5).trans rfl
  have t26 : w2.cell? ⟨w.heap.size, 6, none⟩ = some (.slice ak nk ck) := (cellAt HT2.out 6).trans rfl
  have s20 : w2.cell? ⟨w.heap.size + 1, 0, none⟩ = some (.int .u32 s) := (cellAt HS2.out 0).trans rfl
  have s21 : w2.cell? ⟨w.heap.size + 1, 1, none⟩ = some (.int .u32 p) := (cellAt HS2.out 1).trans rfl
  have b20 : w2.cell? ⟨w.heap.size + 1 + 1, 0, none⟩ = some (.bool bf) := (cellAt HA2.out 0).trans rfl
  have b21 : w2.cell? ⟨w.heap.size + 1 + 1, 1, none⟩ = some (.int .u32 bp) := (cellAt HA2.out 1).trans rfl
  have b22 : w2.cell? ⟨w.heap.size + 1 + 1, 2, none⟩ = some (.int .i64 bc) := (cellAt HA2.out 2).trans rfl
  have q20 : w2.cell? ⟨w.heap.size + 1 + 1 + 1, 0, none⟩ = some (.bool false) := (cellAt HQ2.out 0).trans rfl
  have q21 : w2.cell? ⟨w.heap.size + 1 + 1 + 1, 1, none⟩ = some (.int .u32 0) := (cellAt HQ2.out 1).trans rfl
  have q22 : w2.cell? ⟨w.heap.size + 1 + 1 + 1, 2, none⟩ = some (.int .i64 0) := (cellAt HQ2.out 2).trans rfl
  have g20 := freeAt HQ2.out 0
  have g21 := freeAt HQ2.out 1
  have g22 := freeAt HQ2.out 2
  have ga20 := freeAt HA2.out 0
  have ga21 := freeAt HA2.out 1
  have ga22 := freeAt HA2.out 2
  have lt2 := ltAt HT2.out
  have ls2 := ltAt HS2.out
  have la2 := ltAt HA2.out
  have lq2 := ltAt HQ2.out
  clear hb2
  clear t10 t11 t12 t13 t14 t15 t16 s10 s11 b10 b11 b12 q10 q11 q12 g10 g11 g12 ga10 ga11 ga12
  generalize csN cs ns s p = CO at *
  cases bf with
  | false =>
    replace HSR : Hid (srcM R ns cs (f + 1) s p ⟨false, bp, bc⟩ = if R.packs.length ≤ nxM R s p then ⟨true, s, CO⟩
      else srcM R ns cs f s (adN p (oneN (nxM R s p))) (srcM R ns cs f (s ||| oneN (nxM R s p)) (adN p (foAt R.packs (nxM R s p))) ⟨false, bp, bc⟩)) := by show _ = _; rw [HSR.out, if_neg (by simp)]
    go_wp2_with fail
    refine (ch_next R s p ap R.packs.length cp az nz cz ai ni ci au nu cu an nn cn ak nk ck _ (HVR.out _ HB2.out) HM.out hs hp).mono ?_
    rintro e w3 ⟨rfl, hb3⟩
    have HB3 : Hid (Below w.heap.size w w3) := HB2.out.trans (hb3.mono HB2.out.size)
    have HT3 : Hid (w3.heap[w.heap.size]? = some (.cells #[.slice ap R.packs.length cp, .slice az nz cz, .slice ai ni ci, .int .u32 R.rem, .slice au nu cu, .slice an nn cn, .slice ak nk ck] 117 (0, 0))) := blk_below hb3 HT2.out (ltAt HT2.out)
    have HS3 : Hid (w3.heap[w.heap.size + 1]? = some (.cells #[.int .u32 s, .int .u32 p] 98 (0, 0))) := blk_below hb3 HS2.out (ltAt HS2.out)
    have HA3 : Hid (w3.heap[w.heap.size + 1 + 1]? = some (.cells #[.bool false, .int .u32 bp, .int .i64 bc] 74 (0, 0))) := blk_below hb3 HA2.out (ltAt HA2.out)
    have HQ3 : Hid (w3.heap[w.heap.size + 1 + 1 + 1]? = some (.cells #[.bool false, .int .u32 0, .int .i64 0] 74 (0, 0))) := blk_below hb3 HQ2.out (ltAt HQ2.out)
    have t30 : w3.cell? ⟨w.heap.size, 0, none⟩ = some (.slice ap R.packs.length cp) := (cellAt HT3.out 0).trans rfl
    have t31 : w3.cell? ⟨w.heap.size, 1, none⟩ = some (.slice az nz cz) := (cellAt HT3.out 1).trans rfl
    have t32 : w3.cell? ⟨w.heap.size, 2, none⟩ = some (.slice ai ni ci) := (cellAt HT3.out 2).trans rfl
    have t33 : w3.cell? ⟨w.heap.size, 3, none⟩ = some (.int .u32 R.rem) := (cellAt HT3.out 3).trans rfl
    have t34 : w3.cell? ⟨w.heap.size, 4, none⟩ = some (.slice au nu cu) := (cellAt HT3.out 4).trans rfl
    have t35 : w3.cell? ⟨w.heap.size, 5, none⟩ = some (.slice an nn cn) := (cellAt HT3.out 5).trans rfl
    have t36 : w3.cell? ⟨w.heap.size, 6, none⟩ = some (.slice ak nk ck) := (cellAt HT3.out 6).trans rfl
    have s30 : w3.cell? ⟨w.heap.size + 1, 0, none⟩ = some (.int .u32 s) := (cellAt HS3.out 0).trans rfl
    have s31 : w3.cell? ⟨w.heap.size + 1, 1, none⟩ = some (.int .u32 p) := (cellAt HS3.out 1).trans rfl
    have b30 : w3.cell? ⟨w.heap.size + 1 + 1, 0, none⟩ = some (.bool false) := (cellAt HA3.out 0).trans rfl
    have b31 : w3.cell? ⟨w.heap.size + 1 + 1, 1, none⟩ = some (.int .u32 bp) := (cellAt HA3.out 1).trans rfl
    have b32 : w3.cell? ⟨w.heap.size + 1 + 1, 2, none⟩ = some (.int .i64 bc) := (cellAt HA3.out 2).trans rfl
    have q30 : w3.cell? ⟨w.heap.size + 1 + 1 + 1, 0, none⟩ = some (.bool false) := (cellAt HQ3.out 0).trans rfl
    have q31 : w3.cell? ⟨w.heap.size + 1 + 1 + 1, 1, none⟩ = some (.int .u32 0) := (cellAt HQ3.out 1).trans rfl
    have q32 : w3.cell? ⟨w.heap.size + 1 + 1 + 1, 2, none⟩ = some (.int .i64 0) := (cellAt HQ3.out 2).trans rfl
    have g30 := freeAt HQ3.out 0
    have g31 := freeAt HQ3.out 1
    have g32 := freeAt HQ3.out 2
    have ga30 := freeAt HA3.out 0
    have ga31 := freeAt HA3.out 1
    have ga32 := freeAt HA3.out 2
    have lt3 := ltAt HT3.out
    have ls3 := ltAt HS3.out
    have la3 := ltAt HA3.out
    have lq3 := ltAt HQ3.out
    clear hb3
    clear t20 t21 t22 t23 t24 t25 t26 s20 s21 b20 b21 b22 q20 q21 q22 g20 g21 g22 ga20 ga21 ga22
    generalize nxM R s p = n at *
    by_cases h3 : R.packs.length ≤ n
    · have e3 : (R.packs.length : Int) ≤ (n : Int) := by omega
      replace HSR : Hid (srcM R ns cs (f + 1) s p ⟨false, bp, bc⟩ = ⟨true, s, CO⟩) := by show _ = _; rw [HSR.out, if_pos h3]
      go_wp2
      refine bodyPost_ret (v := .agg #[.bool true, .int .u32 s, .int .i64 CO]) ?_ rfl ⟨?_, below_set3 HB3.out (by omega) _ _ _⟩
      · obtain ⟨z0, z1, z2⟩ := cell_set3 HQ3.out (.bool true) (.int .u32 s) (.int .i64 CO)
        simp [results, Tryz.results54, go_sem, z0, z1, z2]
      · rw [HSR.out]
    have e3 : ¬ (R.packs.length : Int) ≤ (n : Int) := by omega
    have hn : n < R.packs.length := by omega
    obtain ⟨n20, np, nsf⟩ := HNX.out hn
    replace HSR : Hid (srcM R ns cs (f + 1) s p ⟨false, bp, bc⟩ = srcM R ns cs f s (adN p (oneN n)) (srcM R ns cs f (s ||| oneN n) (adN p (foAt R.packs n)) ⟨false, bp, bc⟩)) := by show _ = _; rw [HSR.out, if_neg h3]
    clear h3 HNX
    have hso : s < s ||| oneN n := by
      refine Nat.lt_of_le_of_ne Nat.left_le_or fun e => ?_
      have : (s ||| oneN n).testBit n = true := by rw [Nat.testBit_or, oneN_bit n20, Bool.or_true]
      rw [← e, nsf] at this
      cases this
    have hpo : adN p (oneN n) < p := by
      refine Nat.lt_of_le_of_ne (Nat.le_of_testBit fun j hj => by
        rw [adN_test, Bool.and_eq_true] at hj
        exact hj.1) fun e => ?_
      have : (adN p (oneN n)).testBit n = false := by rw [adN_test, oneN_bit n20, Bool.not_true, Bool.and_false]
      rw [e, np] at this
      cases this
    have hpf : adN p (foAt R.packs n) ≤ p := Nat.le_of_testBit fun j hj => by
      rw [adN_test, Bool.and_eq_true] at hj
      exact hj.1
    have l1 := oneN_lt n
    have l2 : s ||| oneN n < 2 ^ 20 := or_lt hs l1
    obtain ⟨g, off, fa, fn, fc, hap, hg, x0, x1, _⟩ := (HVR.out _ HB3.out).packs.2 n hn
    have hfo := (HM.out.packs _ (List.getElem_mem hn)).2
    rw [fo_get hn] at hpf HSR
    generalize R.packs[n].2 = FO at *
    have o1 := or_u32 s (oneN n) (by omega) (by omega)
    have o2 := andNot_u32 p FO (by omega) (by omega)
    have o3 := andNot_u32 p (oneN n) (by omega) (by omega)
    have hf1 : adN p FO + 1048576 < f + (s ||| oneN n) := by have := HF.out; omega
    have hf2 : adN p (oneN n) + 1048576 < f + s := by have := HF.out; omega
    have l3 : adN p FO < 2 ^ 20 := by omega
    have l4 : adN p (oneN n) < 2 ^ 20 := by omega
    clear np nsf n20
    obtain ⟨S1, hS1⟩ : ∃ x, s ||| oneN n = x := ⟨_, rfl⟩
    obtain ⟨P1, hP1⟩ : ∃ x, adN p FO = x := ⟨_, rfl⟩
    obtain ⟨P2, hP2⟩ : ∃ x, adN p (oneN n) = x := ⟨_, rfl⟩
    rw [hS1] at o1 hf1 l2 HSR
    rw [hP1] at o2 hf1 l3 HSR
    rw [hP2] at o3 hf2 l4 HSR
    have HF1 : Hid (P1 + 1048576 < f + S1) := hf1
    have HF2 : Hid (P2 + 1048576 < f + s) := hf2
    clear hS1 hP1 hP2 hso hpo hpf hf1 hf2
    have hgn : (n : Int) < (R.packs.length : Int) := by omega
    have HBw : Hid (Below w.heap.size w ((w3.alloc (.cells #[.int .u32 S1, .int .u32 P1] 98)).alloc (.cells #[.int .u32 s, .int .u32 P2] 98))) := (HB3.out.alloc HB3.out.size _).alloc (Nat.le_trans HB3.out.size (by simp)) _
    have HTw : Hid (((w3.alloc (.cells #[.int .u32 S1, .int .u32 P1] 98)).alloc (.cells #[.int .u32 s, .int .u32 P2] 98)).heap[w.heap.size]? = some (.cells #[.slice ap R.packs.length cp, .slice az nz cz, .slice ai ni ci, .int .u32 R.rem, .slice au nu cu, .slice an nn cn, .slice ak nk ck] 117 (0, 0))) := blk_old (blk_old HT3.out _) _
    have HSw : Hid (((w3.alloc (.cells #[.int .u32 S1, .int .u32 P1] 98)).alloc (.cells #[.int .u32 s, .int .u32 P2] 98)).heap[w.heap.size + 1]? = some (.cells #[.int .u32 s, .int .u32 p] 98 (0, 0))) := blk_old (blk_old HS3.out _) _
    have HAw : Hid (((w3.alloc (.cells #[.int .u32 S1, .int .u32 P1] 98)).alloc (.cells #[.int .u32 s, .int .u32 P2] 98)).heap[w.heap.size + 1 + 1]? = some (.cells #[.bool false, .int .u32 bp, .int .i64 bc] 74 (0, 0))) := blk_old (blk_old HA3.out _) _
    have HQw : Hid (((w3.alloc (.cells #[.int .u32 S1, .int .u32 P1] 98)).alloc (.cells #[.int .u32 s, .int .u32 P2] 98)).heap[w.heap.size + 1 + 1 + 1]? = some (.cells #[.bool false, .int .u32 0, .int .i64 0] 74 (0, 0))) := blk_old (blk_old HQ3.out _) _
    have HWo : Hid (((w3.alloc (.cells #[.int .u32 S1, .int .u32 P1] 98)).alloc (.cells #[.int .u32 s, .int .u32 P2] 98)).heap[w3.heap.size + 1]? = some (.cells #[.int .u32 s, .int .u32 P2] 98 (0, 0))) := by
      have := blk_new (w3.alloc (.cells #[.int .u32 S1, .int .u32 P1] 98)) (.cells #[.int .u32 s, .int .u32 P2] 98)
      rwa [World.size_alloc] at this
    go_wp2_with fail
    refine (doc_One n _).mono ?_
    rintro e w3b ⟨rfl, rfl⟩
    subst hap
    go_wp2_with fail
    refine (HIH.out S1 P1 false bp bc _ HF1.out l2 l3 (HVR.out _ HBw.out) (HVN.out _ HBw.out) (HVC.out _ HBw.out)).mono ?_
    rintro e w4 ⟨rfl, hb4⟩
    generalize srcM R ns cs f S1 P1 ⟨false, bp, bc⟩ = r at *
    have HB4 : Hid (Below w.heap.size w w4) := HBw.out.trans (hb4.mono HBw.out.size)
    have HT4 : Hid (w4.heap[w.heap.size]? = some (.cells #[.slice (some ⟨g, off, none⟩) R.packs.length cp, .slice az nz cz, .slice ai ni ci, .int .u32 R.rem, .slice au nu cu, .slice an nn cn, .slice ak nk ck] 117 (0, 0))) := blk_below hb4 HTw.out (ltAt HTw.out)
    have HS4 : Hid (w4.heap[w.heap.size + 1]? = some (.cells #[.int .u32 s, .int .u32 p] 98 (0, 0))) := blk_below hb4 HSw.out (ltAt HSw.out)
    have HA4 : Hid (w4.heap[w.heap.size + 1 + 1]? = some (.cells #[.bool false, .int .u32 bp, .int .i64 bc] 74 (0, 0))) := blk_below hb4 HAw.out (ltAt HAw.out)
    have HQ4 : Hid (w4.heap[w.heap.size + 1 + 1 + 1]? = some (.cells #[.bool false, .int .u32 0, .int .i64 0] 74 (0, 0))) := blk_below hb4 HQw.out (ltAt HQw.out)
    have HW4 : Hid (w4.heap[w3b.heap.size + 1]? = some (.cells #[.int .u32 s, .int .u32 P2] 98 (0, 0))) := blk_below hb4 HWo.out (ltAt HWo.out)
    have ga40 := freeAt HA4.out 0
    have ga41 := freeAt HA4.out 1
    have ga42 := freeAt HA4.out 2
    have b40 : w4.cell? ⟨w.heap.size + 1 + 1, 0, none⟩ = some (.bool false) := (cellAt HA4.out 0).trans rfl
    have b41 : w4.cell? ⟨w.heap.size + 1 + 1, 1, none⟩ = some (.int .u32 bp) := (cellAt HA4.out 1).trans rfl
    have b42 : w4.cell? ⟨w.heap.size + 1 + 1, 2, none⟩ = some (.int .i64 bc) := (cellAt HA4.out 2).trans rfl
    have t40 : w4.cell? ⟨w.heap.size, 0, none⟩ = some (.slice (some ⟨g, off, none⟩) R.packs.length cp) := (cellAt HT4.out 0).trans rfl
    have t41 : w4.cell? ⟨w.heap.size, 1, none⟩ = some (.slice az nz cz) := (cellAt HT4.out 1).trans rfl
    have t42 : w4.cell? ⟨w.heap.size, 2, none⟩ = some (.slice ai ni ci) := (cellAt HT4.out 2).trans rfl
    have t43 : w4.cell? ⟨w.heap.size, 3, none⟩ = some (.int .u32 R.rem) := (cellAt HT4.out 3).trans rfl
    have t44 : w4.cell? ⟨w.heap.size, 4, none⟩ = some (.slice au nu cu) := (cellAt HT4.out 4).trans rfl
    have t45 : w4.cell? ⟨w.heap.size, 5, none⟩ = some (.slice an nn cn) := (cellAt HT4.out 5).trans rfl
    have t46 : w4.cell? ⟨w.heap.size, 6, none⟩ = some (.slice ak nk ck) := (cellAt HT4.out 6).trans rfl
    have x40 : w4.cell? ⟨w3b.heap.size + 1, 0, none⟩ = some (.int .u32 s) := (cellAt HW4.out 0).trans rfl
    have x41 : w4.cell? ⟨w3b.heap.size + 1, 1, none⟩ = some (.int .u32 P2) := (cellAt HW4.out 1).trans rfl
    have lt4 := ltAt HT4.out
    have la4 := ltAt HA4.out
    have lq4 := ltAt HQ4.out
    have lw4 := ltAt HW4.out
    have HB5 : Hid (Below w.heap.size w (((w4.setCell ⟨w.heap.size + 1 + 1, 0, none⟩ (.bool r.f)).setCell ⟨w.heap.size + 1 + 1, 1, none⟩ (.int .u32 r.p)).setCell ⟨w.heap.size + 1 + 1, 2, none⟩ (.int .i64 r.c))) := below_set3 HB4.out (by omega) _ _ _
    have HQ5 : Hid ((((w4.setCell ⟨w.heap.size + 1 + 1, 0, none⟩ (.bool r.f)).setCell ⟨w.heap.size + 1 + 1, 1, none⟩ (.int .u32 r.p)).setCell ⟨w.heap.size + 1 + 1, 2, none⟩ (.int .i64 r.c)).heap[w.heap.size + 1 + 1 + 1]? = some (.cells #[.bool false, .int .u32 0, .int .i64 0] 74 (0, 0))) := blk_set3 HQ4.out (by omega) _ _ _
    clear hb4
    go_wp2_with fail
    refine (HIH.out s P2 r.f r.p r.c _ HF2.out hs l4 (HVR.out _ HB5.out) (HVN.out _ HB5.out) (HVC.out _ HB5.out)).mono ?_
    rintro e w6 ⟨rfl, hb6⟩
    have HSR2 : Hid (srcM R ns cs (f + 1) s p ⟨false, bp, bc⟩ = srcM R ns cs f s P2 ⟨r.f, r.p, r.c⟩) := HSR.out
    clear HSR
    generalize srcM R ns cs f s P2 ⟨r.f, r.p, r.c⟩ = rr at *
    have HB6 : Hid (Below w.heap.size w w6) := HB5.out.trans (hb6.mono HB5.out.size)
    have HQ6 : Hid (w6.heap[w.heap.size + 1 + 1 + 1]? = some (.cells #[.bool false, .int .u32 0, .int .i64 0] 74 (0, 0))) := blk_below hb6 HQ5.out (ltAt HQ5.out)
    have g60 := freeAt HQ6.out 0
    have g61 := freeAt HQ6.out 1
    have g62 := freeAt HQ6.out 2
    have q60 : w6.cell? ⟨w.heap.size + 1 + 1 + 1, 0, none⟩ = some (.bool false) := (cellAt HQ6.out 0).trans rfl
    have q61 : w6.cell? ⟨w.heap.size + 1 + 1 + 1, 1, none⟩ = some (.int .u32 0) := (cellAt HQ6.out 1).trans rfl
    have q62 : w6.cell? ⟨w.heap.size + 1 + 1 + 1, 2, none⟩ = some (.int .i64 0) := (cellAt HQ6.out 2).trans rfl
    have lq6 := ltAt HQ6.out
    clear hb6
    go_wp2
    refine bodyPost_ret (v := .agg #[.bool rr.f, .int .u32 rr.p, .int .i64 rr.c]) ?_ rfl ⟨?_, below_set3 HB6.out (by omega) _ _ _⟩
    · obtain ⟨z0, z1, z2⟩ := cell_set3 HQ6.out (.bool rr.f) (.int .u32 rr.p) (.int .i64 rr.c)
      simp [results, Tryz.results54, go_sem, z0, z1, z2]
    · rw [HSR2.out]
  | true =>
    by_cases h2 : bc ≤ CO
    · replace HSR : Hid (srcM R ns cs (f + 1) s p ⟨true, bp, bc⟩ = ⟨true, bp, bc⟩) := by show _ = _; rw [HSR.out, if_pos ⟨rfl, h2⟩]
      go_wp2
      refine bodyPost_ret (v := .agg #[.bool true, .int .u32 bp, .int .i64 bc]) ?_ rfl ⟨?_, below_set3 HB2.out (by omega) _ _ _⟩
      · obtain ⟨z0, z1, z2⟩ := cell_set3 HQ2.out (.bool true) (.int .u32 bp) (.int .i64 bc)
        simp [results, Tryz.results54, go_sem, z0, z1, z2]
      · rw [HSR.out]
    · skip
      replace HSR : Hid (srcM R ns cs (f + 1) s p ⟨true, bp, bc⟩ = if R.packs.length ≤ nxM R s p then ⟨true, s, CO⟩
        else srcM R ns cs f s (adN p (oneN (nxM R s p))) (srcM R ns cs f (s ||| oneN (nxM R s p)) (adN p (foAt R.packs (nxM R s p))) ⟨true, bp, bc⟩)) := by show _ = _; rw [HSR.out, if_neg (by exact fun h => h2 h.2)]
      go_wp2_with fail
      refine (ch_next R s p ap R.packs.length cp az nz cz ai ni ci au nu cu an nn cn ak nk ck _ (HVR.out _ HB2.out) HM.out hs hp).mono ?_
      rintro e w3 ⟨rfl, hb3⟩
      have HB3 : Hid (Below w.heap.size w w3) := HB2.out.trans (hb3.mono HB2.out.size)
      have HT3 : Hid (w3.heap[w.heap.size]? = some (.cells #[.slice ap R.packs.length cp, .slice az nz cz, .slice ai ni ci, .int .u32 R.rem, .slice au nu cu, .slice an nn cn, .slice ak nk ck] 117 (0, 0))) := blk_below hb3 HT2.out (ltAt HT2.out)
      have HS3 : Hid (w3.heap[w.heap.size + 1]? = some (.cells #[.int .u32 s, .int .u32 p] 98 (0, 0))) := blk_below hb3 HS2.out (ltAt HS2.out)
      have HA3 : Hid (w3.heap[w.heap.size + 1 + 1]? = some (.cells #[.bool true, .int .u32 bp, .int .i64 bc] 74 (0, 0))) := blk_below hb3 HA2.out (ltAt HA2.out)
      have HQ3 : Hid (w3.heap[w.heap.size + 1 + 1 + 1]? = some (.cells #[.bool false, .int .u32 0, .int .i64 0] 74 (0, 0))) := blk_below hb3 HQ2.out (ltAt HQ2.out)
      have t30 : w3.cell? ⟨w.heap.size, 0, none⟩ = some (.slice ap R.packs.length cp) := (cellAt HT3.out 0).trans rfl
      have t31 : w3.cell? ⟨w.heap.size, 1, none⟩ = some (.slice az nz cz) := (cellAt HT3.out 1).trans rfl
      have t32 : w3.cell? ⟨w.heap.size, 2, none⟩ = some (.slice ai ni ci) := (cellAt HT3.out 2).trans rfl
      have t33 : w3.cell? ⟨w.heap.size, 3, none⟩ = some (.int .u32 R.rem) := (cellAt HT3.out 3).trans rfl
      have t34 : w3.cell? ⟨w.heap.size, 4, none⟩ = some (.slice au nu cu) := (cellAt HT3.out 4).trans rfl
      have t35 : w3.cell? ⟨w.heap.size, 5, none⟩ = some (.slice an nn cn) := (cellAt HT3.out 5).trans rfl
      have t36 : w3.cell? ⟨w.heap.size, 6, none⟩ = some (.slice ak nk ck) := (cellAt HT3.out 6).trans rfl
      have s30 : w3.cell? ⟨w.heap.size + 1, 0, none⟩ = some (.int .u32 s) := (cellAt HS3.out 0).trans rfl
      have s31 : w3.cell? ⟨w.heap.size + 1, 1, none⟩ = some (.int .u32 p) := (cellAt HS3.out 1).trans rfl
      have b30 : w3.cell? ⟨w.heap.size + 1 + 1, 0, none⟩ = some (.bool true) := (cellAt HA3.out 0).trans rfl
      have b31 : w3.cell? ⟨w.heap.size + 1 + 1, 1, none⟩ = some (.int .u32 bp) := (cellAt HA3.out 1).trans rfl
      have b32 : w3.cell? ⟨w.heap.size + 1 + 1, 2, none⟩ = some (.int .i64 bc) := (cellAt HA3.out 2).trans rfl
      have q30 : w3.cell? ⟨w.heap.size + 1 + 1 + 1, 0, none⟩ = some (.bool false) := (cellAt HQ3.out 0).trans rfl
      have q31 : w3.cell? ⟨w.heap.size + 1 + 1 + 1, 1, none⟩ = some (.int .u32 0) := (cellAt HQ3.out 1).trans rfl
      have q32 : w3.cell? ⟨w.heap.size + 1 + 1 + 1, 2, none⟩ = some (.int .i64 0) := (cellAt HQ3.out 2).trans rfl
      have g30 := freeAt HQ3.out 0
      have g31 := freeAt HQ3.out 1
      have g32 := freeAt HQ3.out 2
      have ga30 := freeAt HA3.out 0
      have ga31 := freeAt HA3.out 1
      have ga32 := freeAt HA3.out 2
      have lt3 := ltAt HT3.out
      have ls3 := ltAt HS3.out
      have la3 := ltAt HA3.out
      have lq3 := ltAt HQ3.out
      clear hb3
      clear t20 t21 t22 t23 t24 t25 t26 s20 s21 b20 b21 b22 q20 q21 q22 g20 g21 g22 ga20 ga21 ga22
      generalize nxM R s p = n at *
      by_cases h3 : R.packs.length ≤ n
      · have e3 : (R.packs.length : Int) ≤ (n : Int) := by omega
        replace HSR : Hid (srcM R ns cs (f + 1) s p ⟨true, bp, bc⟩ = ⟨true, s, CO⟩) := by show _ = _; rw [HSR.out, if_pos h3]
        go_wp2
        refine bodyPost_ret (v := .agg #[.bool true, .int .u32 s, .int .i64 CO]) ?_ rfl ⟨?_, below_set3 HB3.out (by omega) _ _ _⟩
        · obtain ⟨z0, z1, z2⟩ := cell_set3 HQ3.out (.bool true) (.int .u32 s) (.int .i64 CO)
          simp [results, Tryz.results54, go_sem, z0, z1, z2]
        · rw [HSR.out]
      have e3 : ¬ (R.packs.length : Int) ≤ (n : Int) := by omega
      have hn : n < R.packs.length := by omega
      obtain ⟨n20, np, nsf⟩ := HNX.out hn
      replace HSR : Hid (srcM R ns cs (f + 1) s p ⟨true, bp, bc⟩ = srcM R ns cs f s (adN p (oneN n)) (srcM R ns cs f (s ||| oneN n) (adN p (foAt R.packs n)) ⟨true, bp, bc⟩)) := by show _ = _; rw [HSR.out, if_neg h3]
      clear h3 HNX
      have hso : s < s ||| oneN n := by
        refine Nat.lt_of_le_of_ne Nat.left_le_or fun e => ?_
        have : (s ||| oneN n).testBit n = true := by rw [Nat.testBit_or, oneN_bit n20, Bool.or_true]
        rw [← e, nsf] at this
        cases this
      have hpo : adN p (oneN n) < p := by
        refine Nat.lt_of_le_of_ne (Nat.le_of_testBit fun j hj => by
          rw [adN_test, Bool.and_eq_true] at hj
          exact hj.1) fun e => ?_
        have : (adN p (oneN n)).testBit n = false := by rw [adN_test, oneN_bit n20, Bool.not_true, Bool.and_false]
        rw [e, np] at this
        cases this
      have hpf : adN p (foAt R.packs n) ≤ p := Nat.le_of_testBit fun j hj => by
        rw [adN_test, Bool.and_eq_true] at hj
        exact hj.1
      have l1 := oneN_lt n
      have l2 : s ||| oneN n < 2 ^ 20 := or_lt hs l1
      obtain ⟨g, off, fa, fn, fc, hap, hg, x0, x1, _⟩ := (HVR.out _ HB3.out).packs.2 n hn
      have hfo := (HM.out.packs _ (List.getElem_mem hn)).2
      rw [fo_get hn] at hpf HSR
      generalize R.packs[n].2 = FO at *
      have o1 := or_u32 s (oneN n) (by omega) (by omega)
      have o2 := andNot_u32 p FO (by omega) (by omega)
      have o3 := andNot_u32 p (oneN n) (by omega) (by omega)
      have hf1 : adN p FO + 1048576 < f + (s ||| oneN n) := by have := HF.out; omega
      have hf2 : adN p (oneN n) + 1048576 < f + s := by have := HF.out; omega
      have l3 : adN p FO < 2 ^ 20 := by omega
      have l4 : adN p (oneN n) < 2 ^ 20 := by omega
      clear np nsf n20
      obtain ⟨S1, hS1⟩ : ∃ x, s ||| oneN n = x := ⟨_, rfl⟩
      obtain ⟨P1, hP1⟩ : ∃ x, adN p FO = x := ⟨_, rfl⟩
      obtain ⟨P2, hP2⟩ : ∃ x, adN p (oneN n) = x := ⟨_, rfl⟩
      rw [hS1] at o1 hf1 l2 HSR
      rw [hP1] at o2 hf1 l3 HSR
      rw [hP2] at o3 hf2 l4 HSR
      have HF1 : Hid (P1 + 1048576 < f + S1) := hf1
      have HF2 : Hid (P2 + 1048576 < f + s) := hf2
      clear hS1 hP1 hP2 hso hpo hpf hf1 hf2
      have hgn : (n : Int) < (R.packs.length : Int) := by omega
      have HBw : Hid (Below w.heap.size w ((w3.alloc (.cells #[.int .u32 S1, .int .u32 P1] 98)).alloc (.cells #[.int .u32 s, .int .u32 P2] 98))) := (HB3.out.alloc HB3.out.size _).alloc (Nat.le_trans HB3.out.size (by simp)) _
      have HTw : Hid (((w3.alloc (.cells #[.int .u32 S1, .int .u32 P1] 98)).alloc (.cells #[.int .u32 s, .int .u32 P2] 98)).heap[w.heap.size]? = some (.cells #[.slice ap R.packs.length cp, .slice az nz cz, .slice ai ni ci, .int .u32 R.rem, .slice au nu cu, .slice an nn cn, .slice ak nk ck] 117 (0, 0))) := blk_old (blk_old HT3.out _) _
      have HSw : Hid (((w3.alloc (.cells #[.int .u32 S1, .int .u32 P1] 98)).alloc (.cells #[.int .u32 s, .int .u32 P2] 98)).heap[w.heap.size + 1]? = some (.cells #[.int .u32 s, .int .u32 p] 98 (0, 0))) := blk_old (blk_old HS3.out _) _
      have HAw : Hid (((w3.alloc (.cells #[.int .u32 S1, .int .u32 P1] 98)).alloc (.cells #[.int .u32 s, .int .u32 P2] 98)).heap[w.heap.size + 1 + 1]? = some (.cells #[.bool true, .int .u32 bp, .int .i64 bc] 74 (0, 0))) := blk_old (blk_old HA3.out _) _
      have HQw : Hid (((w3.alloc (.cells #[.int .u32 S1, .int .u32 P1] 98)).alloc (.cells #[.int .u32 s, .int .u32 P2] 98)).heap[w.heap.size + 1 + 1 + 1]? = some (.cells #[.bool false, .int .u32 0, .int .i64 0] 74 (0, 0))) := blk_old (blk_old HQ3.out _) _
      have HWo : Hid (((w3.alloc (.cells #[.int .u32 S1, .int .u32 P1] 98)).alloc (.cells #[.int .u32 s, .int .u32 P2] 98)).heap[w3.heap.size + 1]? = some (.cells #[.int .u32 s, .int .u32 P2] 98 (0, 0))) := by
        have := blk_new (w3.alloc (.cells #[.int .u32 S1, .int .u32 P1] 98)) (.cells #[.int .u32 s, .int .u32 P2] 98)
        rwa [World.size_alloc] at this
      go_wp2_with fail
      refine (doc_One n _).mono ?_
      rintro e w3b ⟨rfl, rfl⟩
      subst hap
      go_wp2_with fail
      refine (HIH.out S1 P1 true bp bc _ HF1.out l2 l3 (HVR.out _ HBw.out) (HVN.out _ HBw.out) (HVC.out _ HBw.out)).mono ?_
      rintro e w4 ⟨rfl, hb4⟩
      generalize srcM R ns cs f S1 P1 ⟨true, bp, bc⟩ = r at *
      have HB4 : Hid (Below w.heap.size w w4) := HBw.out.trans (hb4.mono HBw.out.size)
      have HT4 : Hid (w4.heap[w.heap.size]? = some (.cells #[.slice (some ⟨g, off, none⟩) R.packs.length cp, .slice az nz cz, .slice ai ni ci, .int .u32 R.rem, .slice au nu cu, .slice an nn cn, .slice ak nk ck] 117 (0, 0))) := blk_below hb4 HTw.out (ltAt HTw.out)
      have HS4 : Hid (w4.heap[w.heap.size + 1]? = some (.cells #[.int .u32 s, .int .u32 p] 98 (0, 0))) := blk_below hb4 HSw.out (ltAt HSw.out)
      have HA4 : Hid (w4.heap[w.heap.size + 1 + 1]? = some (.cells #[.bool true, .int .u32 bp, .int .i64 bc] 74 (0, 0))) := blk_below hb4 HAw.out (ltAt HAw.out)
      have HQ4 : Hid (w4.heap[w.heap.size + 1 + 1 + 1]? = some (.cells #[.bool false, .int .u32 0, .int .i64 0] 74 (0, 0))) := blk_below hb4 HQw.out (ltAt HQw.out)
      have HW4 : Hid (w4.heap[w3b.heap.size + 1]? = some (.cells #[.int .u32 s, .int .u32 P2] 98 (0, 0))) := blk_below hb4 HWo.out (ltAt HWo.out)
      have ga40 := freeAt HA4.out 0
      have ga41 := freeAt HA4.out 1
      have ga42 := freeAt HA4.out 2
      have b40 : w4.cell? ⟨w.heap.size + 1 + 1, 0, none⟩ = some (.bool true) := (cellAt HA4.out 0).trans rfl
      have b41 : w4.cell? ⟨w.heap.size + 1 + 1, 1, none⟩ = some (.int .u32 bp) := (cellAt HA4.out 1).trans rfl
      have b42 : w4.cell? ⟨w.heap.size + 1 + 1, 2, none⟩ = some (.int .i64 bc) := (cellAt HA4.out 2).trans rfl
      have t40 : w4.cell? ⟨w.heap.size, 0, none⟩ = some (.slice (some ⟨g, off, none⟩) R.packs.length cp) := (cellAt HT4.out 0).trans rfl
      have t41 : w4.cell? ⟨w.heap.size, 1, none⟩ = some (.slice az nz cz) := (cellAt HT4.out 1).trans rfl
      have t42 : w4.cell? ⟨w.heap.size, 2, none⟩ = some (.slice ai ni ci) := (cellAt HT4.out 2).trans rfl
      have t43 : w4.cell? ⟨w.heap.size, 3, none⟩ = some (.int .u32 R.rem) := (cellAt HT4.out 3).trans rfl
      have t44 : w4.cell? ⟨w.heap.size, 4, none⟩ = some (.slice au nu cu) := (cellAt HT4.out 4).trans rfl
      have t45 : w4.cell? ⟨w.heap.size, 5, none⟩ = some (.slice an nn cn) := (cellAt HT4.out 5).trans rfl
      have t46 : w4.cell? ⟨w.heap.size, 6, none⟩ = some (.slice ak nk ck) := (cellAt HT4.out 6).trans rfl
      have x40 : w4.cell? ⟨w3b.heap.size + 1, 0, none⟩ = some (.int .u32 s) := (cellAt HW4.out 0).trans rfl
      have x41 : w4.cell? ⟨w3b.heap.size + 1, 1, none⟩ = some (.int .u32 P2) := (cellAt HW4.out 1).trans rfl
      have lt4 := ltAt HT4.out
      have la4 := ltAt HA4.out
      have lq4 := ltAt HQ4.out
      have lw4 := ltAt HW4.out
      have HB5 : Hid (Below w.heap.size w (((w4.setCell ⟨w.heap.size + 1 + 1, 0, none⟩ (.bool r.f)).setCell ⟨w.heap.size + 1 + 1, 1, none⟩ (.int .u32 r.p)).setCell ⟨w.heap.size + 1 + 1, 2, none⟩ (.int .i64 r.c))) := below_set3 HB4.out (by omega) _ _ _
      have HQ5 : Hid ((((w4.setCell ⟨w.heap.size + 1 + 1, 0, none⟩ (.bool r.f)).setCell ⟨w.heap.size + 1 + 1, 1, none⟩ (.int .u32 r.p)).setCell ⟨w.heap.size + 1 + 1, 2, none⟩ (.int .i64 r.c)).heap[w.heap.size + 1 + 1 + 1]? = some (.cells #[.bool false, .int .u32 0, .int .i64 0] 74 (0, 0))) := blk_set3 HQ4.out (by omega) _ _ _
      clear hb4
      go_wp2_with fail
      refine (HIH.out s P2 r.f r.p r.c _ HF2.out hs l4 (HVR.out _ HB5.out) (HVN.out _ HB5.out) (HVC.out _ HB5.out)).mono ?_
      rintro e w6 ⟨rfl, hb6⟩
      have HSR2 : Hid (srcM R ns cs (f + 1) s p ⟨true, bp, bc⟩ = srcM R ns cs f s P2 ⟨r.f, r.p, r.c⟩) := HSR.out
      clear HSR
      generalize srcM R ns cs f s P2 ⟨r.f, r.p, r.c⟩ = rr at *
      have HB6 : Hid (Below w.heap.size w w6) := HB5.out.trans (hb6.mono HB5.out.size)
      have HQ6 : Hid (w6.heap[w.heap.size + 1 + 1 + 1]? = some (.cells #[.bool false, .int .u32 0, .int .i64 0] 74 (0, 0))) := blk_below hb6 HQ5.out (ltAt HQ5.out)
      have g60 := freeAt HQ6.out 0
      have g61 := freeAt HQ6.out 1
      have g62 := freeAt HQ6.out 2
      have q60 : w6.cell? ⟨w.heap.size + 1 + 1 + 1, 0, none⟩ = some (.bool false) := (cellAt HQ6.out 0).trans rfl
      have q61 : w6.cell? ⟨w.heap.size + 1 + 1 + 1, 1, none⟩ = some (.int .u32 0) := (cellAt HQ6.out 1).trans rfl
      have q62 : w6.cell? ⟨w.heap.size + 1 + 1 + 1, 2, none⟩ = some (.int .i64 0) := (cellAt HQ6.out 2).trans rfl
      have lq6 := ltAt HQ6.out
      clear hb6
      go_wp2
      refine bodyPost_ret (v := .agg #[.bool rr.f, .int .u32 rr.p, .int .i64 rr.c]) ?_ rfl ⟨?_, below_set3 HB6.out (by omega) _ _ _⟩
      · obtain ⟨z0, z1, z2⟩ := cell_set3 HQ6.out (.bool rr.f) (.int .u32 rr.p) (.int .i64 rr.c)
        simp [results, Tryz.results54, go_sem, z0, z1, z2]
      · rw [HSR2.out]

end Go.Proofs.YtenbnmbbfeekpabGreatDoor
