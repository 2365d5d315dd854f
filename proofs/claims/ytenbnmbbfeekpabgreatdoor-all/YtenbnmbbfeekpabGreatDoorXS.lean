import Derived.Test.YtenbnmbbfeekpabGreatDoorXK
import Derived.Test.YtenbnmbbfeekpabGreatDoorXJ

namespace Go.Proofs.YtenbnmbbfeekpabGreatDoor
open Go.RowKit

set_option maxHeartbeats 6400000 in
set_option maxRecDepth 100000 in
theorem ref_Better (ps : List Pk) (C A B : List UInt8) (ap : Option Addr) (np cp : Nat) (ai : Option Addr) (ni ci : Nat) (ar : Option Addr) (nr cr : Nat) (au : Option Addr) (nu cu : Nat) (w : World) (hd : RPksAt w (.slice ap np cp) ps) (hok : ∀ p ∈ ps, PkOk p) (hpl : ps.length ≤ 801) (hC : C.length ≤ 2000) (hev : C.length % 2 = 0) (hA : A.length ≤ maxLen) (hB : B.length ≤ maxLen) :
    Calls Tryz.prog 70 #[.agg #[.slice ap np cp, .slice ai ni ci, .slice ar nr cr, .slice au nu cu], .string (bs C), .string (bs A), .string (bs B)] w fun e w' => e = .returned (.bool (btF ps A B C)) ∧ Below w.heap.size w w' := by
  have HD : Hid (RPksAt w (.slice ap np cp) ps) := hd
  have HOK : Hid (∀ p ∈ ps, PkOk p) := hok
  have HA : Hid (A.length ≤ maxLen) := hA
  have HBL : Hid (B.length ≤ maxLen) := hB
  have HEV : Hid (C.length % 2 = 0) := hev
  have hsC : (bs C).size = C.length := bs_size C
  have HSZ : Hid ((bs C).size = C.length) := hsC
  clear hd hok hA hB hev
  generalize hRB : btF ps A B C = R at *
  have HR0 : Hid (R = btF ps A B C) := hRB.symm
  clear hRB
  go_enter Tryz.func70, Tryz.ntmps70
  go_wp2
  go_loopw [9] (fun i wr => ∃ m J : Nat, Hid (J = 2 * m) ∧ J ≤ C.length ∧ i = .int .i64 J ∧ Hid (R = btF ps A B (C.drop J)) ∧ Below w.heap.size w wr ∧ wr.heap[w.heap.size]? = some (.cells #[.slice ap np cp, .slice ai ni ci, .slice ar nr cr, .slice au nu cu] 126 (0, 0))) (fun i _ => C.length - (intOf i).toNat)
  case atStart => exact ⟨0, 0, rfl, by omega, rfl, by show _ = _; rw [List.drop_zero]; exact HR0.out, (Below.refl _ _).alloc (Nat.le_refl _) _, blk_new _ _⟩
  case round =>
    obtain ⟨m, J, HJ, hJ, rfl, HI, hb, hblk⟩ := hrel
    have hbs := hb.size
    have hltb := ltAt hblk
    have HB : Hid (Below w.heap.size w wr) := hb
    have HBK : Hid (wr.heap[w.heap.size]? = some (.cells #[.slice ap np cp, .slice ai ni ci, .slice ar nr cr, .slice au nu cu] 126 (0, 0))) := hblk
    have HDr : Hid (RPksAt wr (.slice ap np cp) ps) := HD.out.below hb
    by_cases hlt : J < C.length
    · have hlt1 : J + 1 < C.length := by have := HEV.out; have := HJ.out; omega
      have d0 : wr.cell? ⟨w.heap.size, 0, none⟩ = some (.slice ap np cp) := by rw [cellAt hblk]; rfl
      have d1 : wr.cell? ⟨w.heap.size, 1, none⟩ = some (.slice ai ni ci) := by rw [cellAt hblk]; rfl
      have d2 : wr.cell? ⟨w.heap.size, 2, none⟩ = some (.slice ar nr cr) := by rw [cellAt hblk]; rfl
      have d3 : wr.cell? ⟨w.heap.size, 3, none⟩ = some (.slice au nu cu) := by rw [cellAt hblk]; rfl
      obtain ⟨J1, hJ1⟩ : ∃ J1, J1 = J + 1 := ⟨_, rfl⟩
      have cJ : (J : Int) + 1 = (J1 : Int) := by omega
      have hj1 : (J1 : Int) < (C.length : Int) := by omega
      have hi1 : (J1 : Int) < ((bs C).size : Int) := by rw [hsC]; omega
      have hi2 : J1 < (bs C).size := by rw [hsC]; omega
      have hi0 : (J : Int) < ((bs C).size : Int) := by rw [hsC]; omega
      have hwr : IntKind.i64.wrap (J1 : Int) = (J1 : Int) := by rw [IntKind.wrap_i64]; omega
      obtain ⟨X, hX⟩ : ∃ X, X = C[J].toNat := ⟨_, rfl⟩
      obtain ⟨K, hK⟩ : ∃ K, K = C[J + 1].toNat := ⟨_, rfl⟩
      have q0 : ∀ h, ((bs C)[J]'h).toNat = X := fun h => by rw [bs_at, hX]
      have q1 : ∀ h, ((bs C)[J1]'h).toNat = K := fun h => by subst hJ1; rw [bs_at, hK]
      have HN : Hid (R = if numT ps A K = numT ps B K then btF ps A B (C.drop (J + 2)) else (decide (numT ps A K < numT ps B K) == (X == 45))) := by
        show _ = _; rw [HI.out, List.drop_eq_getElem_cons hlt, List.drop_eq_getElem_cons hlt1, btF, hX, hK]
      have HJ2 : Hid (J + 2 = 2 * (m + 1)) := by show _ = _; have := HJ.out; omega
      have hna : numT ps A K < 100 := by have := numA_le ps A K 26; unfold numT; omega
      have hnb : numT ps B K < 100 := by have := numA_le ps B K 26; unfold numT; omega
      obtain ⟨NA, HNA⟩ : ∃ n, Hid (numT ps A K = n) := ⟨_, rfl⟩
      obtain ⟨NB, HNB⟩ : ∃ n, Hid (numT ps B K = n) := ⟨_, rfl⟩
      rw [HNA.out] at HN hna
      rw [HNB.out] at HN hnb
      clear hb hblk hX hK hJ1 HI
      go_wp2_with fail
      go_region_held3 (fun w' => w'.cell? ⟨w.heap.size, 0, none⟩ = some (.slice ap np cp) ∧ w'.cell? ⟨w.heap.size, 1, none⟩ = some (.slice ai ni ci) ∧ w'.cell? ⟨w.heap.size, 2, none⟩ = some (.slice ar nr cr) ∧ w'.cell? ⟨w.heap.size, 3, none⟩ = some (.slice au nu cu)) (first | exact ⟨d0, d1, d2, d3⟩ | exact ⟨dcell (by assumption) d0, dcell (by assumption) d1, dcell (by assumption) d2, dcell (by assumption) d3⟩)
        (first | (go_at_call 64; refine (ref_number ps A K ap np cp ai ni ci ar nr cr au nu cu _ (by exact HDr.out) HOK.out hpl HA.out).mono ?_; rintro e w1 ⟨rfl, hb1⟩; rw [HNA.out]; have HB1 : Hid (Below wr.heap.size wr w1) := below_drew hb1))
      all_goals
        have HD1 : Hid (RPksAt w1 (.slice ap np cp) ps) := HDr.out.below HB1.out
        have hs1 := HB1.out.size
        have HK1 : Hid (w1.heap[w.heap.size]? = some (.cells #[.slice ap np cp, .slice ai ni ci, .slice ar nr cr, .slice au nu cu] 126 (0, 0))) := blk_below HB1.out HBK.out hltb
        have e0 : w1.cell? ⟨w.heap.size, 0, none⟩ = some (.slice ap np cp) := (cellAt HK1.out 0).trans rfl
        have e1 : w1.cell? ⟨w.heap.size, 1, none⟩ = some (.slice ai ni ci) := (cellAt HK1.out 1).trans rfl
        have e2 : w1.cell? ⟨w.heap.size, 2, none⟩ = some (.slice ar nr cr) := (cellAt HK1.out 2).trans rfl
        have e3 : w1.cell? ⟨w.heap.size, 3, none⟩ = some (.slice au nu cu) := (cellAt HK1.out 3).trans rfl
        clear d0 d1 d2 d3 hb1
        by_cases hne : NA = NB
        · have hx : ((NA : Int) != NB) = false := by rw [bne_eq_false_iff_eq]; omega
          have HE : Hid (R = btF ps A B (C.drop (J + 2))) := by show _ = _; rw [HN.out, if_pos hne]
          clear HN hne
          go_wp2_with fail
          go_region_held3 (fun w' => w'.cell? ⟨w.heap.size, 0, none⟩ = some (.slice ap np cp) ∧ w'.cell? ⟨w.heap.size, 1, none⟩ = some (.slice ai ni ci) ∧ w'.cell? ⟨w.heap.size, 2, none⟩ = some (.slice ar nr cr) ∧ w'.cell? ⟨w.heap.size, 3, none⟩ = some (.slice au nu cu)) (first | exact ⟨e0, e1, e2, e3⟩ | exact ⟨dcell (by assumption) e0, dcell (by assumption) e1, dcell (by assumption) e2, dcell (by assumption) e3⟩)
            (first | (go_at_call 64; refine (ref_number ps B K ap np cp ai ni ci ar nr cr au nu cu _ (by exact HD1.out) HOK.out hpl HBL.out).mono ?_; rintro e w2 ⟨rfl, hb2⟩; rw [HNB.out]; have HB2 : Hid (Below wr.heap.size wr w2) := HB1.out.trans ((below_drew hb2).mono hs1)))
          have HBw : Hid (Below w.heap.size w w2) := HB.out.trans (HB2.out.mono hbs)
          have HK2 : Hid (w2.heap[w.heap.size]? = some (.cells #[.slice ap np cp, .slice ai ni ci, .slice ar nr cr, .slice au nu cu] 126 (0, 0))) := blk_below HB2.out HBK.out hltb
          clear e0 e1 e2 e3 hb2
          go_wp2
          go_roundw
          case rel => exact ⟨m + 1, J + 2, HJ2, by omega, by go_num, HE, HBw.out, HK2.out⟩
          case measure => simp [intOf]; omega
        · have hx : ((NA : Int) != NB) = true := by rw [bne_iff_ne]; omega
          have HE : Hid (R = (decide ((NA : Int) < (NB : Int)) == ((X : Int) == 45))) := by
            show _ = _; rw [HN.out, if_neg hne]
            congr 1
            · rw [Bool.eq_iff_iff, decide_eq_true_iff, decide_eq_true_iff]; omega
            · rw [Bool.eq_iff_iff, beq_iff_eq, beq_iff_eq]; omega
          clear HN hne
          go_wp2_with fail
          go_region_held3 (fun w' => w'.cell? ⟨w.heap.size, 0, none⟩ = some (.slice ap np cp) ∧ w'.cell? ⟨w.heap.size, 1, none⟩ = some (.slice ai ni ci) ∧ w'.cell? ⟨w.heap.size, 2, none⟩ = some (.slice ar nr cr) ∧ w'.cell? ⟨w.heap.size, 3, none⟩ = some (.slice au nu cu)) (first | exact ⟨e0, e1, e2, e3⟩ | exact ⟨dcell (by assumption) e0, dcell (by assumption) e1, dcell (by assumption) e2, dcell (by assumption) e3⟩)
            (first | (go_at_call 64; refine (ref_number ps B K ap np cp ai ni ci ar nr cr au nu cu _ (by exact HD1.out) HOK.out hpl HBL.out).mono ?_; rintro e w2 ⟨rfl, hb2⟩; rw [HNB.out]; have HB2 : Hid (Below wr.heap.size wr w2) := HB1.out.trans ((below_drew hb2).mono hs1)))
          have HBw : Hid (Below w.heap.size w w2) := HB.out.trans (HB2.out.mono hbs)
          clear e0 e1 e2 e3 hb2
          go_wp2
          go_ret
          exact ⟨ret_bool (by rw [HE.out]; simp), HBw.out⟩
    · have hjn : ¬ (J : Int) + 1 < (C.length : Int) := by omega
      have HF : Hid (R = false) := by show _ = _; rw [HI.out, List.drop_of_length_le (by omega)]; rfl
      go_wp2
      go_ret
      exact ⟨ret_bool HF.out.symm, HB.out⟩

end Go.Proofs.YtenbnmbbfeekpabGreatDoor

namespace Go.Proofs.YtenbnmbbfeekpabGreatDoor
open Go.RowKit

set_option maxHeartbeats 12800000 in
set_option maxRecDepth 100000 in
theorem ref_Chosen (s : ByteArray) (C P : List UInt8) (e : Nat) (O : List UInt8) (w : World) (hs : s.size ≤ maxLen) (hC : C.length ≤ maxLen) (hP : P.length ≤ maxLen) (hO : O.length ≤ maxLen) (_he : e ≤ 100) : Calls Tryz.prog 36 #[.string s, .string (bs C), .string (bs P), .int .i64 e, .string (bs O)] w fun r w' => r = .returned (.bool (chB s.data.toList C P e O)) ∧ Below w.heap.size w w' := by
  have HCm : Hid (C.length ≤ maxLen) := hC
  have HPm : Hid (P.length ≤ maxLen) := hP
  have HOm : Hid (O.length ≤ maxLen) := hO
  have hpe : (((bs P).toList == []) : Bool) = P.isEmpty := by rw [tl]; cases P <;> rfl
  have HPE : Hid ((((bs P).toList == []) : Bool) = P.isEmpty) := hpe
  have HPE2 : Hid ((bs P).toList.isEmpty = P.isEmpty) := by show _ = _; rw [tl]
  clear hC hP hO hpe
  by_cases h : rdE s.data.toList = 0
  · have HE : Hid (rdE s.data.toList = 0) := h
    have hz : ((rdE s.data.toList : Int) == 0) = true := by rw [HE.out]; rfl
    cases hcr : critB C with
    | false =>
      have HF : Hid (chB s.data.toList C P e O = (e == 6 && P.isEmpty)) := by show _ = _; unfold chB; rw [if_pos h, hcr]; rfl
      have HCR : Hid (critB C = false) := hcr
      clear h hcr
      go_enter Tryz.func36, Tryz.ntmps36
      go_wp2_with fail
      refine (ref_Check s _ hs).mono ?_
      rintro r w1 ⟨rfl, hb1⟩
      have HB1 : Hid (Below w.heap.size w w1) := hb1
      clear hb1
      go_wp2_with fail
      refine (ref_Criteria C _ HCm.out).mono ?_
      rintro r w1' ⟨rfl, rfl⟩
      rw [HCR.out]
      by_cases h6 : e = 6
      · have y6 : ((e : Int) == 6) = true := by rw [beq_iff_eq]; omega
        have HG : Hid (chB s.data.toList C P e O = (bs P).toList.isEmpty) := by show _ = _; rw [HF.out, h6, HPE2.out]; simp
        clear HF h6
        go_wp2
        go_ret
        exact ⟨ret_bool HG.out.symm, HB1.out⟩
      · have y6 : ((e : Int) == 6) = false := by rw [beq_eq_false_iff_ne]; omega
        have HG : Hid (chB s.data.toList C P e O = false) := by show _ = _; rw [HF.out]; simp [h6]
        clear HF h6
        go_wp2
        go_ret
        exact ⟨ret_bool HG.out.symm, HB1.out⟩
    | true =>
      obtain ⟨hC8, hCe⟩ := crit_even hcr
      have HF : Hid (chB s.data.toList C P e O = chD (dcV s.data.toList) C P e O) := by show _ = _; unfold chB; rw [if_pos h, hcr]; rfl
      have HCR : Hid (critB C = true) := hcr
      obtain ⟨r1, r2, r3, r4, _⟩ := rd_ok h
      have hsm := dc_small r2 (by rw [← r1]; exact r3)
      have hnd := dc_nds r1 r3
      have hs8 : s.size ≤ 800 := by rw [← sz]; exact r3
      have HOK : Hid (DcOk (dcV s.data.toList)) := r2
      have HR1 : Hid (s.data.toList = dcT (dcV s.data.toList)) := r1
      have HSM : Hid (DcSm (dcV s.data.toList)) := hsm
      have HPK : Hid (∀ p ∈ (dcV s.data.toList).packs, PkOk p ∧ PkSm p ∧ ∀ n ∈ p.needs, (ndT n).length ≤ 800) := fun p hp => ⟨r2.packs p hp, hsm.pack p hp, hnd p hp⟩
      have hpl := hsm.packs
      clear r1 r2 r3 h hcr hsm hnd
      go_enter Tryz.func36, Tryz.ntmps36
      go_wp2_with fail
      refine (ref_Check s _ hs).mono ?_
      rintro r w1 ⟨rfl, hb1⟩
      have HB1 : Hid (Below w.heap.size w w1) := hb1
      have hw1 := hb1.size
      clear hb1
      go_wp2_with fail
      refine (ref_Criteria C _ HCm.out).mono ?_
      rintro r w1' ⟨rfl, rfl⟩
      rw [HCR.out, HE.out]
      go_wp2_with fail
      refine (ref_read (dcV s.data.toList) HOK.out s HR1.out _ hs8).mono ?_
      rintro r w2 ⟨ap, np, cp, ai, ni, ci, ar, nr, cr, au, nu, cu, rfl, hd2, hb2⟩
      have HB2 : Hid (Below w.heap.size w w2) := HB1.out.trans (hb2.mono hw1)
      have hw2 : w.heap.size ≤ w2.heap.size := HB2.out.size
      have HD2 : Hid (∀ w', Below w2.heap.size w2 w' → RDcAt w' (dcV s.data.toList) (.slice ap np cp) (.slice ai ni ci) (.slice ar nr cr) (.slice au nu cu)) := fun w' hb => hd2.below hb
      clear hb2 hd2 HB1
      generalize dcV s.data.toList = d at *
      have HBA : Hid (Below w2.heap.size w2 (w2.alloc (.cells #[.slice ap np cp, .slice ai ni ci, .slice ar nr cr, .slice au nu cu] 126))) := (Below.refl _ _).alloc (Nat.le_refl _) _
      have HKA : Hid ((w2.alloc (.cells #[.slice ap np cp, .slice ai ni ci, .slice ar nr cr, .slice au nu cu] 126)).heap[w2.heap.size]? = some (.cells #[.slice ap np cp, .slice ai ni ci, .slice ar nr cr, .slice au nu cu] 126 (0, 0))) := blk_new _ _
      cases hpo : pickB d.packs O with
      | false =>
        have HPO : Hid (pickB d.packs O = false) := hpo
        have HRT : Hid (rightB d O = false) := by show _ = _; unfold rightB; rw [hpo]; rfl
        clear hpo
        go_wp2_with fail
        refine (ref_Pick d.packs O ap np cp ai ni ci ar nr cr au nu cu _ (HD2.out _ HBA.out).1 hpl HOm.out).mono ?_
        rintro r w3 ⟨rfl, hb3⟩
        rw [HPO.out]
        have HB3 : Hid (Below w2.heap.size w2 w3) := HBA.out.trans (hb3.mono (by simp))
        have HK3 : Hid (w3.heap[w2.heap.size]? = some (.cells #[.slice ap np cp, .slice ai ni ci, .slice ar nr cr, .slice au nu cu] 126 (0, 0))) := blk_below hb3 HKA.out (by simp)
        clear hb3 HBA HKA
        have y30 : w3.cell? ⟨w2.heap.size, 0, none⟩ = some (.slice ap np cp) := (cellAt HK3.out 0).trans rfl
        have y31 : w3.cell? ⟨w2.heap.size, 1, none⟩ = some (.slice ai ni ci) := (cellAt HK3.out 1).trans rfl
        have y32 : w3.cell? ⟨w2.heap.size, 2, none⟩ = some (.slice ar nr cr) := (cellAt HK3.out 2).trans rfl
        have y33 : w3.cell? ⟨w2.heap.size, 3, none⟩ = some (.slice au nu cu) := (cellAt HK3.out 3).trans rfl
        have hl3 := ltAt HK3.out
        by_cases h7 : e = 7
        · have y7 : ((e : Int) == 7) = true := by rw [beq_iff_eq]; omega
          have HG : Hid (chB s.data.toList C P e O = (((bs P).toList == []) && !false)) := by show _ = _; rw [HF.out]; unfold chD; rw [if_pos h7, HRT.out, HPE.out]
          clear h7
          cases hpx : ((bs P).toList == []) with
          | false =>
            have HG2 : Hid (chB s.data.toList C P e O = (false && !false)) := by show _ = _; rw [HG.out, hpx]
            clear HG
            go_wp2
            go_ret
            exact ⟨ret_bool HG2.out.symm, HB2.out.trans (HB3.out.mono hw2)⟩
          | true =>
            have HG2 : Hid (chB s.data.toList C P e O = (true && !false)) := by show _ = _; rw [HG.out, hpx]
            clear HG
            go_wp2
            go_ret
            exact ⟨ret_bool HG2.out.symm, HB2.out.trans (HB3.out.mono hw2)⟩
        · have y7 : ((e : Int) == 7) = false := by rw [beq_eq_false_iff_ne]; omega
          cases hpp : pickB d.packs P with
          | false =>
            have HPP : Hid (pickB d.packs P = false) := hpp
            have HG : Hid (chB s.data.toList C P e O = false) := by show _ = _; rw [HF.out]; unfold chD; rw [if_neg h7, hpp]; simp
            clear hpp h7
            go_wp2_with fail
            refine (ref_Pick d.packs P ap np cp ai ni ci ar nr cr au nu cu _ (HD2.out _ HB3.out).1 hpl HPm.out).mono ?_
            rintro r w4 ⟨rfl, hb4⟩
            rw [HPP.out]
            have HB4 : Hid (Below w2.heap.size w2 w4) := HB3.out.trans (hb4.mono HB3.out.size)
            have HK4 : Hid (w4.heap[w2.heap.size]? = some (.cells #[.slice ap np cp, .slice ai ni ci, .slice ar nr cr, .slice au nu cu] 126 (0, 0))) := blk_below hb4 HK3.out (ltAt HK3.out)
            clear hb4
            have y40 : w4.cell? ⟨w2.heap.size, 0, none⟩ = some (.slice ap np cp) := (cellAt HK4.out 0).trans rfl
            have y41 : w4.cell? ⟨w2.heap.size, 1, none⟩ = some (.slice ai ni ci) := (cellAt HK4.out 1).trans rfl
            have y42 : w4.cell? ⟨w2.heap.size, 2, none⟩ = some (.slice ar nr cr) := (cellAt HK4.out 2).trans rfl
            have y43 : w4.cell? ⟨w2.heap.size, 3, none⟩ = some (.slice au nu cu) := (cellAt HK4.out 3).trans rfl
            have hl4 := ltAt HK4.out
            by_cases he0 : e = 0
            · have y0 : ((e : Int) != 0) = false := by rw [bne_eq_false_iff_eq]; omega
              clear he0
              go_wp2
              go_ret
              exact ⟨ret_bool HG.out.symm, HB2.out.trans (HB4.out.mono hw2)⟩
            · have y0 : ((e : Int) != 0) = true := by rw [bne_iff_ne]; omega
              clear he0
              go_wp2
              go_ret
              exact ⟨ret_bool HG.out.symm, HB2.out.trans (HB4.out.mono hw2)⟩
          | true =>
            have HPP : Hid (pickB d.packs P = true) := hpp
            have hP2 : P.length ≤ 2000 := pick_len hpp hpl
            by_cases he0 : e = 0
            · have y0 : ((e : Int) != 0) = false := by rw [bne_eq_false_iff_eq]; omega
              have HG0 : Hid (chB s.data.toList C P e O = (ruleN d P == 0 && (!false || !btF d.packs O P C))) := by show _ = _; rw [HF.out]; unfold chD; rw [if_neg h7, if_pos he0, hpp, HRT.out]; rfl
              clear hpp h7 he0
              go_wp2_with fail
              refine (ref_Pick d.packs P ap np cp ai ni ci ar nr cr au nu cu _ (HD2.out _ HB3.out).1 hpl HPm.out).mono ?_
              rintro r w4 ⟨rfl, hb4⟩
              rw [HPP.out]
              have HB4 : Hid (Below w2.heap.size w2 w4) := HB3.out.trans (hb4.mono HB3.out.size)
              have HK4 : Hid (w4.heap[w2.heap.size]? = some (.cells #[.slice ap np cp, .slice ai ni ci, .slice ar nr cr, .slice au nu cu] 126 (0, 0))) := blk_below hb4 HK3.out (ltAt HK3.out)
              clear hb4
              have y40 : w4.cell? ⟨w2.heap.size, 0, none⟩ = some (.slice ap np cp) := (cellAt HK4.out 0).trans rfl
              have y41 : w4.cell? ⟨w2.heap.size, 1, none⟩ = some (.slice ai ni ci) := (cellAt HK4.out 1).trans rfl
              have y42 : w4.cell? ⟨w2.heap.size, 2, none⟩ = some (.slice ar nr cr) := (cellAt HK4.out 2).trans rfl
              have y43 : w4.cell? ⟨w2.heap.size, 3, none⟩ = some (.slice au nu cu) := (cellAt HK4.out 3).trans rfl
              have hl4 := ltAt HK4.out
              obtain ⟨N, HN⟩ : ∃ n, Hid (ruleN d P = n) := ⟨_, rfl⟩
              have hN6 : N ≤ 6 := by rw [← HN.out]; exact rule_le d P
              go_wp2_with fail
              refine (ref_Rule d P ap np cp ai ni ci ar nr cr au nu cu _ (HD2.out _ HB4.out) HOK.out HPK.out HSM.out hP2).mono ?_
              rintro r w5 ⟨rfl, hb5⟩
              rw [HN.out]
              have HB5 : Hid (Below w2.heap.size w2 w5) := HB4.out.trans (hb5.mono HB4.out.size)
              have HK5 : Hid (w5.heap[w2.heap.size]? = some (.cells #[.slice ap np cp, .slice ai ni ci, .slice ar nr cr, .slice au nu cu] 126 (0, 0))) := blk_below hb5 HK4.out (ltAt HK4.out)
              clear hb5
              have y50 : w5.cell? ⟨w2.heap.size, 0, none⟩ = some (.slice ap np cp) := (cellAt HK5.out 0).trans rfl
              have y51 : w5.cell? ⟨w2.heap.size, 1, none⟩ = some (.slice ai ni ci) := (cellAt HK5.out 1).trans rfl
              have y52 : w5.cell? ⟨w2.heap.size, 2, none⟩ = some (.slice ar nr cr) := (cellAt HK5.out 2).trans rfl
              have y53 : w5.cell? ⟨w2.heap.size, 3, none⟩ = some (.slice au nu cu) := (cellAt HK5.out 3).trans rfl
              have hl5 := ltAt HK5.out
              by_cases hN0 : N = 0
              · have yN : ((N : Int) != 0) = false := by rw [bne_eq_false_iff_eq]; omega
                obtain ⟨bt, HBT⟩ : ∃ b, Hid (btF d.packs O P C = b) := ⟨_, rfl⟩
                have HG : Hid (chB s.data.toList C P e O = (!false || !bt)) := by show _ = _; rw [HG0.out, HN.out, hN0, HBT.out]; rfl
                clear HG0 hN0
                go_wp2_with fail
                refine (ref_Better d.packs C O P ap np cp ai ni ci ar nr cr au nu cu _ (HD2.out _ HB5.out).1 (fun p hp => (HPK.out p hp).1) hpl (by omega) hCe HOm.out HPm.out).mono ?_
                rintro r w6 ⟨rfl, hb6⟩
                rw [HBT.out]
                have HB6 : Hid (Below w2.heap.size w2 w6) := HB5.out.trans (hb6.mono HB5.out.size)
                clear hb6
                go_wp2
                go_ret
                exact ⟨ret_bool (by rw [HG.out]; simp), HB2.out.trans (HB6.out.mono hw2)⟩
              · have yN : ((N : Int) != 0) = true := by rw [bne_iff_ne]; omega
                have HG : Hid (chB s.data.toList C P e O = false) := by show _ = _; rw [HG0.out, HN.out]; simp [hN0]
                clear HG0 hN0
                go_wp2
                go_ret
                exact ⟨ret_bool HG.out.symm, HB2.out.trans (HB5.out.mono hw2)⟩
            · have y0 : ((e : Int) != 0) = true := by rw [bne_iff_ne]; omega
              have HG : Hid (chB s.data.toList C P e O = false) := by show _ = _; rw [HF.out]; unfold chD; rw [if_neg h7, if_neg he0]
              clear hpp h7 he0
              go_wp2_with fail
              refine (ref_Pick d.packs P ap np cp ai ni ci ar nr cr au nu cu _ (HD2.out _ HB3.out).1 hpl HPm.out).mono ?_
              rintro r w4 ⟨rfl, hb4⟩
              rw [HPP.out]
              have HB4 : Hid (Below w2.heap.size w2 w4) := HB3.out.trans (hb4.mono HB3.out.size)
              have HK4 : Hid (w4.heap[w2.heap.size]? = some (.cells #[.slice ap np cp, .slice ai ni ci, .slice ar nr cr, .slice au nu cu] 126 (0, 0))) := blk_below hb4 HK3.out (ltAt HK3.out)
              clear hb4
              have y40 : w4.cell? ⟨w2.heap.size, 0, none⟩ = some (.slice ap np cp) := (cellAt HK4.out 0).trans rfl
              have y41 : w4.cell? ⟨w2.heap.size, 1, none⟩ = some (.slice ai ni ci) := (cellAt HK4.out 1).trans rfl
              have y42 : w4.cell? ⟨w2.heap.size, 2, none⟩ = some (.slice ar nr cr) := (cellAt HK4.out 2).trans rfl
              have y43 : w4.cell? ⟨w2.heap.size, 3, none⟩ = some (.slice au nu cu) := (cellAt HK4.out 3).trans rfl
              have hl4 := ltAt HK4.out
              go_wp2
              go_ret
              exact ⟨ret_bool HG.out.symm, HB2.out.trans (HB4.out.mono hw2)⟩
      | true =>
        have HPO : Hid (pickB d.packs O = true) := hpo
        have hO2 : O.length ≤ 2000 := pick_len hpo hpl
        clear hpo
        go_wp2_with fail
        refine (ref_Pick d.packs O ap np cp ai ni ci ar nr cr au nu cu _ (HD2.out _ HBA.out).1 hpl HOm.out).mono ?_
        rintro r w3 ⟨rfl, hb3⟩
        rw [HPO.out]
        have HB3 : Hid (Below w2.heap.size w2 w3) := HBA.out.trans (hb3.mono (by simp))
        have HK3 : Hid (w3.heap[w2.heap.size]? = some (.cells #[.slice ap np cp, .slice ai ni ci, .slice ar nr cr, .slice au nu cu] 126 (0, 0))) := blk_below hb3 HKA.out (by simp)
        clear hb3 HBA HKA
        have y30 : w3.cell? ⟨w2.heap.size, 0, none⟩ = some (.slice ap np cp) := (cellAt HK3.out 0).trans rfl
        have y31 : w3.cell? ⟨w2.heap.size, 1, none⟩ = some (.slice ai ni ci) := (cellAt HK3.out 1).trans rfl
        have y32 : w3.cell? ⟨w2.heap.size, 2, none⟩ = some (.slice ar nr cr) := (cellAt HK3.out 2).trans rfl
        have y33 : w3.cell? ⟨w2.heap.size, 3, none⟩ = some (.slice au nu cu) := (cellAt HK3.out 3).trans rfl
        have hl3 := ltAt HK3.out
        obtain ⟨NO, HNO⟩ : ∃ n, Hid (ruleN d O = n) := ⟨_, rfl⟩
        have hNO6 : NO ≤ 6 := by rw [← HNO.out]; exact rule_le d O
        go_wp2_with fail
        refine (ref_Rule d O ap np cp ai ni ci ar nr cr au nu cu _ (HD2.out _ HB3.out) HOK.out HPK.out HSM.out hO2).mono ?_
        rintro r w4 ⟨rfl, hb4⟩
        rw [HNO.out]
        have HB4 : Hid (Below w2.heap.size w2 w4) := HB3.out.trans (hb4.mono HB3.out.size)
        have HK4 : Hid (w4.heap[w2.heap.size]? = some (.cells #[.slice ap np cp, .slice ai ni ci, .slice ar nr cr, .slice au nu cu] 126 (0, 0))) := blk_below hb4 HK3.out (ltAt HK3.out)
        clear hb4
        have y40 : w4.cell? ⟨w2.heap.size, 0, none⟩ = some (.slice ap np cp) := (cellAt HK4.out 0).trans rfl
        have y41 : w4.cell? ⟨w2.heap.size, 1, none⟩ = some (.slice ai ni ci) := (cellAt HK4.out 1).trans rfl
        have y42 : w4.cell? ⟨w2.heap.size, 2, none⟩ = some (.slice ar nr cr) := (cellAt HK4.out 2).trans rfl
        have y43 : w4.cell? ⟨w2.heap.size, 3, none⟩ = some (.slice au nu cu) := (cellAt HK4.out 3).trans rfl
        have hl4 := ltAt HK4.out
        by_cases hNO : NO = 0
        · have yNO : ((NO : Int) == 0) = true := by rw [beq_iff_eq]; omega
          have HRT : Hid (rightB d O = true) := by show _ = _; unfold rightB; rw [HPO.out, HNO.out, hNO]; rfl
          clear hNO
          by_cases h7 : e = 7
          · have y7 : ((e : Int) == 7) = true := by rw [beq_iff_eq]; omega
            have HG : Hid (chB s.data.toList C P e O = (((bs P).toList == []) && !true)) := by show _ = _; rw [HF.out]; unfold chD; rw [if_pos h7, HRT.out, HPE.out]
            clear h7
            cases hpx : ((bs P).toList == []) with
            | false =>
              have HG2 : Hid (chB s.data.toList C P e O = (false && !true)) := by show _ = _; rw [HG.out, hpx]
              clear HG
              go_wp2
              go_ret
              exact ⟨ret_bool HG2.out.symm, HB2.out.trans (HB4.out.mono hw2)⟩
            | true =>
              have HG2 : Hid (chB s.data.toList C P e O = (true && !true)) := by show _ = _; rw [HG.out, hpx]
              clear HG
              go_wp2
              go_ret
              exact ⟨ret_bool HG2.out.symm, HB2.out.trans (HB4.out.mono hw2)⟩
          · have y7 : ((e : Int) == 7) = false := by rw [beq_eq_false_iff_ne]; omega
            cases hpp : pickB d.packs P with
            | false =>
              have HPP : Hid (pickB d.packs P = false) := hpp
              have HG : Hid (chB s.data.toList C P e O = false) := by show _ = _; rw [HF.out]; unfold chD; rw [if_neg h7, hpp]; simp
              clear hpp h7
              go_wp2_with fail
              refine (ref_Pick d.packs P ap np cp ai ni ci ar nr cr au nu cu _ (HD2.out _ HB4.out).1 hpl HPm.out).mono ?_
              rintro r w5 ⟨rfl, hb5⟩
              rw [HPP.out]
              have HB5 : Hid (Below w2.heap.size w2 w5) := HB4.out.trans (hb5.mono HB4.out.size)
              have HK5 : Hid (w5.heap[w2.heap.size]? = some (.cells #[.slice ap np cp, .slice ai ni ci, .slice ar nr cr, .slice au nu cu] 126 (0, 0))) := blk_below hb5 HK4.out (ltAt HK4.out)
              clear hb5
              have y50 : w5.cell? ⟨w2.heap.size, 0, none⟩ = some (.slice ap np cp) := (cellAt HK5.out 0).trans rfl
              have y51 : w5.cell? ⟨w2.heap.size, 1, none⟩ = some (.slice ai ni ci) := (cellAt HK5.out 1).trans rfl
              have y52 : w5.cell? ⟨w2.heap.size, 2, none⟩ = some (.slice ar nr cr) := (cellAt HK5.out 2).trans rfl
              have y53 : w5.cell? ⟨w2.heap.size, 3, none⟩ = some (.slice au nu cu) := (cellAt HK5.out 3).trans rfl
              have hl5 := ltAt HK5.out
              by_cases he0 : e = 0
              · have y0 : ((e : Int) != 0) = false := by rw [bne_eq_false_iff_eq]; omega
                clear he0
                go_wp2
                go_ret
                exact ⟨ret_bool HG.out.symm, HB2.out.trans (HB5.out.mono hw2)⟩
              · have y0 : ((e : Int) != 0) = true := by rw [bne_iff_ne]; omega
                clear he0
                go_wp2
                go_ret
                exact ⟨ret_bool HG.out.symm, HB2.out.trans (HB5.out.mono hw2)⟩
            | true =>
              have HPP : Hid (pickB d.packs P = true) := hpp
              have hP2 : P.length ≤ 2000 := pick_len hpp hpl
              by_cases he0 : e = 0
              · have y0 : ((e : Int) != 0) = false := by rw [bne_eq_false_iff_eq]; omega
                have HG0 : Hid (chB s.data.toList C P e O = (ruleN d P == 0 && (!true || !btF d.packs O P C))) := by show _ = _; rw [HF.out]; unfold chD; rw [if_neg h7, if_pos he0, hpp, HRT.out]; rfl
                clear hpp h7 he0
                go_wp2_with fail
                refine (ref_Pick d.packs P ap np cp ai ni ci ar nr cr au nu cu _ (HD2.out _ HB4.out).1 hpl HPm.out).mono ?_
                rintro r w5 ⟨rfl, hb5⟩
                rw [HPP.out]
                have HB5 : Hid (Below w2.heap.size w2 w5) := HB4.out.trans (hb5.mono HB4.out.size)
                have HK5 : Hid (w5.heap[w2.heap.size]? = some (.cells #[.slice ap np cp, .slice ai ni ci, .slice ar nr cr, .slice au nu cu] 126 (0, 0))) := blk_below hb5 HK4.out (ltAt HK4.out)
                clear hb5
                have y50 : w5.cell? ⟨w2.heap.size, 0, none⟩ = some (.slice ap np cp) := (cellAt HK5.out 0).trans rfl
                have y51 : w5.cell? ⟨w2.heap.size, 1, none⟩ = some (.slice ai ni ci) := (cellAt HK5.out 1).trans rfl
                have y52 : w5.cell? ⟨w2.heap.size, 2, none⟩ = some (.slice ar nr cr) := (cellAt HK5.out 2).trans rfl
                have y53 : w5.cell? ⟨w2.heap.size, 3, none⟩ = some (.slice au nu cu) := (cellAt HK5.out 3).trans rfl
                have hl5 := ltAt HK5.out
                obtain ⟨N, HN⟩ : ∃ n, Hid (ruleN d P = n) := ⟨_, rfl⟩
                have hN6 : N ≤ 6 := by rw [← HN.out]; exact rule_le d P
                go_wp2_with fail
                refine (ref_Rule d P ap np cp ai ni ci ar nr cr au nu cu _ (HD2.out _ HB5.out) HOK.out HPK.out HSM.out hP2).mono ?_
                rintro r w6 ⟨rfl, hb6⟩
                rw [HN.out]
                have HB6 : Hid (Below w2.heap.size w2 w6) := HB5.out.trans (hb6.mono HB5.out.size)
                have HK6 : Hid (w6.heap[w2.heap.size]? = some (.cells #[.slice ap np cp, .slice ai ni ci, .slice ar nr cr, .slice au nu cu] 126 (0, 0))) := blk_below hb6 HK5.out (ltAt HK5.out)
                clear hb6
                have y60 : w6.cell? ⟨w2.heap.size, 0, none⟩ = some (.slice ap np cp) := (cellAt HK6.out 0).trans rfl
                have y61 : w6.cell? ⟨w2.heap.size, 1, none⟩ = some (.slice ai ni ci) := (cellAt HK6.out 1).trans rfl
                have y62 : w6.cell? ⟨w2.heap.size, 2, none⟩ = some (.slice ar nr cr) := (cellAt HK6.out 2).trans rfl
                have y63 : w6.cell? ⟨w2.heap.size, 3, none⟩ = some (.slice au nu cu) := (cellAt HK6.out 3).trans rfl
                have hl6 := ltAt HK6.out
                by_cases hN0 : N = 0
                · have yN : ((N : Int) != 0) = false := by rw [bne_eq_false_iff_eq]; omega
                  obtain ⟨bt, HBT⟩ : ∃ b, Hid (btF d.packs O P C = b) := ⟨_, rfl⟩
                  have HG : Hid (chB s.data.toList C P e O = (!true || !bt)) := by show _ = _; rw [HG0.out, HN.out, hN0, HBT.out]; rfl
                  clear HG0 hN0
                  go_wp2_with fail
                  refine (ref_Better d.packs C O P ap np cp ai ni ci ar nr cr au nu cu _ (HD2.out _ HB6.out).1 (fun p hp => (HPK.out p hp).1) hpl (by omega) hCe HOm.out HPm.out).mono ?_
                  rintro r w7 ⟨rfl, hb7⟩
                  rw [HBT.out]
                  have HB7 : Hid (Below w2.heap.size w2 w7) := HB6.out.trans (hb7.mono HB6.out.size)
                  clear hb7
                  go_wp2
                  go_ret
                  exact ⟨ret_bool (by rw [HG.out]; simp), HB2.out.trans (HB7.out.mono hw2)⟩
                · have yN : ((N : Int) != 0) = true := by rw [bne_iff_ne]; omega
                  have HG : Hid (chB s.data.toList C P e O = false) := by show _ = _; rw [HG0.out, HN.out]; simp [hN0]
                  clear HG0 hN0
                  go_wp2
                  go_ret
                  exact ⟨ret_bool HG.out.symm, HB2.out.trans (HB6.out.mono hw2)⟩
              · have y0 : ((e : Int) != 0) = true := by rw [bne_iff_ne]; omega
                have HG : Hid (chB s.data.toList C P e O = false) := by show _ = _; rw [HF.out]; unfold chD; rw [if_neg h7, if_neg he0]
                clear hpp h7 he0
                go_wp2_with fail
                refine (ref_Pick d.packs P ap np cp ai ni ci ar nr cr au nu cu _ (HD2.out _ HB4.out).1 hpl HPm.out).mono ?_
                rintro r w5 ⟨rfl, hb5⟩
                rw [HPP.out]
                have HB5 : Hid (Below w2.heap.size w2 w5) := HB4.out.trans (hb5.mono HB4.out.size)
                have HK5 : Hid (w5.heap[w2.heap.size]? = some (.cells #[.slice ap np cp, .slice ai ni ci, .slice ar nr cr, .slice au nu cu] 126 (0, 0))) := blk_below hb5 HK4.out (ltAt HK4.out)
                clear hb5
                have y50 : w5.cell? ⟨w2.heap.size, 0, none⟩ = some (.slice ap np cp) := (cellAt HK5.out 0).trans rfl
                have y51 : w5.cell? ⟨w2.heap.size, 1, none⟩ = some (.slice ai ni ci) := (cellAt HK5.out 1).trans rfl
                have y52 : w5.cell? ⟨w2.heap.size, 2, none⟩ = some (.slice ar nr cr) := (cellAt HK5.out 2).trans rfl
                have y53 : w5.cell? ⟨w2.heap.size, 3, none⟩ = some (.slice au nu cu) := (cellAt HK5.out 3).trans rfl
                have hl5 := ltAt HK5.out
                go_wp2
                go_ret
                exact ⟨ret_bool HG.out.symm, HB2.out.trans (HB5.out.mono hw2)⟩
        · have yNO : ((NO : Int) == 0) = false := by rw [beq_eq_false_iff_ne]; omega
          have HRT : Hid (rightB d O = false) := by show _ = _; unfold rightB; rw [HPO.out, HNO.out]; simp [hNO]
          clear hNO
          by_cases h7 : e = 7
          · have y7 : ((e : Int) == 7) = true := by rw [beq_iff_eq]; omega
            have HG : Hid (chB s.data.toList C P e O = (((bs P).toList == []) && !false)) := by show _ = _; rw [HF.out]; unfold chD; rw [if_pos h7, HRT.out, HPE.out]
            clear h7
            cases hpx : ((bs P).toList == []) with
            | false =>
              have HG2 : Hid (chB s.data.toList C P e O = (false && !false)) := by show _ = _; rw [HG.out, hpx]
              clear HG
              go_wp2
              go_ret
              exact ⟨ret_bool HG2.out.symm, HB2.out.trans (HB4.out.mono hw2)⟩
            | true =>
              have HG2 : Hid (chB s.data.toList C P e O = (true && !false)) := by show _ = _; rw [HG.out, hpx]
              clear HG
              go_wp2
              go_ret
              exact ⟨ret_bool HG2.out.symm, HB2.out.trans (HB4.out.mono hw2)⟩
          · have y7 : ((e : Int) == 7) = false := by rw [beq_eq_false_iff_ne]; omega
            cases hpp : pickB d.packs P with
            | false =>
              have HPP : Hid (pickB d.packs P = false) := hpp
              have HG : Hid (chB s.data.toList C P e O = false) := by show _ = _; rw [HF.out]; unfold chD; rw [if_neg h7, hpp]; simp
              clear hpp h7
              go_wp2_with fail
              refine (ref_Pick d.packs P ap np cp ai ni ci ar nr cr au nu cu _ (HD2.out _ HB4.out).1 hpl HPm.out).mono ?_
              rintro r w5 ⟨rfl, hb5⟩
              rw [HPP.out]
              have HB5 : Hid (Below w2.heap.size w2 w5) := HB4.out.trans (hb5.mono HB4.out.size)
              have HK5 : Hid (w5.heap[w2.heap.size]? = some (.cells #[.slice ap np cp, .slice ai ni ci, .slice ar nr cr, .slice au nu cu] 126 (0, 0))) := blk_below hb5 HK4.out (ltAt HK4.out)
              clear hb5
              have y50 : w5.cell? ⟨w2.heap.size, 0, none⟩ = some (.slice ap np cp) := (cellAt HK5.out 0).trans rfl
              have y51 : w5.cell? ⟨w2.heap.size, 1, none⟩ = some (.slice ai ni ci) := (cellAt HK5.out 1).trans rfl
              have y52 : w5.cell? ⟨w2.heap.size, 2, none⟩ = some (.slice ar nr cr) := (cellAt HK5.out 2).trans rfl
              have y53 : w5.cell? ⟨w2.heap.size, 3, none⟩ = some (.slice au nu cu) := (cellAt HK5.out 3).trans rfl
              have hl5 := ltAt HK5.out
              by_cases he0 : e = 0
              · have y0 : ((e : Int) != 0) = false := by rw [bne_eq_false_iff_eq]; omega
                clear he0
                go_wp2
                go_ret
                exact ⟨ret_bool HG.out.symm, HB2.out.trans (HB5.out.mono hw2)⟩
              · have y0 : ((e : Int) != 0) = true := by rw [bne_iff_ne]; omega
                clear he0
                go_wp2
                go_ret
                exact ⟨ret_bool HG.out.symm, HB2.out.trans (HB5.out.mono hw2)⟩
            | true =>
              have HPP : Hid (pickB d.packs P = true) := hpp
              have hP2 : P.length ≤ 2000 := pick_len hpp hpl
              by_cases he0 : e = 0
              · have y0 : ((e : Int) != 0) = false := by rw [bne_eq_false_iff_eq]; omega
                have HG0 : Hid (chB s.data.toList C P e O = (ruleN d P == 0 && (!false || !btF d.packs O P C))) := by show _ = _; rw [HF.out]; unfold chD; rw [if_neg h7, if_pos he0, hpp, HRT.out]; rfl
                clear hpp h7 he0
                go_wp2_with fail
                refine (ref_Pick d.packs P ap np cp ai ni ci ar nr cr au nu cu _ (HD2.out _ HB4.out).1 hpl HPm.out).mono ?_
                rintro r w5 ⟨rfl, hb5⟩
                rw [HPP.out]
                have HB5 : Hid (Below w2.heap.size w2 w5) := HB4.out.trans (hb5.mono HB4.out.size)
                have HK5 : Hid (w5.heap[w2.heap.size]? = some (.cells #[.slice ap np cp, .slice ai ni ci, .slice ar nr cr, .slice au nu cu] 126 (0, 0))) := blk_below hb5 HK4.out (ltAt HK4.out)
                clear hb5
                have y50 : w5.cell? ⟨w2.heap.size, 0, none⟩ = some (.slice ap np cp) := (cellAt HK5.out 0).trans rfl
                have y51 : w5.cell? ⟨w2.heap.size, 1, none⟩ = some (.slice ai ni ci) := (cellAt HK5.out 1).trans rfl
                have y52 : w5.cell? ⟨w2.heap.size, 2, none⟩ = some (.slice ar nr cr) := (cellAt HK5.out 2).trans rfl
                have y53 : w5.cell? ⟨w2.heap.size, 3, none⟩ = some (.slice au nu cu) := (cellAt HK5.out 3).trans rfl
                have hl5 := ltAt HK5.out
                obtain ⟨N, HN⟩ : ∃ n, Hid (ruleN d P = n) := ⟨_, rfl⟩
                have hN6 : N ≤ 6 := by rw [← HN.out]; exact rule_le d P
                go_wp2_with fail
                refine (ref_Rule d P ap np cp ai ni ci ar nr cr au nu cu _ (HD2.out _ HB5.out) HOK.out HPK.out HSM.out hP2).mono ?_
                rintro r w6 ⟨rfl, hb6⟩
                rw [HN.out]
                have HB6 : Hid (Below w2.heap.size w2 w6) := HB5.out.trans (hb6.mono HB5.out.size)
                have HK6 : Hid (w6.heap[w2.heap.size]? = some (.cells #[.slice ap np cp, .slice ai ni ci, .slice ar nr cr, .slice au nu cu] 126 (0, 0))) := blk_below hb6 HK5.out (ltAt HK5.out)
                clear hb6
                have y60 : w6.cell? ⟨w2.heap.size, 0, none⟩ = some (.slice ap np cp) := (cellAt HK6.out 0).trans rfl
                have y61 : w6.cell? ⟨w2.heap.size, 1, none⟩ = some (.slice ai ni ci) := (cellAt HK6.out 1).trans rfl
                have y62 : w6.cell? ⟨w2.heap.size, 2, none⟩ = some (.slice ar nr cr) := (cellAt HK6.out 2).trans rfl
                have y63 : w6.cell? ⟨w2.heap.size, 3, none⟩ = some (.slice au nu cu) := (cellAt HK6.out 3).trans rfl
                have hl6 := ltAt HK6.out
                by_cases hN0 : N = 0
                · have yN : ((N : Int) != 0) = false := by rw [bne_eq_false_iff_eq]; omega
                  obtain ⟨bt, HBT⟩ : ∃ b, Hid (btF d.packs O P C = b) := ⟨_, rfl⟩
                  have HG : Hid (chB s.data.toList C P e O = (!false || !bt)) := by show _ = _; rw [HG0.out, HN.out, hN0, HBT.out]; rfl
                  clear HG0 hN0
                  go_wp2_with fail
                  refine (ref_Better d.packs C O P ap np cp ai ni ci ar nr cr au nu cu _ (HD2.out _ HB6.out).1 (fun p hp => (HPK.out p hp).1) hpl (by omega) hCe HOm.out HPm.out).mono ?_
                  rintro r w7 ⟨rfl, hb7⟩
                  rw [HBT.out]
                  have HB7 : Hid (Below w2.heap.size w2 w7) := HB6.out.trans (hb7.mono HB6.out.size)
                  clear hb7
                  go_wp2
                  go_ret
                  exact ⟨ret_bool (by rw [HG.out]; simp), HB2.out.trans (HB7.out.mono hw2)⟩
                · have yN : ((N : Int) != 0) = true := by rw [bne_iff_ne]; omega
                  have HG : Hid (chB s.data.toList C P e O = false) := by show _ = _; rw [HG0.out, HN.out]; simp [hN0]
                  clear HG0 hN0
                  go_wp2
                  go_ret
                  exact ⟨ret_bool HG.out.symm, HB2.out.trans (HB6.out.mono hw2)⟩
              · have y0 : ((e : Int) != 0) = true := by rw [bne_iff_ne]; omega
                have HG : Hid (chB s.data.toList C P e O = false) := by show _ = _; rw [HF.out]; unfold chD; rw [if_neg h7, if_neg he0]
                clear hpp h7 he0
                go_wp2_with fail
                refine (ref_Pick d.packs P ap np cp ai ni ci ar nr cr au nu cu _ (HD2.out _ HB4.out).1 hpl HPm.out).mono ?_
                rintro r w5 ⟨rfl, hb5⟩
                rw [HPP.out]
                have HB5 : Hid (Below w2.heap.size w2 w5) := HB4.out.trans (hb5.mono HB4.out.size)
                have HK5 : Hid (w5.heap[w2.heap.size]? = some (.cells #[.slice ap np cp, .slice ai ni ci, .slice ar nr cr, .slice au nu cu] 126 (0, 0))) := blk_below hb5 HK4.out (ltAt HK4.out)
                clear hb5
                have y50 : w5.cell? ⟨w2.heap.size, 0, none⟩ = some (.slice ap np cp) := (cellAt HK5.out 0).trans rfl
                have y51 : w5.cell? ⟨w2.heap.size, 1, none⟩ = some (.slice ai ni ci) := (cellAt HK5.out 1).trans rfl
                have y52 : w5.cell? ⟨w2.heap.size, 2, none⟩ = some (.slice ar nr cr) := (cellAt HK5.out 2).trans rfl
                have y53 : w5.cell? ⟨w2.heap.size, 3, none⟩ = some (.slice au nu cu) := (cellAt HK5.out 3).trans rfl
                have hl5 := ltAt HK5.out
                go_wp2
                go_ret
                exact ⟨ret_bool HG.out.symm, HB2.out.trans (HB5.out.mono hw2)⟩
  · have hz : ((rdE s.data.toList : Int) == 0) = false := by rw [beq_eq_false_iff_ne]; omega
    have hz' : ((rdE s.data.toList : Int) != 0) = true := by rw [bne_iff_ne]; omega
    have HF : Hid (chB s.data.toList C P e O = (((e : Int) == (rdE s.data.toList : Int)) && ((bs P).toList == []))) := by
      show _ = _; unfold chB; rw [if_neg h, HPE.out]
      congr 1
      rw [Bool.eq_iff_iff, beq_iff_eq, beq_iff_eq]; omega
    clear h
    go_enter Tryz.func36, Tryz.ntmps36
    go_wp2_with fail
    refine (ref_Check s _ hs).mono ?_
    rintro r w1 ⟨rfl, hb1⟩
    have HB1 : Hid (Below w.heap.size w w1) := hb1
    clear hb1
    go_wp2_with fail
    refine (ref_Criteria C _ HCm.out).mono ?_
    rintro r w1' ⟨rfl, rfl⟩
    generalize critB C = cr at *
    generalize rdE s.data.toList = E at *
    rcases hee : ((e : Int) == (E : Int)) with _ | _
    · have HG : Hid (chB s.data.toList C P e O = false) := by show _ = _; rw [HF.out, hee]; rfl
      clear HF
      go_wp2
      go_ret
      exact ⟨ret_bool HG.out.symm, HB1.out⟩
    · have HG : Hid (chB s.data.toList C P e O = (bs P).toList.isEmpty) := by show _ = _; rw [HF.out, hee, HPE2.out, HPE.out]; rfl
      clear HF
      go_wp2
      go_ret
      exact ⟨ret_bool HG.out.symm, HB1.out⟩

end Go.Proofs.YtenbnmbbfeekpabGreatDoor
