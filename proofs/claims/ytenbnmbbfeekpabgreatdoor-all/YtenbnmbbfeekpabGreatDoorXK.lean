import Derived.Test.YtenbnmbbfeekpabGreatDoorXJ

namespace Go.Proofs.YtenbnmbbfeekpabGreatDoor
open Go.RowKit

set_option maxHeartbeats 1600000 in
set_option maxRecDepth 100000 in
theorem ref_greatest (ps : List Pk) (N : List UInt8) (ap : Option Addr) (np cp : Nat) (ai : Option Addr) (ni ci : Nat) (ar : Option Addr) (nr cr : Nat) (au : Option Addr) (nu cu : Nat) (w : World) (hd : RPksAt w (.slice ap np cp) ps) (hpl : ps.length ≤ 801) :
    Calls Tryz.prog 112 #[.agg #[.slice ap np cp, .slice ai ni ci, .slice ar nr cr, .slice au nu cu], .string (bs N)] w fun e w' => e = .returned (.string (bs (greT ps N))) ∧ Below w.heap.size w w' := by
  obtain ⟨hr, rfl⟩ := rrow hd
  have HR : Hid (RRow w ap ps) := hr
  clear hr hd
  go_enter Tryz.func112, Tryz.ntmps112
  go_wp2
  go_loopw [5, 6] (fun s i wr => ∃ k : Nat, k ≤ ps.length ∧ i = .int .i64 k ∧ s = .string (bs (greT (ps.take k) N)) ∧ Below w.heap.size w wr ∧ wr.heap[w.heap.size]? = some (.cells #[.slice ap ps.length cp, .slice ai ni ci, .slice ar nr cr, .slice au nu cu] 126 (0, 0))) (fun _ i _ => ps.length - (intOf i).toNat)
  case atStart => exact ⟨0, by omega, rfl, rfl, (Below.refl _ _).alloc (Nat.le_refl _) _, blk_new _ _⟩
  case round =>
    obtain ⟨k, hk, rfl, rfl, hb, hblk⟩ := hrel
    have m0 : wr.cell? ⟨w.heap.size, 0, none⟩ = some (.slice ap ps.length cp) := by rw [cellAt hblk]; rfl
    have HB : Hid (Below w.heap.size w wr) := hb
    have HBK : Hid _ := hblk
    by_cases hlt : k < ps.length
    · obtain ⟨g, rfl, hg, an, nn, cn, ac, nc, cc, ap', np, cp', ⟨x0, x1, x2, x3, x4⟩, hpk⟩ := HR.out k hlt
      rw [← hb.cell (p := ⟨g, _, none⟩) hg] at x0
      have HT : Hid (greT (ps.take (k + 1)) N = gStep N (greT (ps.take k) N) ps[k]) := gre_snoc ps N k hlt
      clear x1 x2 x3 x4 hpk hb hblk
      generalize ps[k] = Q at *
      generalize greT (ps.take k) N = G at *
      have HG : Hid (gStep N G Q = if [b8 Q.n] == N && gtB [b8 Q.v] G then [b8 Q.v] else G) := rfl
      have hz : (bs [b8 Q.n, b8 Q.v]).size = 2 := by rw [bs_size]; rfl
      have HE1 : Hid (((bs [b8 Q.n, b8 Q.v]).extract 0 1).toList = [b8 Q.n]) := by show _ = _; rw [extract_bs, bs_list, tl]; rfl
      have HE2 : Hid ((bs [b8 Q.n, b8 Q.v]).extract 1 2 = bs [b8 Q.v]) := by show _ = _; rw [extract_bs, bs_list]; rfl
      rcases hn : ([b8 Q.n] == N) with _ | _
      · have hn' : (((bs [b8 Q.n, b8 Q.v]).extract 0 1).toList == (bs N).toList) = false := by rw [HE1.out, tl]; exact hn
        have HE : Hid (gStep N G Q = G) := by show _ = _; rw [HG.out, hn]; rfl
        clear hn HG HE1
        go_wp2
        go_roundw
        case rel => first | exact ⟨k + 1, by omega, by go_num, by rw [HT.out, HE.out], HB.out, HBK.out⟩ | ((repeat apply Exists.intro); exact ⟨⟨k + 1, by omega, by go_num, by rw [HT.out, HE.out], HB.out, HBK.out⟩, rfl⟩)
        case measure => simp [intOf]; omega
      · have hn' : (((bs [b8 Q.n, b8 Q.v]).extract 0 1).toList == (bs N).toList) = true := by rw [HE1.out, tl]; exact hn
        have HGT : Hid (gtB [b8 Q.v] G = !(Op.bytesLess ((bs [b8 Q.n, b8 Q.v]).extract 1 2).toList (bs G).toList || ((bs [b8 Q.n, b8 Q.v]).extract 1 2).toList == (bs G).toList)) := by show _ = _; rw [HE2.out, tl, tl]; rfl
        rcases h1 : Op.bytesLess ((bs [b8 Q.n, b8 Q.v]).extract 1 2).toList (bs G).toList with _ | _
        · rcases h2 : ((bs [b8 Q.n, b8 Q.v]).extract 1 2).toList == (bs G).toList with _ | _
          · have HE : Hid (gStep N G Q = [b8 Q.v]) := by show _ = _; rw [HG.out, hn, HGT.out, h1, h2]; rfl
            clear hn HG HE1 HGT
            go_wp2
            go_roundw
            case rel => first | exact ⟨k + 1, by omega, by go_num, by rw [HT.out, HE.out, ← HE2.out], HB.out, HBK.out⟩ | ((repeat apply Exists.intro); exact ⟨⟨k + 1, by omega, by go_num, by rw [HT.out, HE.out, ← HE2.out], HB.out, HBK.out⟩, rfl⟩)
            case measure => simp [intOf]; omega
          · have HE : Hid (gStep N G Q = G) := by show _ = _; rw [HG.out, hn, HGT.out, h1, h2]; rfl
            clear hn HG HE1 HGT
            go_wp2
            go_roundw
            case rel => first | exact ⟨k + 1, by omega, by go_num, by rw [HT.out, HE.out], HB.out, HBK.out⟩ | ((repeat apply Exists.intro); exact ⟨⟨k + 1, by omega, by go_num, by rw [HT.out, HE.out], HB.out, HBK.out⟩, rfl⟩)
            case measure => simp [intOf]; omega
        · have HE : Hid (gStep N G Q = G) := by show _ = _; rw [HG.out, hn, HGT.out, h1]; rfl
          clear hn HG HE1 HGT
          go_wp2
          go_roundw
          case rel => first | exact ⟨k + 1, by omega, by go_num, by rw [HT.out, HE.out], HB.out, HBK.out⟩ | ((repeat apply Exists.intro); exact ⟨⟨k + 1, by omega, by go_num, by rw [HT.out, HE.out], HB.out, HBK.out⟩, rfl⟩)
          case measure => simp [intOf]; omega
    · have hkl : k = ps.length := by omega
      subst hkl
      have HE : Hid (greT (ps.take ps.length) N = greT ps N) := by show _ = _; rw [List.take_length]
      rw [HE.out]
      clear HE hb hblk
      go_wp2
      go_ret
      exact ⟨rfl, HB.out⟩

end Go.Proofs.YtenbnmbbfeekpabGreatDoor

namespace Go.Proofs.YtenbnmbbfeekpabGreatDoor
open Go.RowKit

set_option maxHeartbeats 3200000 in
set_option maxRecDepth 100000 in
theorem ref_counts (ps : List Pk) (P N : List UInt8) (c : Nat) (ap : Option Addr) (np cp : Nat) (ai : Option Addr) (ni ci : Nat) (ar : Option Addr) (nr cr : Nat) (au : Option Addr) (nu cu : Nat) (w : World) (hd : RPksAt w (.slice ap np cp) ps) (hok : ∀ p ∈ ps, PkOk p) (hpl : ps.length ≤ 801) (hP : P.length ≤ maxLen) (hN : N.length ≤ 1) :
    Calls Tryz.prog 113 #[.agg #[.slice ap np cp, .slice ai ni ci, .slice ar nr cr, .slice au nu cu], .string (bs P), .string (bs N), .int .u8 c] w fun e w' => e = .returned (.bool (cntB ps P N c)) ∧ Below w.heap.size w w' := by
  have HD : Hid (RPksAt w (.slice ap np cp) ps) := hd
  have HOK : Hid (∀ p ∈ ps, PkOk p) := hok
  have HP : Hid (P.length ≤ maxLen) := hP
  have HU : Hid (cntB ps P N c = cntV c (versT ps [] N true) (versT ps P N false) (inB P (N ++ greT ps N))) := rfl
  have hGl := greT_len ps N
  clear hd hok hP
  generalize hB : cntB ps P N c = RB at *
  clear hB
  go_enter Tryz.func113, Tryz.ntmps113
  go_wp2_with fail
  obtain ⟨W, hW⟩ : ∃ W, W = w.alloc (.cells #[.slice ap np cp, .slice ai ni ci, .slice ar nr cr, .slice au nu cu] 126) := ⟨_, rfl⟩
  have hWb : W.heap[w.heap.size]? = some (.cells #[.slice ap np cp, .slice ai ni ci, .slice ar nr cr, .slice au nu cu] 126 (0, 0)) := by rw [hW]; exact blk_new _ _
  have HWB : Hid (Below w.heap.size w W) := by show Below _ _ _; rw [hW]; exact (Below.refl _ _).alloc (Nat.le_refl _) _
  have hws : w.heap.size < W.heap.size := ltAt hWb
  rw [← hW]
  have HK : Hid _ := hWb
  have HDW : Hid (RPksAt W (.slice ap np cp) ps) := HD.out.below HWB.out
  clear hW hWb
  refine (ref_versions ps [] N true ap np cp ai ni ci ar nr cr au nu cu _ HDW.out HOK.out hpl (Nat.zero_le _)).mono ?_
  rintro e w1 ⟨rfl, hb1⟩
  have HB1 : Hid (Below w.heap.size w w1) := HWB.out.trans (hb1.mono (by omega))
  have hK1 := blk_below hb1 HK.out (ltAt HK.out)
  have e0 : w1.cell? ⟨w.heap.size, 0, none⟩ = some (.slice ap np cp) := by rw [cellAt hK1]; rfl
  have e1 : w1.cell? ⟨w.heap.size, 1, none⟩ = some (.slice ai ni ci) := by rw [cellAt hK1]; rfl
  have e2 : w1.cell? ⟨w.heap.size, 2, none⟩ = some (.slice ar nr cr) := by rw [cellAt hK1]; rfl
  have e3 : w1.cell? ⟨w.heap.size, 3, none⟩ = some (.slice au nu cu) := by rw [cellAt hK1]; rfl
  have HK1 : Hid _ := hK1
  have HD1 : Hid (RPksAt w1 (.slice ap np cp) ps) := HDW.out.below hb1
  have hs1 := HB1.out.size
  clear HK HDW HWB hb1 hK1
  generalize versT ps [] N true = O at *
  go_wp2_with fail
  refine (ref_versions ps P N false ap np cp ai ni ci ar nr cr au nu cu _ HD1.out HOK.out hpl HP.out).mono ?_
  rintro e w2 ⟨rfl, hb2⟩
  have HB2 : Hid (Below w.heap.size w w2) := HB1.out.trans (hb2.mono (by omega))
  have hK2 := blk_below hb2 HK1.out (ltAt HK1.out)
  have f0 : w2.cell? ⟨w.heap.size, 0, none⟩ = some (.slice ap np cp) := by rw [cellAt hK2]; rfl
  have f1 : w2.cell? ⟨w.heap.size, 1, none⟩ = some (.slice ai ni ci) := by rw [cellAt hK2]; rfl
  have f2 : w2.cell? ⟨w.heap.size, 2, none⟩ = some (.slice ar nr cr) := by rw [cellAt hK2]; rfl
  have f3 : w2.cell? ⟨w.heap.size, 3, none⟩ = some (.slice au nu cu) := by rw [cellAt hK2]; rfl
  have HD2 : Hid (RPksAt w2 (.slice ap np cp) ps) := HD1.out.below hb2
  have hs2 := HB2.out.size
  clear e0 e1 e2 e3 HK1 HD1 HB1 hb2 hK2
  generalize versT ps P N false = V at *
  have HO1 : Hid ((bs O).toList.isEmpty = O.isEmpty) := by show _ = _; rw [tl]
  have HV1 : Hid ((bs V).toList.isEmpty = V.isEmpty) := by show _ = _; rw [tl]
  have HOV : Hid (((bs O).toList == (bs V).toList) = (O == V)) := by show _ = _; rw [tl, tl]
  by_cases h1 : c = 114
  · have z1 : ((c : Int) == 114) = true := by rw [beq_iff_eq]; omega
    have HE : Hid (RB = (!O.isEmpty && V.isEmpty)) := by show _ = _; rw [HU.out]; unfold cntV; rw [if_pos h1]
    clear HU h1
    rcases ho : (bs O).toList.isEmpty with _ | _
    · go_wp2
      go_ret
      exact ⟨ret_bool (by rw [HE.out, ← HO1.out, ho, ← HV1.out]; rfl), HB2.out⟩
    · go_wp2
      go_ret
      exact ⟨ret_bool (by rw [HE.out, ← HO1.out, ho]; rfl), HB2.out⟩
  · have z1 : ((c : Int) == 114) = false := by rw [beq_eq_false_iff_ne]; omega
    by_cases h2 : c = 110
    · have z2 : ((c : Int) == 110) = true := by rw [beq_iff_eq]; omega
      have HE : Hid (RB = (O.isEmpty && !V.isEmpty)) := by show _ = _; rw [HU.out]; unfold cntV; rw [if_neg h1, if_pos h2]
      clear HU h1 h2
      rcases ho : (bs O).toList.isEmpty with _ | _
      · go_wp2
        go_ret
        exact ⟨ret_bool (by rw [HE.out, ← HO1.out, ho]; rfl), HB2.out⟩
      · go_wp2
        go_ret
        exact ⟨ret_bool (by rw [HE.out, ← HO1.out, ho, ← HV1.out]; rfl), HB2.out⟩
    · have z2 : ((c : Int) == 110) = false := by rw [beq_eq_false_iff_ne]; omega
      by_cases h3 : c = 99
      · have z3 : ((c : Int) == 99) = true := by rw [beq_iff_eq]; omega
        have HE : Hid (RB = !(O == V)) := by show _ = _; rw [HU.out]; unfold cntV; rw [if_neg h1, if_neg h2, if_pos h3]
        clear HU h1 h2 h3
        go_wp2
        go_ret
        exact ⟨ret_bool (by rw [HE.out, ← HOV.out]), HB2.out⟩
      · have z3 : ((c : Int) == 99) = false := by rw [beq_eq_false_iff_ne]; omega
        have HE : Hid (RB = (!V.isEmpty && !inB P (N ++ greT ps N))) := by show _ = _; rw [HU.out]; unfold cntV; rw [if_neg h1, if_neg h2, if_neg h3]
        clear HU h1 h2 h3
        go_wp2_with fail
        refine (ref_greatest ps N ap np cp ai ni ci ar nr cr au nu cu _ HD2.out hpl).mono ?_
        rintro e w3 ⟨rfl, hb3⟩
        have HB3 : Hid (Below w.heap.size w w3) := HB2.out.trans (hb3.mono hs2)
        have g1 : (bs N).size ≤ 1 := by rw [bs_size]; exact hN
        have g2 : (bs (greT ps N)).size ≤ 1 := by rw [bs_size]; exact hGl
        clear f0 f1 f2 f3 hb3 HB2 HD2
        generalize greT ps N = G at *
        go_wp2_with fail
        rw [bs_app]
        refine (ref_in P (N ++ G) _ HP.out).mono ?_
        rintro e w4 ⟨rfl, rfl⟩
        rcases hv : (bs V).toList.isEmpty with _ | _
        · go_wp2
          go_ret
          exact ⟨ret_bool (by rw [HE.out, ← HV1.out, hv]; rfl), HB3.out⟩
        · go_wp2
          go_ret
          exact ⟨ret_bool (by rw [HE.out, ← HV1.out, hv]; rfl), HB3.out⟩

end Go.Proofs.YtenbnmbbfeekpabGreatDoor

namespace Go.Proofs.YtenbnmbbfeekpabGreatDoor
open Go.RowKit

set_option maxHeartbeats 3200000 in
set_option maxRecDepth 100000 in
theorem ref_number (ps : List Pk) (P : List UInt8) (c : Nat) (ap : Option Addr) (np cp : Nat) (ai : Option Addr) (ni ci : Nat) (ar : Option Addr) (nr cr : Nat) (au : Option Addr) (nu cu : Nat) (w : World) (hd : RPksAt w (.slice ap np cp) ps) (hok : ∀ p ∈ ps, PkOk p) (hpl : ps.length ≤ 801) (hP : P.length ≤ maxLen) :
    Calls Tryz.prog 64 #[.agg #[.slice ap np cp, .slice ai ni ci, .slice ar nr cr, .slice au nu cu], .string (bs P), .int .u8 c] w fun e w' => e = .returned (.int .i64 (numT ps P c : Nat)) ∧ Below w.heap.size w w' := by
  have HD : Hid (RPksAt w (.slice ap np cp) ps) := hd
  have HOK : Hid (∀ p ∈ ps, PkOk p) := hok
  have HP : Hid (P.length ≤ maxLen) := hP
  clear hd hok hP
  go_enter Tryz.func64, Tryz.ntmps64
  go_wp2
  go_loopw [7, 8] (fun n v wr => ∃ a : Nat, a ≤ 26 ∧ v = .int .u8 ((97 + a : Nat) : Int) ∧ n = .int .i64 (numA ps P c a : Nat) ∧ Below w.heap.size w wr ∧ wr.heap[w.heap.size]? = some (.cells #[.slice ap np cp, .slice ai ni ci, .slice ar nr cr, .slice au nu cu] 126 (0, 0))) (fun _ v _ => 130 - (intOf v).toNat)
  case atStart => exact ⟨0, by omega, rfl, rfl, (Below.refl _ _).alloc (Nat.le_refl _) _, blk_new _ _⟩
  case round =>
    obtain ⟨a, ha, rfl, rfl, hb, hblk⟩ := hrel
    have HB : Hid (Below w.heap.size w wr) := hb
    have HBK : Hid _ := hblk
    have hbs := hb.size
    have hnl := numA_le ps P c a
    by_cases ha9 : a < 26
    · have HN : Hid (numA ps P c (a + 1) = numA ps P c a + (if (!(greT ps [b8 (97 + a)]).isEmpty && cntB ps P [b8 (97 + a)] c) then 1 else 0)) := rfl
      have hcv : (convert 46 9 (.slice (some ⟨wr.heap.size, 0, none⟩) 1 1)).run Tryz.prog (wr.alloc (.cells #[.int .u8 (97 + (a : Int))] 5)) = .ok (.string (bs [b8 (97 + a)])) (wr.alloc (.cells #[.int .u8 (97 + (a : Int))] 5)) := by
        have := conv1 wr (97 + a) (by omega)
        rwa [show ((97 + a : Nat) : Int) = 97 + (a : Int) by omega] at this
      generalize numA ps P c a = M at *
      have hlt := ltAt hblk
      obtain ⟨W, hW⟩ : ∃ W, W = wr.alloc (.cells #[.int .u8 (97 + (a : Int))] 5) := ⟨_, rfl⟩
      have HWB : Hid (Below wr.heap.size wr W) := by show Below _ _ _; rw [hW]; exact (Below.refl _ _).alloc (Nat.le_refl _) _
      have hKW := blk_below HWB.out hblk (ltAt hblk)
      have d0 : W.cell? ⟨w.heap.size, 0, none⟩ = some (.slice ap np cp) := by rw [cellAt hKW]; rfl
      have d1 : W.cell? ⟨w.heap.size, 1, none⟩ = some (.slice ai ni ci) := by rw [cellAt hKW]; rfl
      have d2 : W.cell? ⟨w.heap.size, 2, none⟩ = some (.slice ar nr cr) := by rw [cellAt hKW]; rfl
      have d3 : W.cell? ⟨w.heap.size, 3, none⟩ = some (.slice au nu cu) := by rw [cellAt hKW]; rfl
      rw [hW] at d0 d1 d2 d3
      clear hb hblk
      go_wp2_with fail
      rw [← hW] at d0 d1 d2 d3 ⊢
      have HKW : Hid _ := hKW
      have HBW : Hid (Below w.heap.size w W) := HB.out.trans (HWB.out.mono hbs)
      have HDW : Hid (RPksAt W (.slice ap np cp) ps) := HD.out.below HBW.out
      clear hW hcv hKW HWB HB HBK
      refine (ref_greatest ps [b8 (97 + a)] ap np cp ai ni ci ar nr cr au nu cu _ HDW.out hpl).mono ?_
      rintro e w1 ⟨rfl, hb1⟩
      have hK1 := blk_below hb1 HKW.out (ltAt HKW.out)
      have HB1 : Hid (Below w.heap.size w w1) := HBW.out.trans (hb1.mono HBW.out.size)
      have HD1 : Hid (RPksAt w1 (.slice ap np cp) ps) := HDW.out.below hb1
      have e0 : w1.cell? ⟨w.heap.size, 0, none⟩ = some (.slice ap np cp) := by rw [cellAt hK1]; rfl
      have e1 : w1.cell? ⟨w.heap.size, 1, none⟩ = some (.slice ai ni ci) := by rw [cellAt hK1]; rfl
      have e2 : w1.cell? ⟨w.heap.size, 2, none⟩ = some (.slice ar nr cr) := by rw [cellAt hK1]; rfl
      have e3 : w1.cell? ⟨w.heap.size, 3, none⟩ = some (.slice au nu cu) := by rw [cellAt hK1]; rfl
      have HK1 : Hid _ := hK1
      clear hK1 hb1 d0 d1 d2 d3 HKW HBW HDW
      go_wp2_with fail
      refine (ref_counts ps P [b8 (97 + a)] c ap np cp ai ni ci ar nr cr au nu cu _ HD1.out HOK.out hpl HP.out (by simp)).mono ?_
      rintro e w2 ⟨rfl, hb2⟩
      have HK2 : Hid (w2.heap[w.heap.size]? = _) := blk_below hb2 HK1.out (ltAt HK1.out)
      have HB2 : Hid (Below w.heap.size w w2) := HB1.out.trans (hb2.mono HB1.out.size)
      have HG : Hid ((bs (greT ps [b8 (97 + a)])).toList.isEmpty = (greT ps [b8 (97 + a)]).isEmpty) := by show _ = _; rw [tl]
      clear hb2 e0 e1 e2 e3 HK1 HB1 HD1
      generalize greT ps [b8 (97 + a)] = G at *
      generalize cntB ps P [b8 (97 + a)] c = C at *
      rcases hg : (bs G).toList.isEmpty with _ | _
      · have hG : G.isEmpty = false := by rw [← HG.out]; exact hg
        cases C with
        | false =>
          have HE : Hid (numA ps P c (a + 1) = M) := by show _ = _; rw [HN.out, hG]; rfl
          clear HN HG hG
          go_wp2
          go_roundw
          case rel => first | exact ⟨a + 1, by omega, by go_num, by rw [HE.out], HB2.out, HK2.out⟩ | ((repeat apply Exists.intro); exact ⟨⟨a + 1, by omega, by go_num, by rw [HE.out], HB2.out, HK2.out⟩, rfl⟩)
          case measure => simp [intOf]; omega
        | true =>
          have HE : Hid (numA ps P c (a + 1) = M + 1) := by show _ = _; rw [HN.out, hG]; rfl
          clear HN HG hG
          go_wp2
          go_roundw
          case rel => first | exact ⟨a + 1, by omega, by go_num, by rw [HE.out]; go_num, HB2.out, HK2.out⟩ | ((repeat apply Exists.intro); exact ⟨⟨a + 1, by omega, by go_num, by rw [HE.out]; go_num, HB2.out, HK2.out⟩, rfl⟩)
          case measure => simp [intOf]; omega
      · have hG : G.isEmpty = true := by rw [← HG.out]; exact hg
        have HE : Hid (numA ps P c (a + 1) = M) := by show _ = _; rw [HN.out, hG]; rfl
        clear HN HG hG
        go_wp2
        go_roundw
        case rel => first | exact ⟨a + 1, by omega, by go_num, by rw [HE.out], HB2.out, HK2.out⟩ | ((repeat apply Exists.intro); exact ⟨⟨a + 1, by omega, by go_num, by rw [HE.out], HB2.out, HK2.out⟩, rfl⟩)
        case measure => simp [intOf]; omega
    · have ha' : a = 26 := by omega
      subst ha'
      clear hb hblk
      go_wp2
      go_ret
      exact ⟨rfl, HB.out⟩

end Go.Proofs.YtenbnmbbfeekpabGreatDoor

namespace Go.Proofs.YtenbnmbbfeekpabGreatDoor
open Go.RowKit

set_option maxHeartbeats 1600000 in
set_option maxRecDepth 100000 in
theorem ref_digits (n : Nat) (hn : n < 100) (w : World) : Calls Tryz.prog 65 #[.int .i64 n] w fun e w' => e = .returned (.string (bs (digT n))) ∧ Below w.heap.size w w' := by
  have hcv : (convert 46 9 (.slice (some ⟨w.heap.size, 0, none⟩) 1 1)).run Tryz.prog (w.alloc (.cells #[.int .u8 (48 + (n : Int) % 10)] 5)) = .ok (.string (bs [b8 (48 + n % 10)])) (w.alloc (.cells #[.int .u8 (48 + (n : Int) % 10)] 5)) := by
    have := conv1 w (48 + n % 10) (by omega)
    rwa [show ((48 + n % 10 : Nat) : Int) = 48 + (n : Int) % 10 by omega] at this
  go_enter Tryz.func65, Tryz.ntmps65
  go_wp2
  clear hcv
  go_loopw [0, 3] (fun m t wr => Below w.heap.size w wr ∧ ((m = .int .i64 n ∧ t = .string (bs [b8 (48 + n % 10)])) ∨ (10 ≤ n ∧ m = .int .i64 ((n / 10 : Nat) : Int) ∧ t = .string (bs [b8 (48 + n / 10), b8 (48 + n % 10)])))) (fun m _ _ => (intOf m).toNat)
  case atStart => exact ⟨(Below.refl _ _).alloc (Nat.le_refl _) _, Or.inl ⟨rfl, rfl⟩⟩
  case round =>
    obtain ⟨hb, hrel⟩ := hrel
    have hbs := hb.size
    have HB : Hid (Below w.heap.size w wr) := hb
    clear hb
    rcases hrel with ⟨rfl, rfl⟩ | ⟨h10, rfl, rfl⟩
    · by_cases h : 10 ≤ n
      · have hcv : (convert 46 9 (.slice (some ⟨wr.heap.size, 0, none⟩) 1 1)).run Tryz.prog (wr.alloc (.cells #[.int .u8 (48 + (n : Int) / 10 % 10)] 5)) = .ok (.string (bs [b8 (48 + n / 10)])) (wr.alloc (.cells #[.int .u8 (48 + (n : Int) / 10 % 10)] 5)) := by
          have := conv1 wr (48 + n / 10) (by omega)
          rwa [show ((48 + n / 10 : Nat) : Int) = 48 + (n : Int) / 10 % 10 by omega] at this
        have s1 : (bs [b8 (48 + n / 10)]).size = 1 := by rw [bs_size]; rfl
        have s2 : (bs [b8 (48 + n % 10)]).size = 1 := by rw [bs_size]; rfl
        go_wp2
        go_roundw
        case rel => exact ⟨HB.out.alloc hbs _, Or.inr ⟨h, by go_num, by rw [bs_app]; rfl⟩⟩
        case measure => simp [intOf]; omega
      · have HE : Hid (digT n = [b8 (48 + n % 10)]) := by show _ = _; unfold digT; rw [if_pos (by omega), Nat.mod_eq_of_lt (by omega)]
        go_wp2
        go_ret
        exact ⟨by rw [HE.out]; rfl, HB.out⟩
    · have HE : Hid (digT n = [b8 (48 + n / 10), b8 (48 + n % 10)]) := by show _ = _; unfold digT; rw [if_neg (by omega)]
      have h2 : ¬ (10 : Int) ≤ ((n / 10 : Nat) : Int) := by omega
      go_wp2
      go_ret
      exact ⟨by rw [HE.out]; rfl, HB.out⟩

end Go.Proofs.YtenbnmbbfeekpabGreatDoor

namespace Go.Proofs.YtenbnmbbfeekpabGreatDoor
open Go.RowKit

set_option maxHeartbeats 6400000 in
set_option maxRecDepth 100000 in
theorem ref_Criteria (C : List UInt8) (w : World) (hC : C.length ≤ maxLen) : Calls Tryz.prog 63 #[.string (bs C)] w fun e w' => e = .returned (.bool (critB C)) ∧ w' = w := by
  unfold maxLen at hC
  have hsz : (bs C).size = C.length := bs_size C
  by_cases h2 : C.length < 2
  · have HE : Hid (critB C = false) := by show _ = _; unfold critB; rw [decide_eq_false (by omega)]; rfl
    go_enter Tryz.func63, Tryz.ntmps63
    go_wp2
    go_ret
    exact ⟨ret_bool HE.out.symm, rfl⟩
  · have q2 : decide ((C.length : Int) < 2) = false := by rw [decide_eq_false_iff_not]; omega
    by_cases h8 : 8 < C.length
    · have HE : Hid (critB C = false) := by show _ = _; unfold critB; rw [decide_eq_false (p := C.length ≤ 8) (by omega)]; simp
      have q8 : (8 : Int) < (C.length : Int) := by omega
      clear h2
      go_enter Tryz.func63, Tryz.ntmps63
      go_wp2
      go_ret
      exact ⟨ret_bool HE.out.symm, rfl⟩
    · have q8 : decide ((8 : Int) < (C.length : Int)) = false := by rw [decide_eq_false_iff_not]; omega
      have HL : Hid (2 ≤ C.length ∧ C.length ≤ 8) := ⟨by omega, by omega⟩
      have hl8 : C.length ≤ 8 := by omega
      by_cases hodd : C.length % 2 = 0
      · have HCB : Hid (critB C = crP C) := by show _ = _; unfold critB; rw [decide_eq_true HL.out.1, decide_eq_true HL.out.2, hodd]; rfl
        have q0 : (C.length : Int) % 2 = 0 := by omega
        have HOD : Hid (C.length % 2 = 0) := hodd
        clear h2 h8 hodd
        go_enter Tryz.func63, Tryz.ntmps63
        go_wp2
        clear q2 q8 q0
        go_loop [3] (fun i => ∃ m : Nat, 2 * m ≤ C.length ∧ i = .int .i64 ((2 * m : Nat) : Int) ∧ Hid (critB C = crP (C.drop (2 * m)))) (fun i => C.length - (intOf i).toNat)
        case atStart => exact ⟨0, by omega, rfl, HCB⟩
        case round =>
          obtain ⟨m, hm, rfl, HA⟩ := hrel
          by_cases hlt : 2 * m < C.length
          · have hlt1 : 2 * m + 1 < C.length := by have := HOD.out; omega
            have hi0 : (2 * (m : Int)) < ((bs C).size : Int) := by rw [hsz]; omega
            have hi1 : (2 * (m : Int)) + 1 < ((bs C).size : Int) := by rw [hsz]; omega
            obtain ⟨X, hX⟩ : ∃ X, X = C[2 * m].toNat := ⟨_, rfl⟩
            obtain ⟨Y, hY⟩ : ∃ Y, Y = C[2 * m + 1].toNat := ⟨_, rfl⟩
            have q0 : ∀ h, ((bs C)[2 * m]'h).toNat = X := fun h => by rw [bs_at, hX]
            have q1 : ∀ h, ((bs C)[2 * m + 1]'h).toNat = Y := fun h => by rw [bs_at, hY]
            have HD : Hid (critB C = (crOk X Y && crP (C.drop (2 * (m + 1))))) := by
              show _ = _; rw [HA.out, List.drop_eq_getElem_cons hlt, List.drop_eq_getElem_cons hlt1, hX, hY]; rfl
            clear HA hX hY
            by_cases hx : X = 45
            · have y45 : ((X : Int) != 45) = false := by rw [bne_eq_false_iff_eq]; omega
              by_cases hy114 : Y = 114
              · have HE : Hid (critB C = crP (C.drop (2 * (m + 1)))) := by show _ = _; rw [HD.out]; unfold crOk; simp [hx, hy114]
                have z114 : ((Y : Int) != 114) = false := by rw [bne_eq_false_iff_eq]; omega
                clear hy114 HD hx
                go_wp2
                go_roundw
                case rel => first | exact ⟨m + 1, by omega, by go_num, HE⟩ | ((repeat apply Exists.intro); exact ⟨⟨m + 1, by omega, by go_num, HE⟩, rfl⟩)
                case measure => simp [intOf]; omega
              by_cases hy110 : Y = 110
              · have HE : Hid (critB C = crP (C.drop (2 * (m + 1)))) := by show _ = _; rw [HD.out]; unfold crOk; simp [hx, hy110]
                have z114 : ((Y : Int) != 114) = true := by rw [bne_iff_ne]; omega
                have z110 : ((Y : Int) != 110) = false := by rw [bne_eq_false_iff_eq]; omega
                clear hy114 hy110 HD hx
                go_wp2
                go_roundw
                case rel => first | exact ⟨m + 1, by omega, by go_num, HE⟩ | ((repeat apply Exists.intro); exact ⟨⟨m + 1, by omega, by go_num, HE⟩, rfl⟩)
                case measure => simp [intOf]; omega
              by_cases hy99 : Y = 99
              · have HE : Hid (critB C = crP (C.drop (2 * (m + 1)))) := by show _ = _; rw [HD.out]; unfold crOk; simp [hx, hy99]
                have z114 : ((Y : Int) != 114) = true := by rw [bne_iff_ne]; omega
                have z110 : ((Y : Int) != 110) = true := by rw [bne_iff_ne]; omega
                have z99 : ((Y : Int) != 99) = false := by rw [bne_eq_false_iff_eq]; omega
                clear hy114 hy110 hy99 HD hx
                go_wp2
                go_roundw
                case rel => first | exact ⟨m + 1, by omega, by go_num, HE⟩ | ((repeat apply Exists.intro); exact ⟨⟨m + 1, by omega, by go_num, HE⟩, rfl⟩)
                case measure => simp [intOf]; omega
              by_cases hy117 : Y = 117
              · have HE : Hid (critB C = crP (C.drop (2 * (m + 1)))) := by show _ = _; rw [HD.out]; unfold crOk; simp [hx, hy117]
                have z114 : ((Y : Int) != 114) = true := by rw [bne_iff_ne]; omega
                have z110 : ((Y : Int) != 110) = true := by rw [bne_iff_ne]; omega
                have z99 : ((Y : Int) != 99) = true := by rw [bne_iff_ne]; omega
                have z117 : ((Y : Int) != 117) = false := by rw [bne_eq_false_iff_eq]; omega
                clear hy114 hy110 hy99 hy117 HD hx
                go_wp2
                go_roundw
                case rel => first | exact ⟨m + 1, by omega, by go_num, HE⟩ | ((repeat apply Exists.intro); exact ⟨⟨m + 1, by omega, by go_num, HE⟩, rfl⟩)
                case measure => simp [intOf]; omega
              have HE : Hid (critB C = false) := by show _ = _; rw [HD.out]; unfold crOk; simp [hy114, hy110, hy99, hy117]
              have z114 : ((Y : Int) != 114) = true := by rw [bne_iff_ne]; omega
              have z110 : ((Y : Int) != 110) = true := by rw [bne_iff_ne]; omega
              have z99 : ((Y : Int) != 99) = true := by rw [bne_iff_ne]; omega
              have z117 : ((Y : Int) != 117) = true := by rw [bne_iff_ne]; omega
              clear hy114 hy110 hy99 hy117 HD hx
              go_wp2
              go_ret
              exact ⟨ret_bool HE.out.symm, rfl⟩
            · have y45 : ((X : Int) != 45) = true := by rw [bne_iff_ne]; omega
              have hx0 := hx
              clear hx
              by_cases hx : X = 43
              · have y43 : ((X : Int) != 43) = false := by rw [bne_eq_false_iff_eq]; omega
                clear hx0
                by_cases hy114 : Y = 114
                · have HE : Hid (critB C = crP (C.drop (2 * (m + 1)))) := by show _ = _; rw [HD.out]; unfold crOk; simp [hx, hy114]
                  have z114 : ((Y : Int) != 114) = false := by rw [bne_eq_false_iff_eq]; omega
                  clear hy114 HD hx
                  go_wp2
                  go_roundw
                  case rel => first | exact ⟨m + 1, by omega, by go_num, HE⟩ | ((repeat apply Exists.intro); exact ⟨⟨m + 1, by omega, by go_num, HE⟩, rfl⟩)
                  case measure => simp [intOf]; omega
                by_cases hy110 : Y = 110
                · have HE : Hid (critB C = crP (C.drop (2 * (m + 1)))) := by show _ = _; rw [HD.out]; unfold crOk; simp [hx, hy110]
                  have z114 : ((Y : Int) != 114) = true := by rw [bne_iff_ne]; omega
                  have z110 : ((Y : Int) != 110) = false := by rw [bne_eq_false_iff_eq]; omega
                  clear hy114 hy110 HD hx
                  go_wp2
                  go_roundw
                  case rel => first | exact ⟨m + 1, by omega, by go_num, HE⟩ | ((repeat apply Exists.intro); exact ⟨⟨m + 1, by omega, by go_num, HE⟩, rfl⟩)
                  case measure => simp [intOf]; omega
                by_cases hy99 : Y = 99
                · have HE : Hid (critB C = crP (C.drop (2 * (m + 1)))) := by show _ = _; rw [HD.out]; unfold crOk; simp [hx, hy99]
                  have z114 : ((Y : Int) != 114) = true := by rw [bne_iff_ne]; omega
                  have z110 : ((Y : Int) != 110) = true := by rw [bne_iff_ne]; omega
                  have z99 : ((Y : Int) != 99) = false := by rw [bne_eq_false_iff_eq]; omega
                  clear hy114 hy110 hy99 HD hx
                  go_wp2
                  go_roundw
                  case rel => first | exact ⟨m + 1, by omega, by go_num, HE⟩ | ((repeat apply Exists.intro); exact ⟨⟨m + 1, by omega, by go_num, HE⟩, rfl⟩)
                  case measure => simp [intOf]; omega
                by_cases hy117 : Y = 117
                · have HE : Hid (critB C = crP (C.drop (2 * (m + 1)))) := by show _ = _; rw [HD.out]; unfold crOk; simp [hx, hy117]
                  have z114 : ((Y : Int) != 114) = true := by rw [bne_iff_ne]; omega
                  have z110 : ((Y : Int) != 110) = true := by rw [bne_iff_ne]; omega
                  have z99 : ((Y : Int) != 99) = true := by rw [bne_iff_ne]; omega
                  have z117 : ((Y : Int) != 117) = false := by rw [bne_eq_false_iff_eq]; omega
                  clear hy114 hy110 hy99 hy117 HD hx
                  go_wp2
                  go_roundw
                  case rel => first | exact ⟨m + 1, by omega, by go_num, HE⟩ | ((repeat apply Exists.intro); exact ⟨⟨m + 1, by omega, by go_num, HE⟩, rfl⟩)
                  case measure => simp [intOf]; omega
                have HE : Hid (critB C = false) := by show _ = _; rw [HD.out]; unfold crOk; simp [hy114, hy110, hy99, hy117]
                have z114 : ((Y : Int) != 114) = true := by rw [bne_iff_ne]; omega
                have z110 : ((Y : Int) != 110) = true := by rw [bne_iff_ne]; omega
                have z99 : ((Y : Int) != 99) = true := by rw [bne_iff_ne]; omega
                have z117 : ((Y : Int) != 117) = true := by rw [bne_iff_ne]; omega
                clear hy114 hy110 hy99 hy117 HD hx
                go_wp2
                go_ret
                exact ⟨ret_bool HE.out.symm, rfl⟩
              · have y43 : ((X : Int) != 43) = true := by rw [bne_iff_ne]; omega
                have HE : Hid (critB C = false) := by show _ = _; rw [HD.out]; unfold crOk; simp [hx, hx0]
                clear hx hx0 HD
                go_wp2
                go_ret
                exact ⟨ret_bool HE.out.symm, rfl⟩
          · have HE : Hid (critB C = true) := by show _ = _; rw [HA.out, List.drop_of_length_le (by omega)]; rfl
            clear HA
            go_wp2
            go_ret
            exact ⟨ret_bool HE.out.symm, rfl⟩
      · have HE : Hid (critB C = false) := by show _ = _; unfold critB; simp [hodd]
        have q0 : ¬ (C.length : Int) % 2 = 0 := by omega
        clear h2 h8
        go_enter Tryz.func63, Tryz.ntmps63
        go_wp2
        go_ret
        exact ⟨ret_bool HE.out.symm, rfl⟩

end Go.Proofs.YtenbnmbbfeekpabGreatDoor

namespace Go.Proofs.YtenbnmbbfeekpabGreatDoor
open Go.RowKit

set_option maxHeartbeats 6400000 in
set_option maxRecDepth 100000 in
theorem ref_Score (s : ByteArray) (C P : List UInt8) (w : World) (hs : s.size ≤ maxLen) (hC : C.length ≤ maxLen) (hPl : P.length ≤ maxLen) : Calls Tryz.prog 34 #[.string s, .string (bs C), .string (bs P)] w fun e w' => e = .returned (.tuple #[.string (bs (scT s.data.toList C P)), .int .i64 (scE s.data.toList C P : Nat)]) ∧ Below w.heap.size w w' := by
  by_cases h : rdE s.data.toList = 0
  · have HE : Hid (rdE s.data.toList = 0) := h
    have hz : ((rdE s.data.toList : Int) != 0) = false := by rw [HE.out]; rfl
    have HV1 : Hid (scE s.data.toList C P = (if critB C then (if pickB (dcV s.data.toList).packs P then 0 else 5) else 6)) := by show _ = _; unfold scE; rw [if_pos h]
    have HV2 : Hid (scT s.data.toList C P = if critB C then (if pickB (dcV s.data.toList).packs P then scA (dcV s.data.toList).packs P C (C.length / 2) else []) else []) := by show _ = _; unfold scT; rw [if_pos h]
    obtain ⟨r1, r2, r3, r4, _⟩ := rd_ok h
    have hsm := dc_small r2 (by rw [← r1]; exact r3)
    have hs8 : s.size ≤ 800 := by rw [← sz]; exact r3
    have HOK : Hid (DcOk (dcV s.data.toList)) := r2
    have HR1 : Hid (s.data.toList = dcT (dcV s.data.toList)) := r1
    clear r1 r2 r3 h
    generalize scE s.data.toList C P = E at *
    generalize scT s.data.toList C P = R at *
    generalize hd : dcV s.data.toList = d at *
    have hpl := hsm.packs
    clear hd hsm
    go_enter Tryz.func34, Tryz.ntmps34
    go_wp2_with fail
    refine (ref_Check s _ hs).mono ?_
    rintro e w1 ⟨rfl, hb1⟩
    have HB1 : Hid (Below w.heap.size w w1) := hb1
    clear hb1
    go_wp2_with fail
    refine (ref_Criteria C _ hC).mono ?_
    rintro e w1' ⟨rfl, rfl⟩
    rcases hcr : critB C with _ | _
    · have HE1 : Hid (E = 6 ∧ R = []) := by show _ ∧ _; rw [HV1.out, HV2.out, hcr]; exact ⟨rfl, rfl⟩
      clear HV1 HV2 hcr
      go_wp2
      go_ret2
      exact ⟨by rw [HE1.out.1, HE1.out.2]; rfl, HB1.out⟩
    · have hC8 : 2 ≤ C.length ∧ C.length ≤ 8 ∧ C.length % 2 = 0 := by unfold critB at hcr; simp at hcr; omega
      rw [hcr] at HV1 HV2
      clear hcr
      go_wp2_with fail
      refine (ref_read d HOK.out s HR1.out _ hs8).mono ?_
      rintro e w2 ⟨ap, np, cp, ai, ni, ci, ar, nr, cr, au, nu, cu, rfl, hd, hb2⟩
      have HB2 : Hid (Below w.heap.size w w2) := HB1.out.trans (hb2.mono HB1.out.size)
      have hw2 : w.heap.size ≤ w2.heap.size := HB2.out.size
      have HD : Hid (RDcAt w2 d (.slice ap np cp) (.slice ai ni ci) (.slice ar nr cr) (.slice au nu cu)) := hd
      clear hb2 HB1 HR1 hd
      go_wp2_with fail
      obtain ⟨W, hW⟩ : ∃ W, W = w2.alloc (.cells #[.slice ap np cp, .slice ai ni ci, .slice ar nr cr, .slice au nu cu] 126) := ⟨_, rfl⟩
      have HWB : Hid (Below w2.heap.size w2 W) := by show Below _ _ _; rw [hW]; exact (Below.refl _ _).alloc (Nat.le_refl _) _
      have hWb : W.heap[w2.heap.size]? = some (.cells #[.slice ap np cp, .slice ai ni ci, .slice ar nr cr, .slice au nu cu] 126 (0, 0)) := by rw [hW]; exact blk_new _ _
      rw [← hW]
      clear hW
      have HDW : Hid (RDcAt W d (.slice ap np cp) (.slice ai ni ci) (.slice ar nr cr) (.slice au nu cu)) := HD.out.below HWB.out
      have HBW : Hid (Below w.heap.size w W) := HB2.out.trans (HWB.out.mono hw2)
      have HKW : Hid _ := hWb
      clear hWb HWB HD HB2
      refine (ref_Pick d.packs P ap np cp ai ni ci ar nr cr au nu cu _ HDW.out.1 hpl hPl).mono ?_
      rintro e w3 ⟨rfl, hb3⟩
      have HK3 : Hid (w3.heap[w2.heap.size]? = some (.cells #[.slice ap np cp, .slice ai ni ci, .slice ar nr cr, .slice au nu cu] 126 (0, 0))) := blk_below hb3 HKW.out (ltAt HKW.out)
      have HD3 : Hid (RPksAt w3 (.slice ap np cp) d.packs) := HDW.out.1.below hb3
      have HB3 : Hid (Below w.heap.size w w3) := HBW.out.trans (hb3.mono HBW.out.size)
      have hs3 := HB3.out.size
      clear hb3 HKW HDW HBW
      rcases hp : pickB d.packs P with _ | _
      · have HE1 : Hid (E = 5 ∧ R = []) := by show _ ∧ _; rw [HV1.out, HV2.out, hp]; exact ⟨rfl, rfl⟩
        clear HV1 HV2 hp
        go_wp2
        go_ret2
        exact ⟨by rw [HE1.out.1, HE1.out.2]; rfl, HB3.out⟩
      · have HE1 : Hid (E = 0 ∧ R = scA d.packs P C (C.length / 2)) := by show _ ∧ _; rw [HV1.out, HV2.out, hp]; exact ⟨rfl, rfl⟩
        have HP2 : Hid (P.length ≤ 2000) := pick_len hp hpl
        have HOP : Hid (∀ p ∈ d.packs, PkOk p) := HOK.out.packs
        have HSZ : Hid ((bs C).size = C.length) := bs_size C
        have hcs : (bs C).size ≤ 8 := by rw [HSZ.out]; exact hC8.2.1
        clear HV1 HV2 hp HOK
        generalize d.packs = ps at *
        go_wp2
        go_loopw [12, 13] (fun t i wr => ∃ m J : Nat, Hid (J = 2 * m) ∧ J ≤ C.length ∧ i = .int .i64 J ∧ t = .string (bs (scA ps P C m)) ∧ Below w3.heap.size w3 wr) (fun _ i _ => C.length - (intOf i).toNat)
        case atStart => exact ⟨0, 0, rfl, by omega, rfl, rfl, Below.refl _ _⟩
        case round =>
          obtain ⟨m, J, HJ, hm, rfl, rfl, hb⟩ := hrel
          have hbs := hb.size
          by_cases hlt : J < C.length
          · have hlt1 : J + 1 < C.length := by have := hC8.2.2; have := HJ.out; omega
            have hK := blk_below hb HK3.out (ltAt HK3.out)
            have d0 : wr.cell? ⟨w2.heap.size, 0, none⟩ = some (.slice ap np cp) := by rw [cellAt hK]; rfl
            have d1 : wr.cell? ⟨w2.heap.size, 1, none⟩ = some (.slice ai ni ci) := by rw [cellAt hK]; rfl
            have d2 : wr.cell? ⟨w2.heap.size, 2, none⟩ = some (.slice ar nr cr) := by rw [cellAt hK]; rfl
            have d3 : wr.cell? ⟨w2.heap.size, 3, none⟩ = some (.slice au nu cu) := by rw [cellAt hK]; rfl
            have HB : Hid (Below w3.heap.size w3 wr) := hb
            have HDr : Hid (RPksAt wr (.slice ap np cp) ps) := HD3.out.below hb
            have hi0 : (J : Int) < ((bs C).size : Int) := by rw [HSZ.out]; omega
            obtain ⟨J1, hJ1⟩ : ∃ J1 : Nat, J1 = J + 1 := ⟨_, rfl⟩
            have hj1 : (J : Int) + 1 = (J1 : Int) := by omega
            have hi1 : (J1 : Int) < ((bs C).size : Int) := by rw [HSZ.out]; omega
            have hi2 : J1 < (bs C).size := by rw [HSZ.out]; omega
            have hwr : IntKind.i64.wrap (J1 : Int) = (J1 : Int) := by rw [IntKind.wrap_i64]; omega
            have q1 : ∀ h, ((bs C)[J1]'h).toNat = (C.getD (J + 1) 0).toNat := fun h => by rw [bs_getD, hJ1]
            have hTl : (bs (scA ps P C m)).size ≤ 30 := by rw [bs_size]; have := scA_len ps P C m; have := HJ.out; omega
            have HN : Hid (scA ps P C (m + 1) = (if 0 < m then scA ps P C m ++ [44] else scA ps P C m) ++ digT (numT ps P (C.getD (J + 1) 0).toNat)) := by show _ = _; rw [HJ.out]; rfl
            clear hb hK
            generalize scA ps P C m = T at *
            obtain ⟨K, hK⟩ : ∃ K, K = (C.getD (J + 1) 0).toNat := ⟨_, rfl⟩
            rw [← hK] at HN
            have q2 : ∀ h, ((bs C)[J1]'h).toNat = K := fun h => by rw [q1, hK]
            clear q1 hK hJ1
            by_cases hm0 : m = 0
            · have HE : Hid (scA ps P C (m + 1) = T ++ digT (numT ps P K)) := by show _ = _; rw [HN.out, if_neg (by omega)]
              have hmz : ¬ (0 : Int) < (J : Int) := by have := HJ.out; omega
              clear HN hm0
              go_wp2_with fail
              go_region_held3 (fun w' => w'.cell? ⟨w2.heap.size, 0, none⟩ = some (.slice ap np cp) ∧ w'.cell? ⟨w2.heap.size, 1, none⟩ = some (.slice ai ni ci) ∧ w'.cell? ⟨w2.heap.size, 2, none⟩ = some (.slice ar nr cr) ∧ w'.cell? ⟨w2.heap.size, 3, none⟩ = some (.slice au nu cu)) (first | exact ⟨d0, d1, d2, d3⟩ | exact ⟨dcell (by assumption) d0, dcell (by assumption) d1, dcell (by assumption) d2, dcell (by assumption) d3⟩)
                (first | (go_at_call 64; refine (ref_number ps P K ap np cp ai ni ci ar nr cr au nu cu _ (by exact HDr.out) HOP.out hpl (le_max HP2.out)).mono ?_; rintro e w4 ⟨rfl, hb4⟩; have HB4 : Hid (Below w3.heap.size w3 w4) := HB.out.trans ((below_drew hb4).mono hbs)))
              have hs4 := HB4.out.size
              have hD2 := digT_len (numT ps P K)
              have hNl : numT ps P K < 100 := by have := numA_le ps P K 26; unfold numT; omega
              generalize numT ps P K = M at *
              clear hb4 d0 d1 d2 d3
              go_wp2_with fail
              refine (ref_digits M hNl _).mono ?_
              rintro e w5 ⟨rfl, hb5⟩
              have HB5 : Hid (Below w3.heap.size w3 w5) := HB4.out.trans (hb5.mono hs4)
              have hD3 : (bs (digT M)).size ≤ 2 := by rw [bs_size]; exact hD2
              clear hb5 HB4
              go_wp2
              go_roundw
              case rel => first | exact ⟨m + 1, J + 2, by show _ = _; rw [HJ.out]; omega, by omega, by go_num, by rw [HE.out]; rw [bs_app], HB5.out⟩ | ((repeat apply Exists.intro); exact ⟨⟨m + 1, J + 2, by show _ = _; rw [HJ.out]; omega, by omega, by go_num, by rw [HE.out]; rw [bs_app], HB5.out⟩, rfl⟩)
              case measure => simp [intOf]; omega
            · have HE : Hid (scA ps P C (m + 1) = T ++ [44] ++ digT (numT ps P K)) := by show _ = _; rw [HN.out, if_pos (by omega)]
              have hmz : (0 : Int) < (J : Int) := by have := HJ.out; omega
              clear HN hm0
              go_wp2_with fail
              go_region_held3 (fun w' => w'.cell? ⟨w2.heap.size, 0, none⟩ = some (.slice ap np cp) ∧ w'.cell? ⟨w2.heap.size, 1, none⟩ = some (.slice ai ni ci) ∧ w'.cell? ⟨w2.heap.size, 2, none⟩ = some (.slice ar nr cr) ∧ w'.cell? ⟨w2.heap.size, 3, none⟩ = some (.slice au nu cu)) (first | exact ⟨d0, d1, d2, d3⟩ | exact ⟨dcell (by assumption) d0, dcell (by assumption) d1, dcell (by assumption) d2, dcell (by assumption) d3⟩)
                (first | (go_at_call 64; refine (ref_number ps P K ap np cp ai ni ci ar nr cr au nu cu _ (by exact HDr.out) HOP.out hpl (le_max HP2.out)).mono ?_; rintro e w4 ⟨rfl, hb4⟩; have HB4 : Hid (Below w3.heap.size w3 w4) := HB.out.trans ((below_drew hb4).mono hbs)))
              have hs4 := HB4.out.size
              have hD2 := digT_len (numT ps P K)
              have hNl : numT ps P K < 100 := by have := numA_le ps P K 26; unfold numT; omega
              generalize numT ps P K = M at *
              clear hb4 d0 d1 d2 d3
              go_wp2_with fail
              refine (ref_digits M hNl _).mono ?_
              rintro e w5 ⟨rfl, hb5⟩
              have HB5 : Hid (Below w3.heap.size w3 w5) := HB4.out.trans (hb5.mono hs4)
              have hD3 : (bs (digT M)).size ≤ 2 := by rw [bs_size]; exact hD2
              clear hb5 HB4
              go_wp2
              go_roundw
              case rel => first | exact ⟨m + 1, J + 2, by show _ = _; rw [HJ.out]; omega, by omega, by go_num, by rw [HE.out]; rw [← bs_app, ← bs_app]; rfl, HB5.out⟩ | ((repeat apply Exists.intro); exact ⟨⟨m + 1, J + 2, by show _ = _; rw [HJ.out]; omega, by omega, by go_num, by rw [HE.out]; rw [← bs_app, ← bs_app]; rfl, HB5.out⟩, rfl⟩)
              case measure => simp [intOf]; omega
          · have hml : m = C.length / 2 := by have := hC8.2.2; have := HJ.out; omega
            have HE2 : Hid (R = scA ps P C m) := by show _ = _; rw [hml]; exact HE1.out.2
            have HBw : Hid (Below w.heap.size w wr) := HB3.out.trans (hb.mono hs3)
            have hi0 : ¬ (J : Int) < ((bs C).size : Int) := by rw [HSZ.out]; omega
            clear hb hml
            go_wp2
            go_ret2
            exact ⟨by rw [HE1.out.1, HE2.out]; rfl, HBw.out⟩
  · have HT : Hid (scE s.data.toList C P = rdE s.data.toList ∧ scT s.data.toList C P = []) := by show _ ∧ _; unfold scE scT; rw [if_neg h, if_neg h]; exact ⟨rfl, rfl⟩
    have hz : ((rdE s.data.toList : Int) != 0) = true := by rw [bne_iff_ne]; omega
    go_enter Tryz.func34, Tryz.ntmps34
    go_wp2_with fail
    refine (ref_Check s _ hs).mono ?_
    rintro e w1 ⟨rfl, hb1⟩
    go_wp2
    go_ret2
    exact ⟨by rw [HT.out.1, HT.out.2]; rfl, hb1⟩

end Go.Proofs.YtenbnmbbfeekpabGreatDoor
