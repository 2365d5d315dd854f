import Derived.Test.YtenbnmbbfeekpaaDoorXNd
import Derived.Test.YtenbnmbbfeekpaaDoorXNf
import Derived.Test.YtenbnmbbfeekpaaDoorXT
namespace Go.Proofs.YtenbnmbbfeekpaaDoor
open Go.RowKit

theorem an_lt {d : Dc} (hl : d.packs.length ≤ 20) (cs : List Cr) (h : (anM d cs).f = true) : (anM d cs).p < 2 ^ 20 := by
  obtain ⟨_, _, hb⟩ := (an_ok hl cs).1 h
  refine Nat.lt_pow_two_of_testBit _ fun i hi => ?_
  cases e : (anM d cs).p.testBit i with
  | false => rfl
  | true =>
    have := hb i e
    rw [show (ruM d).packs.length = d.packs.length from rp_len d.packs] at this
    omega

set_option maxHeartbeats 6400000 in
set_option maxRecDepth 100000 in
theorem up_Choose1 (s : ByteArray) (C : List UInt8) (w : World) (hs : s.size ≤ maxLen) (hCm : (C.length : Int) ≤ maxLen) : Calls Tryd.prog 8 #[.string s, .string (bs C)] w fun e w' => e = .returned (.tuple #[.string (bs (chT s.data.toList C)), .int .i64 (chE s.data.toList C : Nat)]) ∧ Below w.heap.size w w' := by
  by_cases h : rdE s.data.toList = 0
  · obtain ⟨r1, r2, r3, r4, _⟩ := rd_ok h
    have HSM : Hid (DcSm (dcV s.data.toList)) := dc_small r2 (by rw [← r1]; exact r3)
    have HL20 : Hid ((dcV s.data.toList).packs.length ≤ 20) := r4
    have HTE : Hid (chE s.data.toList C = match crK C with | some cs => if (anM (dcV s.data.toList) cs).f then 0 else 7 | none => 6) := by show _ = _; unfold chE; exact if_pos h
    have HTR : Hid (chT s.data.toList C = match crK C with | some cs => if (anM (dcV s.data.toList) cs).f then txN (dcV s.data.toList).packs (anM (dcV s.data.toList) cs).p 26 else [] | none => []) := by show _ = _; unfold chT; exact if_pos h
    have HE : Hid (rdE s.data.toList = 0) := h
    clear r1 r2 r3 r4 h
    go_enter Tryd.func8, Tryd.ntmps8
    go_wp2_with fail
    refine (doc_Read s _ hs).mono ?_
    rintro e w1 ⟨ap, np, cp, ai, ni, ci, ar, nr, cr, au, nu, cu, rfl, hb, hd⟩
    have HD : Hid (∀ w', Below w1.heap.size w1 w' → DcV w' (dcV s.data.toList) ap np cp ai ni ci ar nr cr au nu cu) := fun w' hb => ((hd HE.out).views HSM.out).below hb
    have hnp := ((hd HE.out).views HSM.out).len
    have HB : Hid (Below w.heap.size w w1) := hb
    have hws := hb.size
    have hz : ((rdE s.data.toList : Int) != 0) = false := by rw [HE.out]; rfl
    clear hd hb
    generalize dcV s.data.toList = D at *
    subst hnp
    have HBa : Hid (Below w1.heap.size w1 (w1.alloc (.cells #[.slice ap D.packs.length cp, .slice ai ni ci, .slice ar nr cr, .slice au nu cu, .int .i64 (rdE s.data.toList), .int .i64 (rdP s.data.toList)] 42))) := (Below.refl _ _).alloc (Nat.le_refl _) _
    have HRa : Hid ((w1.alloc (.cells #[.slice ap D.packs.length cp, .slice ai ni ci, .slice ar nr cr, .slice au nu cu, .int .i64 (rdE s.data.toList), .int .i64 (rdP s.data.toList)] 42)).heap[w1.heap.size]? = some (.cells #[.slice ap D.packs.length cp, .slice ai ni ci, .slice ar nr cr, .slice au nu cu, .int .i64 (rdE s.data.toList), .int .i64 (rdP s.data.toList)] 42 (0, 0))) := blk_new _ _
    go_wp2_with fail
    refine (sc_Read C _ hCm).mono ?_
    rintro e w2 ⟨al, nl, cl, rfl, hb2, hq2⟩
    have HB2 : Hid (Below w1.heap.size w1 w2) := HBa.out.trans (hb2.mono HBa.out.size)
    have HR2 : Hid (w2.heap[w1.heap.size]? = some (.cells #[.slice ap D.packs.length cp, .slice ai ni ci, .slice ar nr cr, .slice au nu cu, .int .i64 (rdE s.data.toList), .int .i64 (rdP s.data.toList)] 42 (0, 0))) := blk_below hb2 HRa.out (ltAt HRa.out)
    have cR20 : w2.cell? ⟨w1.heap.size, 0, none⟩ = some (.slice ap D.packs.length cp) := (cellAt HR2.out 0).trans rfl
    have cR21 : w2.cell? ⟨w1.heap.size, 1, none⟩ = some (.slice ai ni ci) := (cellAt HR2.out 1).trans rfl
    have cR22 : w2.cell? ⟨w1.heap.size, 2, none⟩ = some (.slice ar nr cr) := (cellAt HR2.out 2).trans rfl
    have cR23 : w2.cell? ⟨w1.heap.size, 3, none⟩ = some (.slice au nu cu) := (cellAt HR2.out 3).trans rfl
    have cR24 : w2.cell? ⟨w1.heap.size, 4, none⟩ = some (.int .i64 (rdE s.data.toList)) := (cellAt HR2.out 4).trans rfl
    have cR25 : w2.cell? ⟨w1.heap.size, 5, none⟩ = some (.int .i64 (rdP s.data.toList)) := (cellAt HR2.out 5).trans rfl
    have lR2 := ltAt HR2.out
    have HQ2 : Hid (∀ L, crK C = some L → CrV w2 (.slice al nl cl) L) := hq2
    clear hb2 hq2
    rcases hcr : crK C with _ | ls
    · have hce : ckE C = 6 := ck_bad hcr
      have HF : Hid (chT s.data.toList C = []) := by show _ = _; rw [HTR.out, hcr]
      have HF2 : Hid (chE s.data.toList C = 6) := by show _ = _; rw [HTE.out, hcr]
      rw [hce]
      clear hcr hce HQ2 HTE HTR
      go_wp2_with fail
      go_quiet (fail)
      go_wp2
      go_ret2
      exact ⟨by rw [HF.out, HF2.out]; rfl, ((HB.out.trans (HB2.out.mono hws)).alloc (by have := HB.out.size; have := HB2.out.size; omega) _).trans ⟨rfl, rfl, rfl, Nat.le_refl _, fun _ _ => rfl⟩⟩
    · have hce : ckE C = 0 := by unfold ckE; rw [hcr]; rfl
      have hls : ls.length ≤ 4 := crK_len hcr
      have HBV : Hid (∀ w5, Below w2.heap.size w2 w5 → CrV w5 (.slice al nl cl) ls) := fun w5 hb => (HQ2.out ls hcr).below hb
      have HTE2 : Hid (chE s.data.toList C = if (anM D ls).f then 0 else 7) := by show _ = _; rw [HTE.out, hcr]
      have HTR2 : Hid (chT s.data.toList C = if (anM D ls).f then txN D.packs (anM D ls).p 26 else []) := by show _ = _; rw [HTR.out, hcr]
      have HLT : Hid ((anM D ls).f = true → (anM D ls).p < 2 ^ 20) := an_lt HL20.out ls
      rw [hce]
      clear hcr hce HQ2 HTE HTR
      have HBb : Hid (Below w2.heap.size w2 (w2.alloc (.cells #[.slice al nl cl, .int .i64 0] 46))) := (Below.refl _ _).alloc (Nat.le_refl _) _
      have HB1b : Hid (Below w1.heap.size w1 (w2.alloc (.cells #[.slice al nl cl, .int .i64 0] 46))) := HB2.out.alloc HB2.out.size _
      have HRb : Hid ((w2.alloc (.cells #[.slice al nl cl, .int .i64 0] 46)).heap[w1.heap.size]? = some (.cells #[.slice ap D.packs.length cp, .slice ai ni ci, .slice ar nr cr, .slice au nu cu, .int .i64 (rdE s.data.toList), .int .i64 (rdP s.data.toList)] 42 (0, 0))) := blk_old HR2.out _
      go_wp2_with fail
      refine (ch_Best D ls ap D.packs.length cp ai ni ci ar nr cr au nu cu al nl cl _ (HD.out _ HB1b.out) HSM.out (HBV.out _ HBb.out) hls).mono ?_
      rintro e w3 ⟨rfl, hb3⟩
      have HB3 : Hid (Below w1.heap.size w1 w3) := HB1b.out.trans (hb3.mono HB1b.out.size)
      have HR3 : Hid (w3.heap[w1.heap.size]? = some (.cells #[.slice ap D.packs.length cp, .slice ai ni ci, .slice ar nr cr, .slice au nu cu, .int .i64 (rdE s.data.toList), .int .i64 (rdP s.data.toList)] 42 (0, 0))) := blk_below hb3 HRb.out (ltAt HRb.out)
      have cR30 : w3.cell? ⟨w1.heap.size, 0, none⟩ = some (.slice ap D.packs.length cp) := (cellAt HR3.out 0).trans rfl
      have cR31 : w3.cell? ⟨w1.heap.size, 1, none⟩ = some (.slice ai ni ci) := (cellAt HR3.out 1).trans rfl
      have cR32 : w3.cell? ⟨w1.heap.size, 2, none⟩ = some (.slice ar nr cr) := (cellAt HR3.out 2).trans rfl
      have cR33 : w3.cell? ⟨w1.heap.size, 3, none⟩ = some (.slice au nu cu) := (cellAt HR3.out 3).trans rfl
      have cR34 : w3.cell? ⟨w1.heap.size, 4, none⟩ = some (.int .i64 (rdE s.data.toList)) := (cellAt HR3.out 4).trans rfl
      have cR35 : w3.cell? ⟨w1.heap.size, 5, none⟩ = some (.int .i64 (rdP s.data.toList)) := (cellAt HR3.out 5).trans rfl
      have lR3 := ltAt HR3.out
      clear hb3 cR20 cR21 cR22 cR23 cR24 cR25
      generalize anM D ls = r at *
      obtain ⟨rf, rp, rc⟩ := r
      simp only at HTE2 HTR2 HLT
      simp only
      cases rf with
      | false =>
        have HF : Hid (chT s.data.toList C = []) := HTR2.out
        have HF2 : Hid (chE s.data.toList C = 7) := HTE2.out
        clear HTE2 HTR2
        go_wp2
        go_ret2
        exact ⟨by rw [HF.out, HF2.out]; rfl, (HB.out.trans (HB3.out.mono hws)).alloc (by have := HB.out.size; have := HB3.out.size; omega) _⟩
      | true =>
        have HF : Hid (chT s.data.toList C = txN D.packs rp 26) := HTR2.out
        have HF2 : Hid (chE s.data.toList C = 0) := HTE2.out
        have hrp : rp < 2 ^ 20 := HLT.out rfl
        clear HTE2 HTR2
        have HBc : Hid (Below w1.heap.size w1 (w3.alloc (.cells #[.bool true, .int .u32 rp, .int .i64 rc] 51))) := HB3.out.alloc HB3.out.size _
        go_wp2_with fail
        refine (pk_Text ap cp D.packs rp hrp _ (HD.out _ HBc.out).packs).mono ?_
        rintro e w4 ⟨rfl, hb4⟩
        have HB4 : Hid (Below w.heap.size w w4) := HB.out.trans ((HBc.out.trans (hb4.mono HBc.out.size)).mono hws)
        clear hb4
        go_wp2
        go_ret2
        exact ⟨by rw [HF.out, HF2.out]; rfl, HB4.out⟩
  · have HT : Hid (chT s.data.toList C = []) := by show _ = _; unfold chT; rw [if_neg h]
    have HT2 : Hid (chE s.data.toList C = rdE s.data.toList) := by show _ = _; unfold chE; rw [if_neg h]
    have hz : ((rdE s.data.toList : Int) != 0) = true := by rw [bne_iff_ne]; omega
    go_enter Tryd.func8, Tryd.ntmps8
    go_wp2_with fail
    refine (doc_Read s _ hs).mono ?_
    rintro e w1 ⟨ap, np, cp, ai, ni, ci, ar, nr, cr, au, nu, cu, rfl, hb, hd⟩
    have HB : Hid (Below w.heap.size w w1) := hb
    clear hd hb
    go_wp2_with fail
    go_quiet (fail)
    go_wp2
    go_ret2
    exact ⟨by rw [HT.out, HT2.out]; rfl, (HB.out.alloc HB.out.size _).trans ⟨rfl, rfl, rfl, Nat.le_refl _, fun _ _ => rfl⟩⟩

/-- Choose, called. -/
theorem up_Choose : ChooseC chT chE := by
  intro t C w ht hC
  have := up_Choose1 (bs t) C w (by rw [bs_size]; exact_mod_cast ht) (by exact_mod_cast hC)
  rwa [bs_list] at this

end Go.Proofs.YtenbnmbbfeekpaaDoor
