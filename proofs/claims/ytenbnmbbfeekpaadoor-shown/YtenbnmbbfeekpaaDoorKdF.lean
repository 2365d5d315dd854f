import Derived.Test.YtenbnmbbfeekpaaDoorXF
import Derived.Test.YtenbnmbbfeekpaaDoorRdL
import Derived.Test.YtenbnmbbfeekpaaDoorKdW
import Derived.Test.YtenbnmbbfeekpaaDoorUsP
namespace Go.Proofs.YtenbnmbbfeekpaaDoor
open Go.RowKit

theorem sh_len {t : List UInt8} : (shT t).length ≤ 800 := by
  by_cases h : rdE t = 0
  · obtain ⟨s1, _, _⟩ := shown_ok h
    exact (rd_ok s1).2.2.1
  · unfold shT; rw [if_neg h]; simp

theorem rdP_zero {t : List UInt8} (h : rdE t = 0) : rdP t = 0 := by
  unfold rdE at h
  unfold rdP
  split at h
  · cases h
  · rename_i h1
    rw [if_neg h1]
    split at h
    · cases h
    · rename_i h2
      rw [if_neg h2]
      split at h
      · cases h
      · rename_i h3
        rw [if_neg h3]
        split at h
        · cases h
        · rename_i h4
          rw [if_neg h4]

set_option maxHeartbeats 6400000 in
set_option maxRecDepth 100000 in
theorem keep_Shown {T : List UInt8 → List UInt8 → List UInt8} {E : List UInt8 → List UInt8 → Nat} (hp : ChooseP T E) (hc : ChooseC T E) (t O : List UInt8) (w : World) (ht : t.length ≤ maxLen) (hO : O.length ≤ maxLen) : Calls Tryd.prog 4 #[.string (bs t), .string (bs O)] w fun e w' => e = .returned (.bool true) ∧ Below w.heap.size w w' := by
  have HCC : Hid (ChooseC T E) := hc
  have HCP : Hid (ChooseP T E) := hp
  have Ht : Hid (t.length ≤ maxLen) := ht
  have Hts : Hid ((bs t).size ≤ maxLen) := by show _ ≤ _; rw [bs_size]; exact ht
  have HOs : Hid ((bs O).size ≤ maxLen) := by show _ ≤ _; rw [bs_size]; exact hO
  have HOi : Hid ((O.length : Int) ≤ maxLen) := by show _ ≤ _; exact_mod_cast hO
  have hul := sh_len (t := t)
  have HU : Hid ((shT t).length ≤ maxLen) := by show _ ≤ _; unfold maxLen; omega
  have HUs : Hid ((bs (shT t)).size ≤ maxLen) := by show _ ≤ _; rw [bs_size]; unfold maxLen; omega
  have HWC : Hid ((wholeC.length : Int) ≤ maxLen) := by show _ ≤ _; unfold maxLen; decide
  have HWN : Hid (wholeC.length ≤ maxLen) := by show _ ≤ _; unfold maxLen; decide
  have hl1 := hp.len t wholeC
  have hl2 := hp.len (shT t) wholeC
  have HT1 : Hid (((T t wholeC).length : Int) ≤ maxLen) := by show _ ≤ _; unfold maxLen; omega
  have HT2 : Hid (((T (shT t) wholeC).length : Int) ≤ maxLen) := by show _ ≤ _; unfold maxLen; omega
  clear hl1 hl2 hul
  by_cases h0 : rdE t = 0
  · obtain ⟨s1, s2, _⟩ := shown_ok h0
    have s3 := shown_twice h0
    obtain ⟨v1, v2, v3, v4⟩ := shown_same h0 wholeC O
    obtain ⟨k1, k2⟩ := hp.shown h0
    have s4 : rdP t = 0 := rdP_zero h0
    have H0 : Hid (rdE t = 0) := h0
    have H1 : Hid (rdE (shT t) = 0) := s1
    have H2 : Hid (rdP (shT t) = 0) := s2
    have H3 : Hid (shT (shT t) = shT t) := s3
    have H4 : Hid (rdP t = 0) := s4
    have V1 : Hid (uvE (shT t) O = uvE t O) := v1
    have V2 : Hid (uvR (shT t) O = uvR t O) := v2
    have V3 : Hid (usE (shT t) wholeC O = usE t wholeC O) := v3
    have V4 : Hid (usT (shT t) wholeC O = usT t wholeC O) := v4
    have K1 : Hid (E (shT t) wholeC = E t wholeC) := k1
    have K2 : Hid (usT t wholeC (T (shT t) wholeC) = usT t wholeC (T t wholeC)) := k2
    clear s1 s2 s3 s4 v1 v2 v3 v4 k1 k2 h0 hp hc ht hO
    go_enter Tryd.func4, Tryd.ntmps4
    go_wp2_with fail
    refine (keep_works HCP.out HCC.out _).mono ?_
    rintro e w0 ⟨rfl, hb0⟩
    have HB0 : Hid (Below w.heap.size w w0) := hb0
    clear hb0
    go_wp2_with fail
    refine (up_Show (bs t) _ Hts.out).mono ?_
    rintro e w1 ⟨rfl, hb1⟩
    rw [bs_list, H0.out]
    have HB1 : Hid (Below w.heap.size w w1) := HB0.out.trans (hb1.mono HB0.out.size)
    clear hb1
    go_wp2_with fail
    refine (up_Check (bs t) _ Hts.out).mono ?_
    rintro e w2 ⟨rfl, hb2⟩
    rw [bs_list, H0.out, H4.out]
    have HB2 : Hid (Below w.heap.size w w2) := HB1.out.trans (hb2.mono HB1.out.size)
    clear hb2
    go_wp2_with fail
    refine (up_Check (bs (shT t)) _ HUs.out).mono ?_
    rintro e w3 ⟨rfl, hb3⟩
    rw [bs_list, H1.out, H2.out]
    have HB3 : Hid (Below w.heap.size w w3) := HB2.out.trans (hb3.mono HB2.out.size)
    clear hb3
    go_wp2_with fail
    refine (up_Show (bs (shT t)) _ HUs.out).mono ?_
    rintro e w4 ⟨rfl, hb4⟩
    rw [bs_list, H1.out, H3.out]
    have HB4 : Hid (Below w.heap.size w w4) := HB3.out.trans (hb4.mono HB3.out.size)
    clear hb4
    go_wp2_with fail
    refine (up_Valid (bs t) (bs O) _ Hts.out HOs.out).mono ?_
    rintro e w5 ⟨rfl, hb5⟩
    rw [bs_list, bs_list]
    have HB5 : Hid (Below w.heap.size w w5) := HB4.out.trans (hb5.mono HB4.out.size)
    clear hb5
    go_wp2_with fail
    refine (up_Valid (bs (shT t)) (bs O) _ HUs.out HOs.out).mono ?_
    rintro e w6 ⟨rfl, hb6⟩
    rw [bs_list, bs_list, V1.out, V2.out]
    have HB6 : Hid (Below w.heap.size w w6) := HB5.out.trans (hb6.mono HB5.out.size)
    clear hb6
    go_wp2_with fail
    refine (up_Score (bs t) wholeC O _ Hts.out HWC.out HOi.out).mono ?_
    rintro e w7 ⟨rfl, hb7⟩
    rw [bs_list]
    have HB7 : Hid (Below w.heap.size w w7) := HB6.out.trans (hb7.mono HB6.out.size)
    clear hb7
    go_wp2_with fail
    refine (up_Score (bs (shT t)) wholeC O _ HUs.out HWC.out HOi.out).mono ?_
    rintro e w8 ⟨rfl, hb8⟩
    rw [bs_list, V3.out, V4.out]
    have HB8 : Hid (Below w.heap.size w w8) := HB7.out.trans (hb8.mono HB7.out.size)
    clear hb8
    generalize usT t wholeC O = s1
    generalize usE t wholeC O = e1
    generalize uvE t O = e2
    generalize uvR t O = r2
    go_wp2_with fail
    refine (HCC.out t wholeC _ Ht.out HWN.out).mono ?_
    rintro e w9 ⟨rfl, hb9⟩
    have HB9 : Hid (Below w.heap.size w w9) := HB8.out.trans (hb9.mono HB8.out.size)
    clear hb9
    go_wp2_with fail
    refine (HCC.out (shT t) wholeC _ HU.out HWN.out).mono ?_
    rintro e w10 ⟨rfl, hb10⟩
    rw [K1.out]
    have HB10 : Hid (Below w.heap.size w w10) := HB9.out.trans (hb10.mono HB9.out.size)
    clear hb10
    go_wp2_with fail
    refine (up_Score (bs t) wholeC (T t wholeC) _ Hts.out HWC.out HT1.out).mono ?_
    rintro e w11 ⟨rfl, hb11⟩
    rw [bs_list]
    have HB11 : Hid (Below w.heap.size w w11) := HB10.out.trans (hb11.mono HB10.out.size)
    clear hb11
    go_wp2_with fail
    refine (up_Score (bs t) wholeC (T (shT t) wholeC) _ Hts.out HWC.out HT2.out).mono ?_
    rintro e w12 ⟨rfl, hb12⟩
    rw [bs_list, K2.out]
    have HB12 : Hid (Below w.heap.size w w12) := HB11.out.trans (hb12.mono HB11.out.size)
    clear hb12
    go_wp2
    go_ret
    exact ⟨by simp, HB12.out⟩
  · have h1 : shT t = [] := by unfold shT; rw [if_neg h0]
    have H1 : Hid (shT t = []) := h1
    have e0 : ((rdE t : Int) != 0) = true := by rw [bne_iff_ne]; omega
    have n1 : (((bs []).toList == []) : Bool) = true := by rw [tl]; rfl
    have n2 : (bs []).toList.isEmpty = true := by rw [tl]; rfl
    clear hp hc ht hO h0 h1
    generalize hRR : rdE t = R at *
    have HRR : Hid (rdE t = R) := hRR
    clear hRR
    go_enter Tryd.func4, Tryd.ntmps4
    go_wp2_with fail
    refine (keep_works HCP.out HCC.out _).mono ?_
    rintro e w0 ⟨rfl, hb0⟩
    have HB0 : Hid (Below w.heap.size w w0) := hb0
    clear hb0
    go_wp2_with fail
    refine (up_Show (bs t) _ Hts.out).mono ?_
    rintro e w1 ⟨rfl, hb1⟩
    rw [bs_list, HRR.out, H1.out]
    have HB1 : Hid (Below w.heap.size w w1) := HB0.out.trans (hb1.mono HB0.out.size)
    clear hb1
    go_wp2_with fail
    refine (up_Check (bs t) _ Hts.out).mono ?_
    rintro e w2 ⟨rfl, hb2⟩
    rw [bs_list, HRR.out]
    have HB2 : Hid (Below w.heap.size w w2) := HB1.out.trans (hb2.mono HB1.out.size)
    clear hb2
    generalize rdP t = PP
    go_wp2
    go_ret
    exact ⟨by simp, HB2.out⟩

end Go.Proofs.YtenbnmbbfeekpaaDoor
