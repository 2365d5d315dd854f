import Derived.Test.YtenbnmbbfeekpaaDoorKdW
namespace Go.Proofs.YtenbnmbbfeekpaaDoor
open Go.RowKit

set_option maxHeartbeats 3200000 in
set_option maxRecDepth 100000 in
theorem keep_Calm {T : List UInt8 → List UInt8 → List UInt8} {E : List UInt8 → List UInt8 → Nat} (hp : ChooseP T E) (hc : ChooseC T E) (t O : List UInt8) (w : World) (ht : t.length ≤ maxLen) (hO : O.length ≤ maxLen) : Calls Tryd.prog 6 #[.string (bs t), .string (bs O)] w fun e w' => e = .returned (.bool true) ∧ Below w.heap.size w w' := by
  have HCC : Hid (ChooseC T E) := hc
  have HCP : Hid (ChooseP T E) := hp
  have Ht : Hid (t.length ≤ maxLen) := ht
  have HO : Hid (O.length ≤ maxLen) := hO
  have Hts : Hid ((bs t).size ≤ maxLen) := by show _ ≤ _; rw [bs_size]; exact ht
  have HOs : Hid ((bs O).size ≤ maxLen) := by show _ ≤ _; rw [bs_size]; exact hO
  have HOi : Hid ((O.length : Int) ≤ maxLen) := by show _ ≤ _; exact_mod_cast hO
  have HES : Hid (E t [43, 110, 45, 117] = E t [45, 99]) := hp.err_same (by decide +kernel) (by decide +kernel)
  have HN1 : Hid (E t [45, 99] ≠ 0 → T t [45, 99] = []) := fun h => hp.none h
  have HN2 : Hid (E t [45, 99] ≠ 0 → T t [43, 110, 45, 117] = []) := fun h => hp.none (by rw [HES.out]; exact h)
  have HCA : Hid (uvE t O = 0 → uvR t O = 0 → usE t [45, 99] O = 0 → usT t [45, 99] O = [48] → E t [45, 99] = 0 ∧ T t [45, 99] = O) := hp.calm
  have hle := hp.le t [45, 99]
  clear ht hO hp hc
  go_enter Tryd.func6, Tryd.ntmps6
  go_wp2_with fail
  refine (keep_works HCP.out HCC.out _).mono ?_
  rintro e w0 ⟨rfl, hb0⟩
  have HB0 : Hid (Below w.heap.size w w0) := hb0
  clear hb0
  go_wp2_with fail
  refine (up_Valid (bs t) (bs O) _ Hts.out HOs.out).mono ?_
  rintro e w1 ⟨rfl, hb1⟩
  rw [bs_list, bs_list]
  have HB1 : Hid (Below w.heap.size w w1) := HB0.out.trans (hb1.mono HB0.out.size)
  clear hb1
  go_wp2_with fail
  refine (up_Score (bs t) [45, 99] O _ Hts.out (by unfold maxLen; decide) HOi.out).mono ?_
  rintro e w2 ⟨rfl, hb2⟩
  rw [bs_list]
  have HB2 : Hid (Below w.heap.size w w2) := HB1.out.trans (hb2.mono HB1.out.size)
  clear hb2
  go_wp2_with fail
  refine (HCC.out t [45, 99] _ Ht.out (by unfold maxLen; decide)).mono ?_
  rintro e w3 ⟨rfl, hb3⟩
  have HB3 : Hid (Below w.heap.size w w3) := HB2.out.trans (hb3.mono HB2.out.size)
  clear hb3
  go_wp2_with fail
  refine (HCC.out t [43, 110, 45, 117] _ Ht.out (by unfold maxLen; decide)).mono ?_
  rintro e w4 ⟨rfl, hb4⟩
  rw [HES.out]
  have HB4 : Hid (Below w.heap.size w w4) := HB3.out.trans (hb4.mono HB3.out.size)
  clear hb4
  go_wp2_with fail
  refine (HCC.out t [45, 99] _ Ht.out (by unfold maxLen; decide)).mono ?_
  rintro e w5 ⟨rfl, hb5⟩
  have HB5 : Hid (Below w.heap.size w w5) := HB4.out.trans (hb5.mono HB4.out.size)
  clear hb5
  obtain ⟨T1, HT1⟩ : ∃ x, Hid (T t [45, 99] = x) := ⟨_, rfl⟩
  obtain ⟨T2, HT2⟩ : ∃ x, Hid (T t [43, 110, 45, 117] = x) := ⟨_, rfl⟩
  obtain ⟨G, HGE⟩ : ∃ x, Hid (E t [45, 99] = x) := ⟨_, rfl⟩
  obtain ⟨e1, He1⟩ : ∃ x, Hid (uvE t O = x) := ⟨_, rfl⟩
  obtain ⟨r1, Hr1⟩ : ∃ x, Hid (uvR t O = x) := ⟨_, rfl⟩
  obtain ⟨f1, Hf1⟩ : ∃ x, Hid (usE t [45, 99] O = x) := ⟨_, rfl⟩
  obtain ⟨s1, Hs1⟩ : ∃ x, Hid (usT t [45, 99] O = x) := ⟨_, rfl⟩
  rw [HT1.out, HT2.out, HGE.out, He1.out, Hr1.out, Hf1.out, Hs1.out]
  have hle' : G ≤ 7 := by rw [← HGE.out]; exact hle
  have z1 : ((bs T1).toList != (bs T1).toList) = false := by simp
  have z2 : ((G : Int) != (G : Int)) = false := by simp
  have HQ : Hid (G ≠ 0 → T1 = [] ∧ T2 = []) := fun h => by
    rw [← HT1.out, ← HT2.out]
    rw [← HGE.out] at h
    exact ⟨HN1.out h, HN2.out h⟩
  have HQ2 : Hid (e1 = 0 → r1 = 0 → f1 = 0 → s1 = [48] → G = 0 ∧ T1 = O) := fun a b c d => by
    rw [← HGE.out, ← HT1.out]
    exact HCA.out (by rw [He1.out, a]) (by rw [Hr1.out, b]) (by rw [Hf1.out, c]) (by rw [Hs1.out, d])
  clear HN1 HN2 HCA HES
  by_cases hG : G = 0
  · have g1 : ((G : Int) != 0) = false := by rw [bne_eq_false_iff_eq]; omega
    have g2 : ((G : Int) == 0) = true := by rw [beq_iff_eq]; omega
    by_cases a1 : e1 = 0
    · have x1 : ((e1 : Int) != 0) = false := by rw [bne_eq_false_iff_eq]; omega
      by_cases a2 : f1 = 0
      · have x2 : ((f1 : Int) != 0) = false := by rw [bne_eq_false_iff_eq]; omega
        by_cases a3 : r1 = 0
        · have x3 : ((r1 : Int) != 0) = false := by rw [bne_eq_false_iff_eq]; omega
          by_cases a4 : s1 = [48]
          · have x4 : ((bs s1).toList != [48]) = false := by rw [tl, a4]; rfl
            have x4' : ((bs s1).toList == [48]) = true := by rw [tl, a4]; rfl
            obtain ⟨g0, rfl⟩ := HQ2.out a1 a3 a2 a4
            have x5 : ((bs T1).toList == (bs T1).toList) = true := by simp
            clear a1 a2 a3 a4
            go_wp2
            go_ret
            exact ⟨rfl, HB5.out⟩
          · have x4 : ((bs s1).toList != [48]) = true := by rw [tl]; simpa using a4
            have x4' : ((bs s1).toList == [48]) = false := by rw [tl, beq_eq_false_iff_ne]; exact a4
            clear a1 a2 a3 a4
            go_wp2
            go_ret
            exact ⟨rfl, HB5.out⟩
        · have x3 : ((r1 : Int) != 0) = true := by rw [bne_iff_ne]; omega
          clear a1 a2 a3
          go_wp2
          go_ret
          exact ⟨rfl, HB5.out⟩
      · have x2 : ((f1 : Int) != 0) = true := by rw [bne_iff_ne]; omega
        clear a1 a2
        go_wp2
        go_ret
        exact ⟨rfl, HB5.out⟩
    · have x1 : ((e1 : Int) != 0) = true := by rw [bne_iff_ne]; omega
      clear a1
      go_wp2
      go_ret
      exact ⟨rfl, HB5.out⟩
  · have g1 : ((G : Int) != 0) = true := by rw [bne_iff_ne]; omega
    have g2 : ((G : Int) == 0) = false := by rw [beq_eq_false_iff_ne]; omega
    obtain ⟨rfl, rfl⟩ := HQ.out hG
    have n1 : (((bs []).toList != []) : Bool) = false := by rw [tl]; rfl
    have n2 : (bs []).toList.isEmpty = true := by rw [tl]; rfl
    by_cases a1 : e1 = 0
    · have x1 : ((e1 : Int) != 0) = false := by rw [bne_eq_false_iff_eq]; omega
      by_cases a2 : f1 = 0
      · have x2 : ((f1 : Int) != 0) = false := by rw [bne_eq_false_iff_eq]; omega
        by_cases a3 : r1 = 0
        · have x3 : ((r1 : Int) != 0) = false := by rw [bne_eq_false_iff_eq]; omega
          by_cases a4 : s1 = [48]
          · have x4 : ((bs s1).toList != [48]) = false := by rw [tl, a4]; rfl
            have x4' : ((bs s1).toList == [48]) = true := by rw [tl, a4]; rfl
            obtain ⟨g0, rfl⟩ := HQ2.out a1 a3 a2 a4
            exact absurd g0 hG
          · have x4 : ((bs s1).toList != [48]) = true := by rw [tl]; simpa using a4
            have x4' : ((bs s1).toList == [48]) = false := by rw [tl, beq_eq_false_iff_ne]; exact a4
            clear a1 a2 a3 a4
            go_wp2
            go_ret
            exact ⟨rfl, HB5.out⟩
        · have x3 : ((r1 : Int) != 0) = true := by rw [bne_iff_ne]; omega
          clear a1 a2 a3
          go_wp2
          go_ret
          exact ⟨rfl, HB5.out⟩
      · have x2 : ((f1 : Int) != 0) = true := by rw [bne_iff_ne]; omega
        clear a1 a2
        go_wp2
        go_ret
        exact ⟨rfl, HB5.out⟩
    · have x1 : ((e1 : Int) != 0) = true := by rw [bne_iff_ne]; omega
      clear a1
      go_wp2
      go_ret
      exact ⟨rfl, HB5.out⟩

end Go.Proofs.YtenbnmbbfeekpaaDoor
