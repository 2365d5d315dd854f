import Derived.Test.YtenbnmbbfeekpaaDoorRdL
import Derived.Test.YtenbnmbbfeekpaaDoorKdB
namespace Go.Proofs.YtenbnmbbfeekpaaDoor
open Go.RowKit

theorem ChooseP.wrong {T : List UInt8 → List UInt8 → List UInt8} {E : List UInt8 → List UInt8 → Nat} (h : ChooseP T E) {t C : List UInt8} (O : List UInt8) (he : E t C ≠ 0) (h7 : E t C ≠ 7) : T t C = [] ∧ (rdE t = E t C ∨ (rdE t = 0 ∧ E t C = 6 ∧ usE t C O = 6 ∧ usT t C O = [])) := by
  refine ⟨h.none he, ?_⟩
  by_cases h0 : rdE t = 0
  · refine Or.inr ⟨h0, ?_⟩
    cases hc : critB C with
    | true => exact absurd (h.yes t C h0 hc h7).1 he
    | false =>
      refine ⟨(h.cri t C h0 hc).1, ?_⟩
      rw [crit_same] at hc
      have hn : crL C = Option.none := by cases hx : crL C with
        | none => rfl
        | some _ => rw [hx] at hc; simp at hc
      constructor
      · unfold usE; rw [if_pos h0, hn]
      · unfold usT; rw [if_pos h0, hn]
  · exact Or.inl (h.bad t C h0).1.symm
theorem ChooseP.empty {T : List UInt8 → List UInt8 → List UInt8} {E : List UInt8 → List UInt8 → Nat} (h : ChooseP T E) {t C : List UInt8} (O : List UInt8) (h7 : E t C = 7) : T t C = [] ∧ ¬ (uvE t O = 0 ∧ uvR t O = 0) := by
  refine ⟨h.none (by omega), ?_⟩
  have h0 : rdE t = 0 := by
    by_cases h0 : rdE t = 0
    · exact h0
    · have := (h.bad t C h0).1; have := rd_le t; omega
  have hc : critB C = true := by
    cases hc : critB C with
    | true => rfl
    | false => have := (h.cri t C h0 hc).1; omega
  intro hx
  have := (h.non t C h0 hc h7).2 O
  rw [(right_iff t O h0).2 hx] at this
  cases this
theorem ChooseP.best {T : List UInt8 → List UInt8 → List UInt8} {E : List UInt8 → List UInt8 → Nat} (h : ChooseP T E) {t C : List UInt8} (he : E t C = 0) : uvR t (T t C) = 0 ∧ uvE t (T t C) = 0 ∧ usE t C (T t C) = 0 ∧ C.length ≤ 8 ∧ C.length % 2 = 0 := by
  have h0 : rdE t = 0 := by
    by_cases h0 : rdE t = 0
    · exact h0
    · rw [(h.bad t C h0).1] at he; exact he
  have hc : critB C = true := by
    cases hc : critB C with
    | true => rfl
    | false => rw [(h.cri t C h0 hc).1] at he; simp at he
  obtain ⟨_, e2, _⟩ := h.yes t C h0 hc (by rw [he]; decide)
  obtain ⟨a, b⟩ := (right_iff t _ h0).1 e2
  refine ⟨b, a, (h.judged he a b).1, ?_⟩
  unfold critB at hc
  simp at hc
  omega

set_option maxHeartbeats 3200000 in
set_option maxRecDepth 100000 in
theorem keep_Judged {T : List UInt8 → List UInt8 → List UInt8} {E : List UInt8 → List UInt8 → Nat} (hp : ChooseP T E) (hc : ChooseC T E) (t C O : List UInt8) (w : World) (ht : t.length ≤ maxLen) (hC : C.length ≤ maxLen) (hO : O.length ≤ maxLen) : Calls Tryd.prog 3 #[.string (bs t), .string (bs C), .string (bs O)] w fun e w' => e = .returned (.bool true) ∧ Below w.heap.size w w' := by
  have HCC : Hid (ChooseC T E) := hc
  have HCP : Hid (ChooseP T E) := hp
  have Ht : Hid (t.length ≤ maxLen) := ht
  have HC : Hid (C.length ≤ maxLen) := hC
  have Hts : Hid ((bs t).size ≤ maxLen) := by show _ ≤ _; rw [bs_size]; exact ht
  have HOs : Hid ((bs O).size ≤ maxLen) := by show _ ≤ _; rw [bs_size]; exact hO
  have HOi : Hid ((O.length : Int) ≤ maxLen) := by show _ ≤ _; exact_mod_cast hO
  have HCi : Hid ((C.length : Int) ≤ maxLen) := by show _ ≤ _; exact_mod_cast hC
  have hTl := hp.len t C
  have HTs : Hid ((bs (T t C)).size ≤ maxLen) := by show _ ≤ _; rw [bs_size]; unfold maxLen; omega
  have HTi : Hid (((T t C).length : Int) ≤ maxLen) := by show _ ≤ _; unfold maxLen; omega
  have HW : Hid (E t C ≠ 0 → E t C ≠ 7 → T t C = [] ∧ (rdE t = E t C ∨ (rdE t = 0 ∧ E t C = 6 ∧ usE t C O = 6 ∧ usT t C O = []))) := hp.wrong O
  have HM : Hid (E t C = 7 → T t C = [] ∧ ¬ (uvE t O = 0 ∧ uvR t O = 0)) := hp.empty O
  have HBe : Hid (E t C = 0 → uvR t (T t C) = 0 ∧ uvE t (T t C) = 0 ∧ usE t C (T t C) = 0 ∧ C.length ≤ 8 ∧ C.length % 2 = 0) := hp.best
  have HJ : Hid (E t C = 0 → uvE t O = 0 → uvR t O = 0 → usE t C O = 0 ∧ wsF C (usT t C (T t C)) (usT t C O) = false) := fun a b c => hp.judged a b c
  have HD1 := us_dc t C O
  have HD2 := us_dc t C (T t C)
  have HD3 : Hid ((∀ x ∈ usT t C O, dcB x.toNat = true) ∧ (usT t C O).length ≤ 12) := HD1
  have HD4 : Hid ((∀ x ∈ usT t C (T t C), dcB x.toNat = true) ∧ (usT t C (T t C)).length ≤ 12) := HD2
  have hle := hp.le t C
  clear ht hO hC hp hc HD1 HD2 hTl
  go_enter Tryd.func3, Tryd.ntmps3
  go_wp2_with fail
  refine (keep_works HCP.out HCC.out _).mono ?_
  rintro e w0 ⟨rfl, hb0⟩
  have HB0 : Hid (Below w.heap.size w w0) := hb0
  clear hb0
  go_wp2_with fail
  refine (HCC.out t C _ Ht.out HC.out).mono ?_
  rintro e w1 ⟨rfl, hb1⟩
  have HB1 : Hid (Below w.heap.size w w1) := HB0.out.trans (hb1.mono HB0.out.size)
  clear hb1
  go_wp2_with fail
  refine (up_Valid (bs t) (bs O) _ Hts.out HOs.out).mono ?_
  rintro e w2 ⟨rfl, hb2⟩
  rw [bs_list, bs_list]
  have HB2 : Hid (Below w.heap.size w w2) := HB1.out.trans (hb2.mono HB1.out.size)
  clear hb2
  go_wp2_with fail
  refine (up_Score (bs t) C O _ Hts.out HCi.out HOi.out).mono ?_
  rintro e w3 ⟨rfl, hb3⟩
  rw [bs_list]
  have HB3 : Hid (Below w.heap.size w w3) := HB2.out.trans (hb3.mono HB2.out.size)
  clear hb3
  obtain ⟨T1, HT1⟩ : ∃ x, Hid (T t C = x) := ⟨_, rfl⟩
  obtain ⟨G, HGE⟩ : ∃ x, Hid (E t C = x) := ⟨_, rfl⟩
  obtain ⟨e1, He1⟩ : ∃ x, Hid (uvE t O = x) := ⟨_, rfl⟩
  obtain ⟨r1, Hr1⟩ : ∃ x, Hid (uvR t O = x) := ⟨_, rfl⟩
  obtain ⟨f1, Hf1⟩ : ∃ x, Hid (usE t C O = x) := ⟨_, rfl⟩
  obtain ⟨s1, Hs1⟩ : ∃ x, Hid (usT t C O = x) := ⟨_, rfl⟩
  rw [HT1.out, HGE.out, He1.out, Hr1.out, Hf1.out, Hs1.out]
  rw [HT1.out] at HTs HTi
  rw [HT1.out, HGE.out, Hf1.out, Hs1.out] at HW
  rw [HT1.out, HGE.out, He1.out, Hr1.out] at HM
  rw [HT1.out, HGE.out] at HBe
  rw [HT1.out, HGE.out, He1.out, Hr1.out, Hf1.out, Hs1.out] at HJ
  rw [Hs1.out] at HD3
  rw [HT1.out] at HD4
  rw [HGE.out] at hle
  clear HT1 HGE He1 Hr1 Hf1 Hs1
  by_cases hG : G = 0
  · have g1 : ((G : Int) != 0) = false := by rw [bne_eq_false_iff_eq]; omega
    have g2 : ((G : Int) == 7) = false := by rw [beq_eq_false_iff_ne]; omega
    obtain ⟨b1, b2, b3, b4, b5⟩ := HBe.out hG
    have HJ2 := HJ.out hG
    have HJ3 : Hid (e1 = 0 → r1 = 0 → f1 = 0 ∧ wsF C (usT t C T1) s1 = false) := HJ2
    have Hb1 : Hid (uvR t T1 = 0) := b1
    have Hb2 : Hid (uvE t T1 = 0) := b2
    have Hb3 : Hid (usE t C T1 = 0) := b3
    have Hb4 : Hid (C.length ≤ 8) := b4
    have Hb5 : Hid (C.length % 2 = 0) := b5
    clear b1 b2 b3 b4 b5 HJ HBe HW HM HJ2 hG
    by_cases a1 : e1 = 0
    · have x1 : ((e1 : Int) == 0) = true := by rw [beq_iff_eq]; omega
      by_cases a2 : r1 = 0
      · have x2 : ((r1 : Int) == 0) = true := by rw [beq_iff_eq]; omega
        obtain ⟨c1, c2⟩ := HJ3.out a1 a2
        have x3 : ((f1 : Int) == 0) = true := by rw [beq_iff_eq]; omega
        have Hc2 : Hid (wsF C (usT t C T1) s1 = false) := c2
        clear a1 a2 c1 c2 HJ3
        go_wp2_with fail
        refine (up_Valid (bs t) (bs T1) _ Hts.out HTs.out).mono ?_
        rintro e w4 ⟨rfl, hb4⟩
        rw [bs_list, bs_list, Hb1.out, Hb2.out]
        have HB4 : Hid (Below w.heap.size w w4) := HB3.out.trans (hb4.mono HB3.out.size)
        clear hb4
        go_wp2_with fail
        refine (up_Score (bs t) C T1 _ Hts.out HCi.out HTi.out).mono ?_
        rintro e w5 ⟨rfl, hb5⟩
        rw [bs_list, Hb3.out]
        have HB5 : Hid (Below w.heap.size w w5) := HB4.out.trans (hb5.mono HB4.out.size)
        clear hb5
        go_wp2_with fail
        refine (keep_worse C (usT t C T1) s1 _ Hb4.out Hb5.out HD4.out.2 HD3.out.2 HD4.out.1 HD3.out.1).mono ?_
        rintro e w6 ⟨rfl, rfl⟩
        rw [Hc2.out]
        go_wp2
        go_ret
        exact ⟨rfl, HB5.out⟩
      · have x2 : ((r1 : Int) == 0) = false := by rw [beq_eq_false_iff_ne]; omega
        clear a1 a2 HJ3
        go_wp2_with fail
        refine (up_Valid (bs t) (bs T1) _ Hts.out HTs.out).mono ?_
        rintro e w4 ⟨rfl, hb4⟩
        rw [bs_list, bs_list, Hb1.out, Hb2.out]
        have HB4 : Hid (Below w.heap.size w w4) := HB3.out.trans (hb4.mono HB3.out.size)
        clear hb4
        go_wp2_with fail
        refine (up_Score (bs t) C T1 _ Hts.out HCi.out HTi.out).mono ?_
        rintro e w5 ⟨rfl, hb5⟩
        rw [bs_list, Hb3.out]
        have HB5 : Hid (Below w.heap.size w w5) := HB4.out.trans (hb5.mono HB4.out.size)
        clear hb5
        go_wp2_with fail
        refine (keep_worse C (usT t C T1) s1 _ Hb4.out Hb5.out HD4.out.2 HD3.out.2 HD4.out.1 HD3.out.1).mono ?_
        rintro e w6 ⟨rfl, rfl⟩
        go_wp2
        go_ret
        exact ⟨rfl, HB5.out⟩
    · have x1 : ((e1 : Int) == 0) = false := by rw [beq_eq_false_iff_ne]; omega
      clear a1 HJ3
      go_wp2_with fail
      refine (up_Valid (bs t) (bs T1) _ Hts.out HTs.out).mono ?_
      rintro e w4 ⟨rfl, hb4⟩
      rw [bs_list, bs_list, Hb1.out, Hb2.out]
      have HB4 : Hid (Below w.heap.size w w4) := HB3.out.trans (hb4.mono HB3.out.size)
      clear hb4
      go_wp2_with fail
      refine (up_Score (bs t) C T1 _ Hts.out HCi.out HTi.out).mono ?_
      rintro e w5 ⟨rfl, hb5⟩
      rw [bs_list, Hb3.out]
      have HB5 : Hid (Below w.heap.size w w5) := HB4.out.trans (hb5.mono HB4.out.size)
      clear hb5
      go_wp2_with fail
      refine (keep_worse C (usT t C T1) s1 _ Hb4.out Hb5.out HD4.out.2 HD3.out.2 HD4.out.1 HD3.out.1).mono ?_
      rintro e w6 ⟨rfl, rfl⟩
      go_wp2
      go_ret
      exact ⟨rfl, HB5.out⟩
  · have g1 : ((G : Int) != 0) = true := by rw [bne_iff_ne]; omega
    by_cases h7 : G = 7
    · have g2 : ((G : Int) != 7) = false := by rw [bne_eq_false_iff_eq]; omega
      have g3 : ((G : Int) == 7) = true := by rw [beq_iff_eq]; omega
      obtain ⟨rfl, hn⟩ := HM.out h7
      have n1 : (((bs []).toList == []) : Bool) = true := by rw [tl]; rfl
      have n2 : (bs []).toList.isEmpty = true := by rw [tl]; rfl
      clear HJ HBe HW HM h7 hG
      by_cases a1 : e1 = 0
      · have x1 : ((e1 : Int) == 0) = true := by rw [beq_iff_eq]; omega
        have x2 : ((r1 : Int) == 0) = false := by rw [beq_eq_false_iff_ne]; omega
        clear a1 hn
        go_wp2
        go_ret
        exact ⟨rfl, HB3.out⟩
      · have x1 : ((e1 : Int) == 0) = false := by rw [beq_eq_false_iff_ne]; omega
        clear a1 hn
        go_wp2
        go_ret
        exact ⟨rfl, HB3.out⟩
    · have g2 : ((G : Int) != 7) = true := by rw [bne_iff_ne]; omega
      obtain ⟨rfl, hn⟩ := HW.out hG h7
      have n1 : (((bs []).toList == []) : Bool) = true := by rw [tl]; rfl
      have n2 : (bs []).toList.isEmpty = true := by rw [tl]; rfl
      have HN : Hid (rdE t = G ∨ (rdE t = 0 ∧ G = 6 ∧ f1 = 6 ∧ s1 = [])) := hn
      clear HJ HBe HW HM h7 hG hn
      go_wp2_with fail
      refine (up_Check (bs t) _ Hts.out).mono ?_
      rintro e w4 ⟨rfl, hb4⟩
      rw [bs_list]
      have HB4 : Hid (Below w.heap.size w w4) := HB3.out.trans (hb4.mono HB3.out.size)
      clear hb4
      obtain ⟨c, Hc⟩ : ∃ x, Hid (rdE t = x) := ⟨_, rfl⟩
      rw [Hc.out] at HN ⊢
      clear Hc
      by_cases hx : c = G
      · have y1 : ((c : Int) == (G : Int)) = true := by rw [beq_iff_eq]; omega
        clear hx HN
        go_wp2
        go_ret
        exact ⟨rfl, HB4.out⟩
      · have y1 : ((c : Int) == (G : Int)) = false := by rw [beq_eq_false_iff_ne]; omega
        obtain ⟨k1, k2, k3, rfl⟩ := HN.out.resolve_left hx
        have y2 : ((c : Int) == 0) = true := by rw [beq_iff_eq]; omega
        have y3 : ((G : Int) == 6) = true := by rw [beq_iff_eq]; omega
        have y4 : ((f1 : Int) == (G : Int)) = true := by rw [beq_iff_eq]; omega
        clear k1 k2 k3 hx HN
        go_wp2
        go_ret
        exact ⟨rfl, HB4.out⟩

end Go.Proofs.YtenbnmbbfeekpaaDoor
