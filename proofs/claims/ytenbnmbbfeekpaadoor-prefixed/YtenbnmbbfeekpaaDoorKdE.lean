import Derived.Test.YtenbnmbbfeekpaaDoorKdD
import Derived.Test.YtenbnmbbfeekpaaDoorKdC
namespace Go.Proofs.YtenbnmbbfeekpaaDoor
open Go.RowKit

set_option maxHeartbeats 3200000 in
set_option maxRecDepth 100000 in
theorem keep_Prefixed {T : List UInt8 → List UInt8 → List UInt8} {E : List UInt8 → List UInt8 → Nat} (hp : ChooseP T E) (hc : ChooseC T E) (t : List UInt8) (fo : Option Addr) (fl fc : Nat) (mo : Option Addr) (ml mc : Nat) (w : World) (ht : t.length ≤ maxLen) (hf : fl ≤ maxLen) (hm : ml ≤ maxLen) (rf : IntsAt w fo fl) (rm : IntsAt w mo ml) : Calls Tryd.prog 5 #[.string (bs t), .slice fo fl fc, .slice mo ml mc] w fun e w' => e = .returned (.bool true) ∧ Below w.heap.size w w' := by
  have HCC : Hid (ChooseC T E) := hc
  have HCP : Hid (ChooseP T E) := hp
  have Ht : Hid (t.length ≤ maxLen) := ht
  have Hts : Hid ((bs t).size ≤ maxLen) := by show _ ≤ _; rw [bs_size]; exact ht
  have HRF : Hid (IntsAt w fo fl) := rf
  have HRM : Hid (IntsAt w mo ml) := rm
  clear hp hc ht rf rm
  unfold maxLen at hf hm
  go_enter Tryd.func5, Tryd.ntmps5
  go_wp2_with fail
  refine (keep_works HCP.out HCC.out _).mono ?_
  rintro e w0 ⟨rfl, hb0⟩
  have HB0 : Hid (Below w.heap.size w w0) := hb0
  clear hb0
  go_wp2
  go_loopw [8, 9] (fun a i wr => ∃ (k : Nat) (A : List UInt8), k ≤ fl ∧ i = .int .i64 k ∧ a = .string (bs A) ∧ A.length ≤ 6 ∧ Hid (critB A = true) ∧ Below w.heap.size w wr) (fun _ i _ => fl - (intOf i).toNat)
  case atStart => exact ⟨0, [45, 114], by omega, rfl, by rfl, by simp, show critB [45, 114] = true by decide +kernel, HB0.out⟩
  case round =>
    obtain ⟨k, A, hk, rfl, rfl, hA6, HA, hb⟩ := hrel
    have hsA : (bs A).size = A.length := bs_size A
    have HB : Hid (Below w.heap.size w wr) := hb
    by_cases hgo : k < fl ∧ A.length < 6
    · obtain ⟨hlt, hl6⟩ := hgo
      obtain ⟨b, off, c, rfl, x0, c1, c2⟩ := HRF.out k hlt
      rw [← hb.cell (p := ⟨b, _, none⟩) (World.block_lt_of_cell? _ _ x0)] at x0
      have hi6 : (A.length : Int) < 6 := by omega
      have hik : (k : Int) < (fl : Int) := by omega
      have HC1 : Hid (-9223372036854775808 ≤ c) := c1
      have HC2 : Hid (c ≤ 9223372036854775807) := c2
      have HN := crit_app (pkN_lt c) HA.out (by omega)
      have HN2 : Hid (critB (A ++ crN (pkN c)) = true ∧ (A ++ crN (pkN c)).length = A.length + 2) := HN
      have hev := crit_rng HA.out
      have hsN : (bs (crN (pkN c))).size = 2 := by rw [bs_size]; exact (crN_ok (pkN_lt c)).2
      clear hb c1 c2 HN
      go_wp2_with fail
      refine (keep_criterion c _ HC1.out HC2.out).mono ?_
      rintro e w1 ⟨rfl, hb1⟩
      have HB1 : Hid (Below w.heap.size w w1) := HB.out.trans (hb1.mono HB.out.size)
      clear hb1
      go_wp2
      go_roundw
      case rel => exact ⟨k + 1, A ++ crN (pkN c), by omega, by go_num, by rw [bs_app], by have := HN2.out.2; omega, HN2.out.1, HB1.out⟩
      case measure => simp [intOf]; omega
    · have hev := crit_rng HA.out
      have hx : fl ≤ k ∨ (k < fl ∧ 6 ≤ A.length) := by omega
      clear hb hgo
      rcases hx with hx | ⟨hx, hx2⟩
      · have q1 : ¬ (k : Int) < (fl : Int) := by omega
        clear hx
        go_wp2
        go_loopw [10, 11] (fun a i wr => ∃ (k : Nat) (M : List UInt8), k ≤ ml ∧ i = .int .i64 k ∧ a = .string (bs (A ++ M)) ∧ (A ++ M).length ≤ 8 ∧ Hid (critB (A ++ M) = true) ∧ Below w.heap.size w wr) (fun _ i _ => ml - (intOf i).toNat)
        case atStart => exact ⟨0, [], by omega, rfl, by rw [List.append_nil], by simp; omega, show critB (A ++ []) = true by rw [List.append_nil]; exact HA.out, HB.out⟩
        case round =>
          obtain ⟨k', M, hk', rfl, rfl, hA8, HN2, hb⟩ := hrel
          have hsM : (bs (A ++ M)).size = (A ++ M).length := bs_size _
          have HB2 : Hid (Below w.heap.size w wr) := hb
          have hev2 := crit_rng HN2.out
          by_cases hgo : k' < ml ∧ (A ++ M).length < 8
          · obtain ⟨hlt, hl6⟩ := hgo
            obtain ⟨b, off, c, rfl, x0, c1, c2⟩ := HRM.out k' hlt
            rw [← hb.cell (p := ⟨b, _, none⟩) (World.block_lt_of_cell? _ _ x0)] at x0
            have hi6 : ((A ++ M).length : Int) < 8 := by omega
            have hik : (k' : Int) < (ml : Int) := by omega
            have HC1 : Hid (-9223372036854775808 ≤ c) := c1
            have HC2 : Hid (c ≤ 9223372036854775807) := c2
            have HN := crit_app (pkN_lt c) HN2.out (by omega)
            have HN3 : Hid (critB (A ++ M ++ crN (pkN c)) = true ∧ (A ++ M ++ crN (pkN c)).length = (A ++ M).length + 2) := HN
            have hsN : (bs (crN (pkN c))).size = 2 := by rw [bs_size]; exact (crN_ok (pkN_lt c)).2
            clear hb c1 c2 HN
            obtain ⟨AM, HAM⟩ : ∃ x, Hid (A ++ M = x) := ⟨_, rfl⟩
            rw [HAM.out] at hsM hl6 hi6 hA8 hev2 ⊢
            go_wp2_with fail
            refine (keep_criterion c _ HC1.out HC2.out).mono ?_
            rintro e w1 ⟨rfl, hb1⟩
            have HB1 : Hid (Below w.heap.size w w1) := HB2.out.trans (hb1.mono HB2.out.size)
            clear hb1
            go_wp2
            go_roundw
            case rel => exact ⟨k' + 1, M ++ crN (pkN c), by omega, by go_num, by rw [← List.append_assoc, HAM.out, bs_app], by have := HN3.out.2; rw [HAM.out] at this; rw [← List.append_assoc, HAM.out]; omega, (by show _ = _; rw [← List.append_assoc]; exact HN3.out.1), HB1.out⟩
            case measure => simp [intOf]; omega
          · have hx : ml ≤ k' ∨ (k' < ml ∧ 8 ≤ (A ++ M).length) := by omega
            clear hb hgo
            obtain ⟨AM, HAM⟩ : ∃ x, Hid (A ++ M = x) := ⟨_, rfl⟩
            rw [HAM.out] at hsM hx hA8 hev2 ⊢
            rcases hx with hx | ⟨hx, hx2⟩
            · have q3 : ¬ (k' : Int) < (ml : Int) := by omega
              clear hx
              go_wp2_with fail
              have HPX0 := HCP.out.prefixed (t := t) HA.out HN2.out
              rw [HAM.out] at HPX0
              have HCa : Hid ((A.length : Int) ≤ maxLen) := by show _ ≤ _; unfold maxLen; omega
              have HCn : Hid (A.length ≤ maxLen) := by show _ ≤ _; unfold maxLen; omega
              have HCm : Hid (AM.length ≤ maxLen) := by show _ ≤ _; unfold maxLen; omega
              have hT1 := HCP.out.len t A
              have hT2 := HCP.out.len t AM
              have HTi1 : Hid (((T t A).length : Int) ≤ maxLen) := by show _ ≤ _; unfold maxLen; omega
              have HTi2 : Hid (((T t AM).length : Int) ≤ maxLen) := by show _ ≤ _; unfold maxLen; omega
              have HPX : Hid (E t AM = E t A ∧ (E t A ≠ 0 → T t A = [] ∧ T t AM = []) ∧ (E t A = 0 → usE t A (T t A) = 0 ∧ usE t A (T t AM) = 0 ∧ usT t A (T t A) = usT t A (T t AM))) := HPX0
              have hle := HCP.out.le t A
              clear hT1 hT2 HPX0
              refine (HCC.out t A _ Ht.out HCn.out).mono ?_
              rintro e w3 ⟨rfl, hb3⟩
              have HB3 : Hid (Below w.heap.size w w3) := HB2.out.trans (hb3.mono HB2.out.size)
              clear hb3
              go_wp2_with fail
              refine (HCC.out t AM _ Ht.out HCm.out).mono ?_
              rintro e w4 ⟨rfl, hb4⟩
              rw [HPX.out.1]
              have HB4 : Hid (Below w.heap.size w w4) := HB3.out.trans (hb4.mono HB3.out.size)
              clear hb4
              obtain ⟨T1, HT1⟩ : ∃ x, Hid (T t A = x) := ⟨_, rfl⟩
              obtain ⟨T2, HT2⟩ : ∃ x, Hid (T t AM = x) := ⟨_, rfl⟩
              obtain ⟨G, HGE⟩ : ∃ x, Hid (E t A = x) := ⟨_, rfl⟩
              rw [HT1.out, HT2.out, HGE.out]
              rw [HT1.out] at HTi1
              rw [HT2.out] at HTi2
              rw [HT1.out, HT2.out, HGE.out] at HPX
              rw [HGE.out] at hle
              clear HT1 HT2 HGE
              have z2 : ((G : Int) != (G : Int)) = false := by simp
              have z3 : ((G : Int) == (G : Int)) = true := by simp
              by_cases hG : G = 0
              · have g1 : ((G : Int) != 0) = false := by rw [bne_eq_false_iff_eq]; omega
                obtain ⟨k1, k2, k3⟩ := HPX.out.2.2 hG
                have K1 : Hid (usE t A T1 = 0) := k1
                have K2 : Hid (usE t A T2 = 0) := k2
                have K3 : Hid (usT t A T1 = usT t A T2) := k3
                clear hG k1 k2 k3 HPX
                go_wp2_with fail
                refine (up_Score (bs t) A T1 _ Hts.out HCa.out HTi1.out).mono ?_
                rintro e w5 ⟨rfl, hb5⟩
                rw [bs_list, K1.out, K3.out]
                have HB5 : Hid (Below w.heap.size w w5) := HB4.out.trans (hb5.mono HB4.out.size)
                clear hb5
                go_wp2_with fail
                refine (up_Score (bs t) A T2 _ Hts.out HCa.out HTi2.out).mono ?_
                rintro e w6 ⟨rfl, hb6⟩
                rw [bs_list, K2.out]
                have HB6 : Hid (Below w.heap.size w w6) := HB5.out.trans (hb6.mono HB5.out.size)
                clear hb6
                have z4 : ((bs (usT t A T2)).toList == (bs (usT t A T2)).toList) = true := by simp
                go_wp2
                go_ret
                exact ⟨rfl, HB6.out⟩
              · have g1 : ((G : Int) != 0) = true := by rw [bne_iff_ne]; omega
                obtain ⟨rfl, rfl⟩ := HPX.out.2.1 hG
                have n1 : (((bs []).toList == []) : Bool) = true := by rw [tl]; rfl
                have n2 : (bs []).toList.isEmpty = true := by rw [tl]; rfl
                clear hG HPX
                go_wp2
                go_ret
                exact ⟨rfl, HB4.out⟩
            · have q3 : (k' : Int) < (ml : Int) := by omega
              have q4 : ¬ (AM.length : Int) < 8 := by omega
              clear hx hx2
              go_wp2_with fail
              have HPX0 := HCP.out.prefixed (t := t) HA.out HN2.out
              rw [HAM.out] at HPX0
              have HCa : Hid ((A.length : Int) ≤ maxLen) := by show _ ≤ _; unfold maxLen; omega
              have HCn : Hid (A.length ≤ maxLen) := by show _ ≤ _; unfold maxLen; omega
              have HCm : Hid (AM.length ≤ maxLen) := by show _ ≤ _; unfold maxLen; omega
              have hT1 := HCP.out.len t A
              have hT2 := HCP.out.len t AM
              have HTi1 : Hid (((T t A).length : Int) ≤ maxLen) := by show _ ≤ _; unfold maxLen; omega
              have HTi2 : Hid (((T t AM).length : Int) ≤ maxLen) := by show _ ≤ _; unfold maxLen; omega
              have HPX : Hid (E t AM = E t A ∧ (E t A ≠ 0 → T t A = [] ∧ T t AM = []) ∧ (E t A = 0 → usE t A (T t A) = 0 ∧ usE t A (T t AM) = 0 ∧ usT t A (T t A) = usT t A (T t AM))) := HPX0
              have hle := HCP.out.le t A
              clear hT1 hT2 HPX0
              refine (HCC.out t A _ Ht.out HCn.out).mono ?_
              rintro e w3 ⟨rfl, hb3⟩
              have HB3 : Hid (Below w.heap.size w w3) := HB2.out.trans (hb3.mono HB2.out.size)
              clear hb3
              go_wp2_with fail
              refine (HCC.out t AM _ Ht.out HCm.out).mono ?_
              rintro e w4 ⟨rfl, hb4⟩
              rw [HPX.out.1]
              have HB4 : Hid (Below w.heap.size w w4) := HB3.out.trans (hb4.mono HB3.out.size)
              clear hb4
              obtain ⟨T1, HT1⟩ : ∃ x, Hid (T t A = x) := ⟨_, rfl⟩
              obtain ⟨T2, HT2⟩ : ∃ x, Hid (T t AM = x) := ⟨_, rfl⟩
              obtain ⟨G, HGE⟩ : ∃ x, Hid (E t A = x) := ⟨_, rfl⟩
              rw [HT1.out, HT2.out, HGE.out]
              rw [HT1.out] at HTi1
              rw [HT2.out] at HTi2
              rw [HT1.out, HT2.out, HGE.out] at HPX
              rw [HGE.out] at hle
              clear HT1 HT2 HGE
              have z2 : ((G : Int) != (G : Int)) = false := by simp
              have z3 : ((G : Int) == (G : Int)) = true := by simp
              by_cases hG : G = 0
              · have g1 : ((G : Int) != 0) = false := by rw [bne_eq_false_iff_eq]; omega
                obtain ⟨k1, k2, k3⟩ := HPX.out.2.2 hG
                have K1 : Hid (usE t A T1 = 0) := k1
                have K2 : Hid (usE t A T2 = 0) := k2
                have K3 : Hid (usT t A T1 = usT t A T2) := k3
                clear hG k1 k2 k3 HPX
                go_wp2_with fail
                refine (up_Score (bs t) A T1 _ Hts.out HCa.out HTi1.out).mono ?_
                rintro e w5 ⟨rfl, hb5⟩
                rw [bs_list, K1.out, K3.out]
                have HB5 : Hid (Below w.heap.size w w5) := HB4.out.trans (hb5.mono HB4.out.size)
                clear hb5
                go_wp2_with fail
                refine (up_Score (bs t) A T2 _ Hts.out HCa.out HTi2.out).mono ?_
                rintro e w6 ⟨rfl, hb6⟩
                rw [bs_list, K2.out]
                have HB6 : Hid (Below w.heap.size w w6) := HB5.out.trans (hb6.mono HB5.out.size)
                clear hb6
                have z4 : ((bs (usT t A T2)).toList == (bs (usT t A T2)).toList) = true := by simp
                go_wp2
                go_ret
                exact ⟨rfl, HB6.out⟩
              · have g1 : ((G : Int) != 0) = true := by rw [bne_iff_ne]; omega
                obtain ⟨rfl, rfl⟩ := HPX.out.2.1 hG
                have n1 : (((bs []).toList == []) : Bool) = true := by rw [tl]; rfl
                have n2 : (bs []).toList.isEmpty = true := by rw [tl]; rfl
                clear hG HPX
                go_wp2
                go_ret
                exact ⟨rfl, HB4.out⟩
      · have q1 : (k : Int) < (fl : Int) := by omega
        have q2 : ¬ (A.length : Int) < 6 := by omega
        clear hx hx2
        go_wp2
        go_loopw [10, 11] (fun a i wr => ∃ (k : Nat) (M : List UInt8), k ≤ ml ∧ i = .int .i64 k ∧ a = .string (bs (A ++ M)) ∧ (A ++ M).length ≤ 8 ∧ Hid (critB (A ++ M) = true) ∧ Below w.heap.size w wr) (fun _ i _ => ml - (intOf i).toNat)
        case atStart => exact ⟨0, [], by omega, rfl, by rw [List.append_nil], by simp; omega, show critB (A ++ []) = true by rw [List.append_nil]; exact HA.out, HB.out⟩
        case round =>
          obtain ⟨k', M, hk', rfl, rfl, hA8, HN2, hb⟩ := hrel
          have hsM : (bs (A ++ M)).size = (A ++ M).length := bs_size _
          have HB2 : Hid (Below w.heap.size w wr) := hb
          have hev2 := crit_rng HN2.out
          by_cases hgo : k' < ml ∧ (A ++ M).length < 8
          · obtain ⟨hlt, hl6⟩ := hgo
            obtain ⟨b, off, c, rfl, x0, c1, c2⟩ := HRM.out k' hlt
            rw [← hb.cell (p := ⟨b, _, none⟩) (World.block_lt_of_cell? _ _ x0)] at x0
            have hi6 : ((A ++ M).length : Int) < 8 := by omega
            have hik : (k' : Int) < (ml : Int) := by omega
            have HC1 : Hid (-9223372036854775808 ≤ c) := c1
            have HC2 : Hid (c ≤ 9223372036854775807) := c2
            have HN := crit_app (pkN_lt c) HN2.out (by omega)
            have HN3 : Hid (critB (A ++ M ++ crN (pkN c)) = true ∧ (A ++ M ++ crN (pkN c)).length = (A ++ M).length + 2) := HN
            have hsN : (bs (crN (pkN c))).size = 2 := by rw [bs_size]; exact (crN_ok (pkN_lt c)).2
            clear hb c1 c2 HN
            obtain ⟨AM, HAM⟩ : ∃ x, Hid (A ++ M = x) := ⟨_, rfl⟩
            rw [HAM.out] at hsM hl6 hi6 hA8 hev2 ⊢
            go_wp2_with fail
            refine (keep_criterion c _ HC1.out HC2.out).mono ?_
            rintro e w1 ⟨rfl, hb1⟩
            have HB1 : Hid (Below w.heap.size w w1) := HB2.out.trans (hb1.mono HB2.out.size)
            clear hb1
            go_wp2
            go_roundw
            case rel => exact ⟨k' + 1, M ++ crN (pkN c), by omega, by go_num, by rw [← List.append_assoc, HAM.out, bs_app], by have := HN3.out.2; rw [HAM.out] at this; rw [← List.append_assoc, HAM.out]; omega, (by show _ = _; rw [← List.append_assoc]; exact HN3.out.1), HB1.out⟩
            case measure => simp [intOf]; omega
          · have hx : ml ≤ k' ∨ (k' < ml ∧ 8 ≤ (A ++ M).length) := by omega
            clear hb hgo
            obtain ⟨AM, HAM⟩ : ∃ x, Hid (A ++ M = x) := ⟨_, rfl⟩
            rw [HAM.out] at hsM hx hA8 hev2 ⊢
            rcases hx with hx | ⟨hx, hx2⟩
            · have q3 : ¬ (k' : Int) < (ml : Int) := by omega
              clear hx
              go_wp2_with fail
              have HPX0 := HCP.out.prefixed (t := t) HA.out HN2.out
              rw [HAM.out] at HPX0
              have HCa : Hid ((A.length : Int) ≤ maxLen) := by show _ ≤ _; unfold maxLen; omega
              have HCn : Hid (A.length ≤ maxLen) := by show _ ≤ _; unfold maxLen; omega
              have HCm : Hid (AM.length ≤ maxLen) := by show _ ≤ _; unfold maxLen; omega
              have hT1 := HCP.out.len t A
              have hT2 := HCP.out.len t AM
              have HTi1 : Hid (((T t A).length : Int) ≤ maxLen) := by show _ ≤ _; unfold maxLen; omega
              have HTi2 : Hid (((T t AM).length : Int) ≤ maxLen) := by show _ ≤ _; unfold maxLen; omega
              have HPX : Hid (E t AM = E t A ∧ (E t A ≠ 0 → T t A = [] ∧ T t AM = []) ∧ (E t A = 0 → usE t A (T t A) = 0 ∧ usE t A (T t AM) = 0 ∧ usT t A (T t A) = usT t A (T t AM))) := HPX0
              have hle := HCP.out.le t A
              clear hT1 hT2 HPX0
              refine (HCC.out t A _ Ht.out HCn.out).mono ?_
              rintro e w3 ⟨rfl, hb3⟩
              have HB3 : Hid (Below w.heap.size w w3) := HB2.out.trans (hb3.mono HB2.out.size)
              clear hb3
              go_wp2_with fail
              refine (HCC.out t AM _ Ht.out HCm.out).mono ?_
              rintro e w4 ⟨rfl, hb4⟩
              rw [HPX.out.1]
              have HB4 : Hid (Below w.heap.size w w4) := HB3.out.trans (hb4.mono HB3.out.size)
              clear hb4
              obtain ⟨T1, HT1⟩ : ∃ x, Hid (T t A = x) := ⟨_, rfl⟩
              obtain ⟨T2, HT2⟩ : ∃ x, Hid (T t AM = x) := ⟨_, rfl⟩
              obtain ⟨G, HGE⟩ : ∃ x, Hid (E t A = x) := ⟨_, rfl⟩
              rw [HT1.out, HT2.out, HGE.out]
              rw [HT1.out] at HTi1
              rw [HT2.out] at HTi2
              rw [HT1.out, HT2.out, HGE.out] at HPX
              rw [HGE.out] at hle
              clear HT1 HT2 HGE
              have z2 : ((G : Int) != (G : Int)) = false := by simp
              have z3 : ((G : Int) == (G : Int)) = true := by simp
              by_cases hG : G = 0
              · have g1 : ((G : Int) != 0) = false := by rw [bne_eq_false_iff_eq]; omega
                obtain ⟨k1, k2, k3⟩ := HPX.out.2.2 hG
                have K1 : Hid (usE t A T1 = 0) := k1
                have K2 : Hid (usE t A T2 = 0) := k2
                have K3 : Hid (usT t A T1 = usT t A T2) := k3
                clear hG k1 k2 k3 HPX
                go_wp2_with fail
                refine (up_Score (bs t) A T1 _ Hts.out HCa.out HTi1.out).mono ?_
                rintro e w5 ⟨rfl, hb5⟩
                rw [bs_list, K1.out, K3.out]
                have HB5 : Hid (Below w.heap.size w w5) := HB4.out.trans (hb5.mono HB4.out.size)
                clear hb5
                go_wp2_with fail
                refine (up_Score (bs t) A T2 _ Hts.out HCa.out HTi2.out).mono ?_
                rintro e w6 ⟨rfl, hb6⟩
                rw [bs_list, K2.out]
                have HB6 : Hid (Below w.heap.size w w6) := HB5.out.trans (hb6.mono HB5.out.size)
                clear hb6
                have z4 : ((bs (usT t A T2)).toList == (bs (usT t A T2)).toList) = true := by simp
                go_wp2
                go_ret
                exact ⟨rfl, HB6.out⟩
              · have g1 : ((G : Int) != 0) = true := by rw [bne_iff_ne]; omega
                obtain ⟨rfl, rfl⟩ := HPX.out.2.1 hG
                have n1 : (((bs []).toList == []) : Bool) = true := by rw [tl]; rfl
                have n2 : (bs []).toList.isEmpty = true := by rw [tl]; rfl
                clear hG HPX
                go_wp2
                go_ret
                exact ⟨rfl, HB4.out⟩
            · have q3 : (k' : Int) < (ml : Int) := by omega
              have q4 : ¬ (AM.length : Int) < 8 := by omega
              clear hx hx2
              go_wp2_with fail
              have HPX0 := HCP.out.prefixed (t := t) HA.out HN2.out
              rw [HAM.out] at HPX0
              have HCa : Hid ((A.length : Int) ≤ maxLen) := by show _ ≤ _; unfold maxLen; omega
              have HCn : Hid (A.length ≤ maxLen) := by show _ ≤ _; unfold maxLen; omega
              have HCm : Hid (AM.length ≤ maxLen) := by show _ ≤ _; unfold maxLen; omega
              have hT1 := HCP.out.len t A
              have hT2 := HCP.out.len t AM
              have HTi1 : Hid (((T t A).length : Int) ≤ maxLen) := by show _ ≤ _; unfold maxLen; omega
              have HTi2 : Hid (((T t AM).length : Int) ≤ maxLen) := by show _ ≤ _; unfold maxLen; omega
              have HPX : Hid (E t AM = E t A ∧ (E t A ≠ 0 → T t A = [] ∧ T t AM = []) ∧ (E t A = 0 → usE t A (T t A) = 0 ∧ usE t A (T t AM) = 0 ∧ usT t A (T t A) = usT t A (T t AM))) := HPX0
              have hle := HCP.out.le t A
              clear hT1 hT2 HPX0
              refine (HCC.out t A _ Ht.out HCn.out).mono ?_
              rintro e w3 ⟨rfl, hb3⟩
              have HB3 : Hid (Below w.heap.size w w3) := HB2.out.trans (hb3.mono HB2.out.size)
              clear hb3
              go_wp2_with fail
              refine (HCC.out t AM _ Ht.out HCm.out).mono ?_
              rintro e w4 ⟨rfl, hb4⟩
              rw [HPX.out.1]
              have HB4 : Hid (Below w.heap.size w w4) := HB3.out.trans (hb4.mono HB3.out.size)
              clear hb4
              obtain ⟨T1, HT1⟩ : ∃ x, Hid (T t A = x) := ⟨_, rfl⟩
              obtain ⟨T2, HT2⟩ : ∃ x, Hid (T t AM = x) := ⟨_, rfl⟩
              obtain ⟨G, HGE⟩ : ∃ x, Hid (E t A = x) := ⟨_, rfl⟩
              rw [HT1.out, HT2.out, HGE.out]
              rw [HT1.out] at HTi1
              rw [HT2.out] at HTi2
              rw [HT1.out, HT2.out, HGE.out] at HPX
              rw [HGE.out] at hle
              clear HT1 HT2 HGE
              have z2 : ((G : Int) != (G : Int)) = false := by simp
              have z3 : ((G : Int) == (G : Int)) = true := by simp
              by_cases hG : G = 0
              · have g1 : ((G : Int) != 0) = false := by rw [bne_eq_false_iff_eq]; omega
                obtain ⟨k1, k2, k3⟩ := HPX.out.2.2 hG
                have K1 : Hid (usE t A T1 = 0) := k1
                have K2 : Hid (usE t A T2 = 0) := k2
                have K3 : Hid (usT t A T1 = usT t A T2) := k3
                clear hG k1 k2 k3 HPX
                go_wp2_with fail
                refine (up_Score (bs t) A T1 _ Hts.out HCa.out HTi1.out).mono ?_
                rintro e w5 ⟨rfl, hb5⟩
                rw [bs_list, K1.out, K3.out]
                have HB5 : Hid (Below w.heap.size w w5) := HB4.out.trans (hb5.mono HB4.out.size)
                clear hb5
                go_wp2_with fail
                refine (up_Score (bs t) A T2 _ Hts.out HCa.out HTi2.out).mono ?_
                rintro e w6 ⟨rfl, hb6⟩
                rw [bs_list, K2.out]
                have HB6 : Hid (Below w.heap.size w w6) := HB5.out.trans (hb6.mono HB5.out.size)
                clear hb6
                have z4 : ((bs (usT t A T2)).toList == (bs (usT t A T2)).toList) = true := by simp
                go_wp2
                go_ret
                exact ⟨rfl, HB6.out⟩
              · have g1 : ((G : Int) != 0) = true := by rw [bne_iff_ne]; omega
                obtain ⟨rfl, rfl⟩ := HPX.out.2.1 hG
                have n1 : (((bs []).toList == []) : Bool) = true := by rw [tl]; rfl
                have n2 : (bs []).toList.isEmpty = true := by rw [tl]; rfl
                clear hG HPX
                go_wp2
                go_ret
                exact ⟨rfl, HB4.out⟩

end Go.Proofs.YtenbnmbbfeekpaaDoor
