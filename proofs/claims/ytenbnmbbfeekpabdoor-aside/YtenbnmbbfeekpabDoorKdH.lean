import Derived.Test.YtenbnmbbfeekpabDoorRdL
import Derived.Test.YtenbnmbbfeekpabDoorKdG
namespace Go.Proofs.YtenbnmbbfeekpabDoor
open Go.RowKit

/-- The criterion, asking for few. -/
def fwN (v : Nat) : List UInt8 := [45] ++ (crN v).drop 1
theorem fw_ok {v : Nat} (hv : v < 8) : crP (fwN v) = true ∧ (fwN v).length = 2 := by
  match v, hv with
  | 0, _ | 1, _ | 2, _ | 3, _ | 4, _ | 5, _ | 6, _ | 7, _ => exact ⟨by decide +kernel, by rfl⟩
theorem fw_app {A : List UInt8} {v : Nat} (hv : v < 8) (hA : critB A = true) (hl : A.length ≤ 7) : critB (A ++ fwN v) = true ∧ (A ++ fwN v).length = A.length + 2 := by
  obtain ⟨h1, h2⟩ := fw_ok hv
  have hl2 : (A ++ fwN v).length = A.length + 2 := by rw [List.length_append, h2]
  refine ⟨?_, hl2⟩
  unfold critB at hA ⊢
  simp at hA
  obtain ⟨⟨⟨a, b⟩, c⟩, d⟩ := hA
  rw [hl2, crP_app A.length A _ (Nat.le_refl _) c, d, h1]
  simp
  omega
theorem fw_text (A : List UInt8) (v : Nat) : bs A ++ bs [45] ++ (bs (crN v)).extract 1 2 = bs (A ++ fwN v) := by
  rw [extract_bs, bs_list, bs_app, bs_app]
  congr 1
  unfold fwN crN
  simp
theorem more_bs (X : Nat) (t : List UInt8) : bs [b8 X] ++ { data := #[49, 58, 58, 58, 59] } ++ bs t = bs (moreT X t) := by
  have e : ({ data := #[49, 58, 58, 58, 59] } : ByteArray) = bs [49, 58, 58, 58, 59] := rfl
  rw [e, bs_app, bs_app]
  rfl
/-- All together. -/
theorem aside_all {T : List UInt8 → List UInt8 → List UInt8} {E : List UInt8 → List UInt8 → Nat} (h : ChooseP T E) {t : List UInt8} {x : Nat} (h0 : rdE t = 0) (hx : nmB x = true) (hn : hasT t x = false) (hk : cntT t < 20) (hl : t.length + 6 ≤ 800) {C R : List UInt8} (hC : C = 45 :: 99 :: R) (hc : critB C = true) :
    E (moreT x t) C = E t C ∧ (E t C ≠ 0 → E t C = 7 ∧ T t C = [] ∧ T (moreT x t) C = []) ∧
    (E t C = 0 → usE t C (T t C) = 0 ∧ usE (moreT x t) C (T (moreT x t) C) = 0 ∧ usT (moreT x t) C (T (moreT x t) C) = usT t C (T t C)) := by
  subst hC
  obtain ⟨r1, r2, _, _, _⟩ := rd_ok h0
  have hf : Fresh x (dcV t) := fresh_of h0 hx fun y hy e => by
    unfold hasT at hn
    rw [List.any_eq_false] at hn
    exact hn y hy (by simpa using e)
  have hp : (dcV t).packs.length < 20 := by
    rw [← cnt_packs r2, ← r1]
    exact hk
  obtain ⟨m1, m2⟩ := more_ok h0 hf hp hl
  exact h.aside h0 m1 m2 hf hp hc

set_option maxHeartbeats 12800000 in
set_option maxRecDepth 100000 in
theorem keep_Aside {T : List UInt8 → List UInt8 → List UInt8} {E : List UInt8 → List UInt8 → Nat} (hp : ChooseP T E) (hc : ChooseC T E) (t : List UInt8) (fo : Option Addr) (fl fc : Nat) (w : World) (ht : t.length ≤ maxLen) (hf : fl ≤ maxLen) (rf : IntsAt w fo fl) : Calls Tryd.prog 3 #[.string (bs t), .slice fo fl fc] w fun e w' => e = .returned (.bool true) ∧ Below w.heap.size w w' := by
  have HCC : Hid (ChooseC T E) := hc
  have HCP : Hid (ChooseP T E) := hp
  have Ht : Hid (t.length ≤ maxLen) := ht
  have Hts : Hid ((bs t).size ≤ maxLen) := by show _ ≤ _; rw [bs_size]; exact ht
  have hst : (bs t).size = t.length := bs_size t
  have HRF : Hid (IntsAt w fo fl) := rf
  clear hp hc rf
  unfold maxLen at hf ht
  go_enter Tryd.func3, Tryd.ntmps3
  go_wp2_with fail
  refine (keep_works HCP.out HCC.out _).mono ?_
  rintro e w0 ⟨rfl, hb0⟩
  have HB0 : Hid (Below w.heap.size w w0) := hb0
  clear hb0
  go_wp2
  go_loopw [6, 7] (fun a i wr => ∃ (k : Nat) (A R : List UInt8), k ≤ fl ∧ i = .int .i64 k ∧ a = .string (bs A) ∧ A.length ≤ 8 ∧ Hid (critB A = true) ∧ Hid (A = 45 :: 99 :: R) ∧ Below w.heap.size w wr) (fun _ i _ => fl - (intOf i).toNat)
  case atStart => exact ⟨0, [45, 99], [], by omega, rfl, by rfl, by simp, show critB [45, 99] = true by decide +kernel, rfl, HB0.out⟩
  case round =>
    obtain ⟨k, A, RR, hk, rfl, rfl, hA8, HA, HAR, hb⟩ := hrel
    have hsA : (bs A).size = A.length := bs_size A
    have HB : Hid (Below w.heap.size w wr) := hb
    by_cases hgo : k < fl ∧ A.length < 8
    · obtain ⟨hlt, hl8⟩ := hgo
      obtain ⟨b, off, c, rfl, x0, c1, c2⟩ := HRF.out k hlt
      rw [← hb.cell (p := ⟨b, _, none⟩) (World.block_lt_of_cell? _ _ x0)] at x0
      have hi6 : (A.length : Int) < 8 := by omega
      have hik : (k : Int) < (fl : Int) := by omega
      have HC1 : Hid (-9223372036854775808 ≤ c) := c1
      have HC2 : Hid (c ≤ 9223372036854775807) := c2
      have HN := fw_app (pkN_lt c) HA.out (by omega)
      have HN2 : Hid (critB (A ++ fwN (pkN c)) = true ∧ (A ++ fwN (pkN c)).length = A.length + 2) := HN
      have hev := crit_rng HA.out
      have hsN : (bs (crN (pkN c))).size = 2 := by rw [bs_size]; exact (crN_ok (pkN_lt c)).2
      have HTX : Hid (bs A ++ bs [45] ++ (bs (crN (pkN c))).extract 1 2 = bs (A ++ fwN (pkN c))) := fw_text A (pkN c)
      have HAR2 : Hid (A ++ fwN (pkN c) = 45 :: 99 :: (RR ++ fwN (pkN c))) := by show _ = _; rw [HAR.out]; rfl
      clear hb c1 c2 HN
      go_wp2_with fail
      refine (keep_criterion c _ HC1.out HC2.out).mono ?_
      rintro e w1 ⟨rfl, hb1⟩
      have HB1 : Hid (Below w.heap.size w w1) := HB.out.trans (hb1.mono HB.out.size)
      clear hb1
      go_wp2
      go_roundw
      case rel => exact ⟨k + 1, A ++ fwN (pkN c), RR ++ fwN (pkN c), by omega, by go_num, congrArg Value.string HTX.out, by have := HN2.out.2; omega, HN2.out.1, HAR2, HB1.out⟩
      case measure => simp [intOf]; omega
    · have hev := crit_rng HA.out
      have hx : fl ≤ k ∨ (k < fl ∧ 8 ≤ A.length) := by omega
      have HAm : Hid (A.length ≤ maxLen) := by show _ ≤ _; unfold maxLen; omega
      have HAi : Hid ((A.length : Int) ≤ maxLen) := by show _ ≤ _; unfold maxLen; omega
      have hbs := hb.size
      have hq : (¬ (k : Int) < (fl : Int) ∧ True) ∨ ((k : Int) < (fl : Int) ∧ ¬ (A.length : Int) < 8) := by
        rcases hx with g | ⟨g1, g2⟩
        · exact Or.inl ⟨by omega, trivial⟩
        · exact Or.inr ⟨by omega, by omega⟩
      clear hb hgo hx
      rcases hq with ⟨q1, q2⟩ | ⟨q1, q2⟩
      all_goals
        go_wp2
        clear q1 q2
        go_loop [9, 10] (fun nm i => ∃ (j X : Nat), j ≤ 26 ∧ 97 ≤ X ∧ X ≤ 122 ∧ i = .int .i64 j ∧ nm = .int .u8 X) (fun _ i => 26 - (intOf i).toNat)
        case atStart => exact ⟨0, 97, by omega, by omega, by omega, rfl, rfl⟩
        case round =>
          obtain ⟨j, X, hj, hX1, hX2, rfl, rfl⟩ := hrel
          by_cases hlt : j < 26
          · have e1 : (j : Int) < 26 := by omega
            cases hh : hasT t X with
            | false =>
              have HH : Hid (hasT t X = false) := hh
              clear hh
              go_wp2_with fail
              refine (keep_stands t X _ Ht.out).mono ?_
              rintro e w2 ⟨rfl, rfl⟩
              rw [HH.out]
              go_wp2
              go_round
              case rel => exact ⟨j + 1, X, by omega, hX1, hX2, by go_num, rfl⟩
              case measure => simp [intOf]; omega
            | true =>
              have HH : Hid (hasT t X = true) := hh
              clear hh
              by_cases hz : X < 122
              · have e2 : (X : Int) < 122 := by omega
                go_wp2_with fail
                refine (keep_stands t X _ Ht.out).mono ?_
                rintro e w2 ⟨rfl, rfl⟩
                rw [HH.out]
                go_wp2
                go_round
                case rel => exact ⟨j + 1, X + 1, by omega, by omega, by omega, by go_num, by go_num⟩
                case measure => simp [intOf]; omega
              · have e2 : ¬ (X : Int) < 122 := by omega
                go_wp2_with fail
                refine (keep_stands t X _ Ht.out).mono ?_
                rintro e w2 ⟨rfl, rfl⟩
                rw [HH.out]
                go_wp2
                go_round
                case rel => exact ⟨j + 1, X, by omega, hX1, hX2, by go_num, rfl⟩
                case measure => simp [intOf]; omega
          · have e1 : ¬ (j : Int) < 26 := by omega
            clear hlt hj
            obtain ⟨c0, hc0⟩ : ∃ c, c = rdE t := ⟨_, rfl⟩
            have HC0 : Hid (rdE t = c0) := hc0.symm
            obtain ⟨n0, hn0⟩ : ∃ n, n = cntT t := ⟨_, rfl⟩
            have HN0 : Hid (cntT t = n0) := hn0.symm
            have hn0l : n0 ≤ t.length := by rw [hn0]; exact List.countP_le_length
            clear hc0 hn0
            by_cases h0 : c0 = 0
            · have z0 : ((c0 : Int) != 0) = false := by rw [bne_eq_false_iff_eq]; omega
              have ht8 : t.length ≤ 800 := (rd_ok (HC0.out.trans h0)).2.2.1
              cases hh : hasT t X with
              | true =>
                have HH : Hid (hasT t X = true) := hh
                clear hh
                go_wp2_with fail
                refine (up_Check (bs t) _ Hts.out).mono ?_
                rintro e w2 ⟨rfl, hb2⟩
                rw [bs_list, HC0.out]
                have HB2 : Hid (Below w.heap.size w w2) := HB.out.trans (hb2.mono hbs)
                clear hb2
                go_wp2_with fail
                refine (keep_stands t X _ Ht.out).mono ?_
                rintro e w3 ⟨rfl, rfl⟩
                rw [HH.out]
                go_wp2_with fail
                refine (keep_packs t _ Ht.out).mono ?_
                rintro e w3 ⟨rfl, rfl⟩
                rw [HN0.out]
                go_wp2
                go_ret
                exact ⟨rfl, HB2.out⟩
              | false =>
                have HH : Hid (hasT t X = false) := hh
                clear hh
                by_cases hn : 20 ≤ n0
                · have z1 : (20 : Int) ≤ (n0 : Int) := by omega
                  go_wp2_with fail
                  refine (up_Check (bs t) _ Hts.out).mono ?_
                  rintro e w2 ⟨rfl, hb2⟩
                  rw [bs_list, HC0.out]
                  have HB2 : Hid (Below w.heap.size w w2) := HB.out.trans (hb2.mono hbs)
                  clear hb2
                  go_wp2_with fail
                  refine (keep_stands t X _ Ht.out).mono ?_
                  rintro e w3 ⟨rfl, rfl⟩
                  rw [HH.out]
                  go_wp2_with fail
                  refine (keep_packs t _ Ht.out).mono ?_
                  rintro e w3 ⟨rfl, rfl⟩
                  rw [HN0.out]
                  go_wp2
                  go_ret
                  exact ⟨rfl, HB2.out⟩
                · have z1 : ¬ (20 : Int) ≤ (n0 : Int) := by omega
                  by_cases hl : 800 < t.length + 6
                  · have z2 : (800 : Int) < (t.length : Int) + 6 := by omega
                    go_wp2_with fail
                    refine (up_Check (bs t) _ Hts.out).mono ?_
                    rintro e w2 ⟨rfl, hb2⟩
                    rw [bs_list, HC0.out]
                    have HB2 : Hid (Below w.heap.size w w2) := HB.out.trans (hb2.mono hbs)
                    clear hb2
                    go_wp2_with fail
                    refine (keep_stands t X _ Ht.out).mono ?_
                    rintro e w3 ⟨rfl, rfl⟩
                    rw [HH.out]
                    go_wp2_with fail
                    refine (keep_packs t _ Ht.out).mono ?_
                    rintro e w3 ⟨rfl, rfl⟩
                    rw [HN0.out]
                    go_wp2
                    go_ret
                    exact ⟨rfl, HB2.out⟩
                  · have z2 : ¬ (800 : Int) < (t.length : Int) + 6 := by omega
                    go_wp2_with fail
                    refine (up_Check (bs t) _ Hts.out).mono ?_
                    rintro e w2 ⟨rfl, hb2⟩
                    rw [bs_list, HC0.out]
                    have HB2 : Hid (Below w.heap.size w w2) := HB.out.trans (hb2.mono hbs)
                    clear hb2
                    go_wp2_with fail
                    refine (keep_stands t X _ Ht.out).mono ?_
                    rintro e w3 ⟨rfl, rfl⟩
                    rw [HH.out]
                    go_wp2_with fail
                    refine (keep_packs t _ Ht.out).mono ?_
                    rintro e w3 ⟨rfl, rfl⟩
                    rw [HN0.out]
                    have hcv := conv1 w3 X (by omega)
                    have hsx : (bs [b8 X]).size = 1 := bs_size [b8 X]
                    go_wp2_with fail
                    have HM : Hid (bs [b8 X] ++ { data := #[49, 58, 58, 58, 59] } ++ bs t = bs (moreT X t)) := more_bs X t
                    have HAS := aside_all HCP.out (HC0.out.trans h0) (show nmB (X : Nat) = true by unfold nmB; simp; omega) HH.out (by rw [HN0.out]; omega) (by omega) HAR.out HA.out
                    have A1 : Hid (E (moreT X t) A = E t A) := HAS.1
                    have A2 : Hid (E t A ≠ 0 → E t A = 7 ∧ T t A = [] ∧ T (moreT X t) A = []) := HAS.2.1
                    have A3 : Hid (E t A = 0 → usE t A (T t A) = 0 ∧ usE (moreT X t) A (T (moreT X t) A) = 0 ∧ usT (moreT X t) A (T (moreT X t) A) = usT t A (T t A)) := HAS.2.2
                    have hml : (moreT X t).length = t.length + 6 := by unfold moreT; simp
                    have HMl : Hid ((moreT X t).length ≤ maxLen) := by show _ ≤ _; unfold maxLen; omega
                    have HMs : Hid ((bs (moreT X t)).size ≤ maxLen) := by show _ ≤ _; rw [bs_size]; unfold maxLen; omega
                    have l1 := HCP.out.len t A
                    have l2 := HCP.out.len (moreT X t) A
                    have HT1 : Hid (((T t A).length : Int) ≤ maxLen) := by show _ ≤ _; unfold maxLen; omega
                    have HT2 : Hid (((T (moreT X t) A).length : Int) ≤ maxLen) := by show _ ≤ _; unfold maxLen; omega
                    have HB3 : Hid (Below w.heap.size w (w3.alloc (.cells #[.int .u8 (X : Int)] 5))) := HB2.out.alloc HB2.out.size _
                    clear HAS l1 l2 hml
                    refine (HCC.out t A _ Ht.out HAm.out).mono ?_
                    rintro e w4 ⟨rfl, hb4⟩
                    have HB4 : Hid (Below w.heap.size w w4) := HB3.out.trans (hb4.mono HB3.out.size)
                    clear hb4
                    go_wp2_with fail
                    rw [HM.out]
                    refine (HCC.out (moreT X t) A _ HMl.out HAm.out).mono ?_
                    rintro e w5 ⟨rfl, hb5⟩
                    rw [A1.out]
                    have HB5 : Hid (Below w.heap.size w w5) := HB4.out.trans (hb5.mono HB4.out.size)
                    clear hb5
                    by_cases hG : E t A = 0
                    · obtain ⟨u1, u2, u3⟩ := A3.out hG
                      have U1 : Hid (usE t A (T t A) = 0) := u1
                      have U2 : Hid (usE (moreT X t) A (T (moreT X t) A) = 0) := u2
                      have U3 : Hid (usT (moreT X t) A (T (moreT X t) A) = usT t A (T t A)) := u3
                      have HG : Hid (E t A = 0) := hG
                      rw [HG.out]
                      clear u1 u2 u3 A2 A3 hG
                      go_wp2_with fail
                      refine (up_Score (bs t) A (T t A) _ Hts.out HAi.out HT1.out).mono ?_
                      rintro e w6 ⟨rfl, hb6⟩
                      rw [bs_list, U1.out]
                      have HB6 : Hid (Below w.heap.size w w6) := HB5.out.trans (hb6.mono HB5.out.size)
                      clear hb6
                      go_wp2_with fail
                      refine (up_Score (bs (moreT X t)) A (T (moreT X t) A) _ HMs.out HAi.out HT2.out).mono ?_
                      rintro e w7 ⟨rfl, hb7⟩
                      rw [bs_list, U2.out, U3.out]
                      have HB7 : Hid (Below w.heap.size w w7) := HB6.out.trans (hb7.mono HB6.out.size)
                      clear hb7
                      go_wp2
                      go_ret
                      exact ⟨by simp, HB7.out⟩
                    · obtain ⟨v1, v2, v3⟩ := A2.out hG
                      have V1 : Hid (E t A = 7) := v1
                      have V2 : Hid (T t A = []) := v2
                      have V3 : Hid (T (moreT X t) A = []) := v3
                      have n1 : (((bs []).toList == []) : Bool) = true := by rw [tl]; rfl
                      have n2 : (bs []).toList.isEmpty = true := by rw [tl]; rfl
                      rw [V1.out, V2.out, V3.out]
                      clear v1 v2 v3 A2 A3 hG
                      go_wp2
                      go_ret
                      exact ⟨by simp, HB5.out⟩
            · have z0 : ((c0 : Int) != 0) = true := by rw [bne_iff_ne]; omega
              clear h0
              cases hh : hasT t X with
              | true =>
                have HH : Hid (hasT t X = true) := hh
                clear hh
                go_wp2_with fail
                refine (up_Check (bs t) _ Hts.out).mono ?_
                rintro e w2 ⟨rfl, hb2⟩
                rw [bs_list, HC0.out]
                have HB2 : Hid (Below w.heap.size w w2) := HB.out.trans (hb2.mono hbs)
                clear hb2
                go_wp2_with fail
                refine (keep_stands t X _ Ht.out).mono ?_
                rintro e w3 ⟨rfl, rfl⟩
                rw [HH.out]
                go_wp2_with fail
                refine (keep_packs t _ Ht.out).mono ?_
                rintro e w3 ⟨rfl, rfl⟩
                rw [HN0.out]
                go_wp2
                go_ret
                exact ⟨rfl, HB2.out⟩
              | false =>
                have HH : Hid (hasT t X = false) := hh
                clear hh
                go_wp2_with fail
                refine (up_Check (bs t) _ Hts.out).mono ?_
                rintro e w2 ⟨rfl, hb2⟩
                rw [bs_list, HC0.out]
                have HB2 : Hid (Below w.heap.size w w2) := HB.out.trans (hb2.mono hbs)
                clear hb2
                go_wp2_with fail
                refine (keep_stands t X _ Ht.out).mono ?_
                rintro e w3 ⟨rfl, rfl⟩
                rw [HH.out]
                go_wp2_with fail
                refine (keep_packs t _ Ht.out).mono ?_
                rintro e w3 ⟨rfl, rfl⟩
                rw [HN0.out]
                go_wp2
                go_ret
                exact ⟨rfl, HB2.out⟩

end Go.Proofs.YtenbnmbbfeekpabDoor
