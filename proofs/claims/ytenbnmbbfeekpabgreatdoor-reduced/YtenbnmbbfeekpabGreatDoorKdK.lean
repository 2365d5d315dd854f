import Derived.Test.YtenbnmbbfeekpabGreatDoorKdJ
namespace Go.Proofs.YtenbnmbbfeekpabGreatDoor
open Go.RowKit

/-- The clauses of the first numbers. -/
def clsK (f : Nat → Int) (k : Nat) : List (List UInt8) := (List.range k).map fun i => clN (f i)
theorem clsK_snoc (f : Nat → Int) (k : Nat) : clsK f (k + 1) = clsK f k ++ [clN (f k)] := by unfold clsK; rw [List.range_succ, List.map_append]; rfl
theorem clsK_len (f : Nat → Int) (k : Nat) : (clsK f k).length = k := by unfold clsK; simp
theorem clsK_sm (f : Nat → Int) {k : Nat} (hk : k ≤ 30) : ClSm (clsK f k) := by
  refine ⟨fun c hc => ?_, by rw [clsK_len]; exact hk, fun c hc => ?_⟩
  · obtain ⟨i, _, rfl⟩ := List.mem_map.1 hc; exact (clN_ok _).1
  · obtain ⟨i, _, rfl⟩ := List.mem_map.1 hc; exact (clN_ok _).2
theorem clT_snoc (cls : List (List UInt8)) (c : List UInt8) : clT (cls ++ [c]) = clT cls ++ c ++ [59] := by unfold clT; simp
theorem needs_snoc (cls : List (List UInt8)) (c : List UInt8) : needsT (cls ++ [c]) = (if 0 < cls.length then needsT cls ++ [44] else needsT cls) ++ ndT (ndO c) := by
  unfold needsT
  rw [List.map_append, List.map_singleton]
  cases cls with
  | nil => rfl
  | cons b cls =>
    rw [joinT_snoc 44 _ _ (by simp), if_pos (by simp)]
    simp
theorem ints_fn {w : World} {ao : Option Addr} {len : Nat} (h : IntsAt w ao len) : ∃ f : Nat → Int, ∀ i, i < len → ∃ b off, ao = some ⟨b, off, none⟩ ∧ w.cell? ⟨b, off + i, none⟩ = some (.int .i64 (f i)) ∧ -9223372036854775808 ≤ f i ∧ f i ≤ 9223372036854775807 := by
  have key : ∀ i, ∃ c : Int, i < len → ∃ b off, ao = some ⟨b, off, none⟩ ∧ w.cell? ⟨b, off + i, none⟩ = some (.int .i64 c) ∧ -9223372036854775808 ≤ c ∧ c ≤ 9223372036854775807 := by
    intro i
    by_cases hi : i < len
    · obtain ⟨b, off, c, e, x, c1, c2⟩ := h i hi
      exact ⟨c, fun _ => ⟨b, off, e, x, c1, c2⟩⟩
    · exact ⟨0, fun g => absurd g hi⟩
  exact ⟨fun i => (key i).choose, fun i hi => (key i).choose_spec hi⟩
/-- The first names' packages, written. -/
def twK (j : Nat) : List UInt8 := pksT (twelve.take (2 * j))
theorem red_text (cls : List (List UInt8)) : bs (twK 6) ++ bs [113, 49, 58] ++ bs (needsT cls) ++ bs [58, 58, 59, 47, 113, 47, 47] = bs (redT cls) := by
  rw [bs_app, bs_app, bs_app]
  rfl

theorem abc1 {v : Nat} (hv : v < 6) : ({ data := #[97, 98, 99, 100, 101, 102] } : ByteArray).extract v (v + 1) ++ { data := #[49] } = bs [b8 (97 + v), b8 49] := by
  rcases (by omega : v = 0 ∨ v = 1 ∨ v = 2 ∨ v = 3 ∨ v = 4 ∨ v = 5) with rfl | rfl | rfl | rfl | rfl | rfl <;> decide +kernel
theorem abc2 {v : Nat} (hv : v < 6) : ({ data := #[97, 98, 99, 100, 101, 102] } : ByteArray).extract v (v + 1) ++ { data := #[50] } = bs [b8 (97 + v), b8 50] := by
  rcases (by omega : v = 0 ∨ v = 1 ∨ v = 2 ∨ v = 3 ∨ v = 4 ∨ v = 5) with rfl | rfl | rfl | rfl | rfl | rfl <;> decide +kernel

set_option maxHeartbeats 12800000 in
set_option maxRecDepth 100000 in
theorem keep_Reduced {TS : List UInt8 → List UInt8 → List UInt8} {BS : List UInt8 → List UInt8 → Bool} {T : List UInt8 → List UInt8 → List UInt8} {E : List UInt8 → List UInt8 → Nat} (hs : SolveP TS BS) (hsc : SolveC TS BS) (hp : ChooseP T E) (hc : ChooseC T E) (fo : Option Addr) (fl fc : Nat) (w : World) (hf : fl ≤ maxLen) (rf : IntsAt w fo fl) : Calls Tryz.prog 3 #[.slice fo fl fc] w fun e w' => e = .returned (.bool true) ∧ Below w.heap.size w w' := by
  have HSC : Hid (SolveC TS BS) := hsc
  have HSP : Hid (SolveP TS BS) := hs
  have HCC : Hid (ChooseC T E) := hc
  have HCP : Hid (ChooseP T E) := hp
  obtain ⟨f, hfn⟩ := ints_fn rf
  have HRF : Hid (∀ i, i < fl → ∃ b off, fo = some ⟨b, off, none⟩ ∧ w.cell? ⟨b, off + i, none⟩ = some (.int .i64 (f i)) ∧ -9223372036854775808 ≤ f i ∧ f i ≤ 9223372036854775807) := hfn
  clear hp hc hs hsc rf hfn
  unfold maxLen at hf
  go_enter Tryz.func3, Tryz.ntmps3
  go_wp2_with fail
  refine (keep_works HCP.out HCC.out _).mono ?_
  rintro e w0 ⟨rfl, hb0⟩
  have HB0 : Hid (Below w.heap.size w w0) := hb0
  clear hb0
  go_wp2_with fail
  refine (keep_tells HSP.out HSC.out _).mono ?_
  rintro e w00 ⟨rfl, hb0⟩
  have HB00 : Hid (Below w.heap.size w w00) := HB0.out.trans (hb0.mono HB0.out.size)
  clear hb0
  go_wp2
  go_loopw [5, 6, 7] (fun a b i wr => ∃ (k : Nat), k ≤ fl ∧ k ≤ 30 ∧ i = .int .i64 k ∧ a = .string (bs (clT (clsK f k))) ∧ b = .string (bs (needsT (clsK f k))) ∧ Below w.heap.size w wr) (fun _ _ i _ => fl - (intOf i).toNat)
  case atStart => exact ⟨0, by omega, by omega, rfl, by rfl, by rfl, HB00.out⟩
  case round =>
    obtain ⟨k, hk, hk30, rfl, rfl, rfl, hb⟩ := hrel
    have HB : Hid (Below w.heap.size w wr) := hb
    have hbs := hb.size
    have HSM : Hid (ClSm (clsK f k)) := clsK_sm f hk30
    have l1 := cl_len HSM.out
    have l2 := needs_small HSM.out
    by_cases hgo : k < fl ∧ k < 30
    · obtain ⟨hlt, hl30⟩ := hgo
      obtain ⟨b, off, rfl, x0, c1, c2⟩ := HRF.out k hlt
      rw [← hb.cell (p := ⟨b, _, none⟩) (World.block_lt_of_cell? _ _ x0)] at x0
      have hik : (k : Int) < (fl : Int) := by omega
      have hi30 : (k : Int) < 30 := by omega
      have HC1 : Hid (-9223372036854775808 ≤ f k) := c1
      have HC2 : Hid (f k ≤ 9223372036854775807) := c2
      obtain ⟨ck1, ck2⟩ := clN_ok (f k)
      have HOK : Hid (ClOk (clN (f k))) := ck1
      have HE1 : Hid (clT (clsK f (k + 1)) = clT (clsK f k) ++ clN (f k) ++ [59]) := by show _ = _; rw [clsK_snoc, clT_snoc]
      have HE2 : Hid (needsT (clsK f (k + 1)) = (if 0 < k then needsT (clsK f k) ++ [44] else needsT (clsK f k)) ++ ndT (ndO (clN (f k)))) := by show _ = _; rw [clsK_snoc, needs_snoc, clsK_len]
      have hnd := nd_small ck2
      obtain ⟨cc, hcc⟩ : ∃ cc, clN (f k) = cc := ⟨_, rfl⟩
      have HCL : Hid (clN (f k) = cc) := hcc
      rw [hcc] at ck1 ck2 HOK HE1 HE2 hnd
      obtain ⟨A, hA⟩ : ∃ A, A = clT (clsK f k) := ⟨_, rfl⟩
      obtain ⟨N, hN⟩ : ∃ N, N = needsT (clsK f k) := ⟨_, rfl⟩
      rw [← hA] at HE1 l1 ⊢
      rw [← hN] at HE2 l2 ⊢
      have sA : (bs A).size = A.length := bs_size A
      have sN : (bs N).size = N.length := bs_size N
      have sC : (bs cc).size = cc.length := bs_size cc
      have sD : (bs (ndT (ndO cc))).size = (ndT (ndO cc)).length := bs_size _
      have HF1 : Hid (bs A ++ bs cc ++ bs [59] = bs (clT (clsK f (k + 1)))) := by show _ = _; rw [HE1.out, bs_app, bs_app]
      clear hb c1 c2 ck1 hA hN hcc
      by_cases h0 : 0 < k
      · have z0 : (0 : Int) < (k : Int) := by omega
        have HF2 : Hid (bs N ++ bs [44] ++ bs (ndT (ndO cc)) = bs (needsT (clsK f (k + 1)))) := by show _ = _; rw [HE2.out, if_pos h0, bs_app, bs_app]
        go_wp2_with fail
        refine (keep_clause (f k) _ HC1.out HC2.out).mono ?_
        rintro e w1 ⟨rfl, hb1⟩
        rw [HCL.out]
        have HB1 : Hid (Below w.heap.size w w1) := HB.out.trans (hb1.mono hbs)
        clear hb1
        go_wp2_with fail
        refine (keep_need cc _ ck2 HOK.out.rl).mono ?_
        rintro e w2 ⟨rfl, hb2⟩
        have HB2 : Hid (Below w.heap.size w w2) := HB1.out.trans (hb2.mono HB1.out.size)
        clear hb2
        go_wp2
        go_roundw
        case rel => exact ⟨k + 1, by omega, by omega, by go_num, congrArg Value.string HF1.out, congrArg Value.string HF2.out, HB2.out⟩
        case measure => simp [intOf]; omega
      · have z0 : ¬ (0 : Int) < (k : Int) := by omega
        have HF2 : Hid (bs N ++ bs (ndT (ndO cc)) = bs (needsT (clsK f (k + 1)))) := by show _ = _; rw [HE2.out, if_neg h0, bs_app]
        go_wp2_with fail
        refine (keep_clause (f k) _ HC1.out HC2.out).mono ?_
        rintro e w1 ⟨rfl, hb1⟩
        rw [HCL.out]
        have HB1 : Hid (Below w.heap.size w w1) := HB.out.trans (hb1.mono hbs)
        clear hb1
        go_wp2_with fail
        refine (keep_need cc _ ck2 HOK.out.rl).mono ?_
        rintro e w2 ⟨rfl, hb2⟩
        have HB2 : Hid (Below w.heap.size w w2) := HB1.out.trans (hb2.mono HB1.out.size)
        clear hb2
        go_wp2
        go_roundw
        case rel => exact ⟨k + 1, by omega, by omega, by go_num, congrArg Value.string HF1.out, congrArg Value.string HF2.out, HB2.out⟩
        case measure => simp [intOf]; omega
    · have hx : fl ≤ k ∨ (k < fl ∧ 30 ≤ k) := by omega
      have hq : (¬ (k : Int) < (fl : Int) ∧ True) ∨ ((k : Int) < (fl : Int) ∧ ¬ (k : Int) < 30) := by
        rcases hx with g | ⟨g1, g2⟩
        · exact Or.inl ⟨by omega, trivial⟩
        · exact Or.inr ⟨by omega, by omega⟩
      clear hb hgo hx
      obtain ⟨A, hA⟩ : ∃ A, A = clT (clsK f k) := ⟨_, rfl⟩
      obtain ⟨N, hN⟩ : ∃ N, N = needsT (clsK f k) := ⟨_, rfl⟩
      have HRT : Hid (bs (twK 6) ++ { data := #[113, 49, 58] } ++ bs N ++ { data := #[58, 58, 59, 47, 113, 47, 47] } = bs (redT (clsK f k))) := by show _ = _; rw [hN]; exact red_text _
      have HAE : Hid (A = clT (clsK f k)) := hA
      rw [← hA] at l1 ⊢
      rw [← hN] at l2 ⊢
      have sA : (bs A).size = A.length := bs_size A
      have sN : (bs N).size = N.length := bs_size N
      clear hA hN
      rcases hq with ⟨q1, q2⟩ | ⟨q1, q2⟩
      all_goals
        go_wp2
        clear q1 q2
        go_loop [9, 10] (fun dd i => ∃ (j : Nat), j ≤ 6 ∧ i = .int .i64 j ∧ dd = .string (bs (twK j))) (fun _ i => 6 - (intOf i).toNat)
        case atStart => exact ⟨0, by omega, rfl, rfl⟩
        case round =>
          obtain ⟨j, hj, rfl, rfl⟩ := hrel
          by_cases hlt : j < 6
          · have : j = 0 ∨ j = 1 ∨ j = 2 ∨ j = 3 ∨ j = 4 ∨ j = 5 := by omega
            clear hlt hj
            rcases this with rfl | rfl | rfl | rfl | rfl | rfl
            · have sT : (bs (twK 0)).size = 0 := by decide +kernel
              go_wp2
              go_round
              case rel => exact ⟨1, by omega, rfl, congrArg Value.string (by decide +kernel)⟩
              case measure => simp [intOf]
            · have sT : (bs (twK 1)).size = 18 := by decide +kernel
              go_wp2
              go_round
              case rel => exact ⟨2, by omega, rfl, congrArg Value.string (by decide +kernel)⟩
              case measure => simp [intOf]
            · have sT : (bs (twK 2)).size = 36 := by decide +kernel
              go_wp2
              go_round
              case rel => exact ⟨3, by omega, rfl, congrArg Value.string (by decide +kernel)⟩
              case measure => simp [intOf]
            · have sT : (bs (twK 3)).size = 54 := by decide +kernel
              go_wp2
              go_round
              case rel => exact ⟨4, by omega, rfl, congrArg Value.string (by decide +kernel)⟩
              case measure => simp [intOf]
            · have sT : (bs (twK 4)).size = 72 := by decide +kernel
              go_wp2
              go_round
              case rel => exact ⟨5, by omega, rfl, congrArg Value.string (by decide +kernel)⟩
              case measure => simp [intOf]
            · have sT : (bs (twK 5)).size = 90 := by decide +kernel
              go_wp2
              go_round
              case rel => exact ⟨6, by omega, rfl, congrArg Value.string (by decide +kernel)⟩
              case measure => simp [intOf]
          · have hj6 : j = 6 := by omega
            subst hj6
            have sT : (bs (twK 6)).size = 108 := by decide +kernel
            have HLAW := red_law HSP.out HCP.out HSM.out
            have hrl : (redT (clsK f k)).length ≤ 800 := (red_ok HSM.out).2.2
            have HRL : Hid ((redT (clsK f k)).length ≤ maxLen) := by show _ ≤ _; unfold maxLen; omega
            have HAL : Hid (A.length ≤ maxLen) := by show _ ≤ _; unfold maxLen; omega
            have HNL : Hid (([] : List UInt8).length ≤ maxLen) := by show _ ≤ _; simp
            have HKL : Hid (([45, 110] : List UInt8).length ≤ maxLen) := by show _ ≤ _; unfold maxLen; decide
            have HRFE : Hid (rfE A [] = 0) := by show _ = _; rw [HAE.out]; exact cl_rf HSM.out
            rw [← HAE.out] at HLAW
            have HSl := HCP.out.len (redT (clsK f k)) [45, 110]
            have HLA : Hid ((BS A [] = false → E (redT (clsK f k)) [45, 110] = 7 ∧ T (redT (clsK f k)) [45, 110] = []) ∧
              (BS A [] = true → E (redT (clsK f k)) [45, 110] = 0 ∧ inB (T (redT (clsK f k)) [45, 110]) [b8 113, b8 49] = true ∧
                (∀ v, v < 6 → ¬ (inB (T (redT (clsK f k)) [45, 110]) [b8 (97 + v), b8 49] = true ∧ inB (T (redT (clsK f k)) [45, 110]) [b8 (97 + v), b8 50] = true)) ∧
                ∀ c ∈ clsK f k, ∃ y ∈ c, inB (T (redT (clsK f k)) [45, 110]) [b8 (97 + litV y.toNat), b8 (lvN y.toNat)] = true)) := HLAW
            clear HLAW hlt hj hrl
            obtain ⟨S, hS⟩ : ∃ S, S = T (redT (clsK f k)) [45, 110] := ⟨_, rfl⟩
            have HSE : Hid (T (redT (clsK f k)) [45, 110] = S) := hS.symm
            rw [← hS] at HLA HSl
            clear hS
            cases hB : BS A [] with
            | false =>
              have HBB : Hid (BS A [] = false) := hB
              obtain ⟨v1, v2⟩ := HLA.out.1 hB
              have V1 : Hid (E (redT (clsK f k)) [45, 110] = 7) := v1
              have V2 : Hid (S = []) := v2
              have n1 : (((bs []).toList == []) : Bool) = true := by rw [tl]; rfl
              have n2 : (bs []).toList.isEmpty = true := by rw [tl]; rfl
              clear HLA v1 v2 hB
              go_wp2_with fail
              refine (HSC.out A [] _ HAL.out HNL.out).mono ?_
              rintro e w3 ⟨rfl, hb3⟩
              rw [HRFE.out, HBB.out]
              have HB3 : Hid (Below w.heap.size w w3) := HB.out.trans (hb3.mono hbs)
              clear hb3
              go_wp2_with fail
              rw [HRT.out]
              refine (HCC.out (redT (clsK f k)) [45, 110] _ HRL.out HKL.out).mono ?_
              rintro e w4 ⟨rfl, hb4⟩
              rw [V1.out, HSE.out, V2.out]
              have HB4 : Hid (Below w.heap.size w w4) := HB3.out.trans (hb4.mono HB3.out.size)
              clear hb4
              go_wp2
              go_ret
              exact ⟨by simp, HB4.out⟩
            | true =>
              have HBB : Hid (BS A [] = true) := hB
              obtain ⟨v1, v2, v3, v4⟩ := HLA.out.2 hB
              have V1 : Hid (E (redT (clsK f k)) [45, 110] = 0) := v1
              have V2 : Hid (inB S [113, 49] = true) := v2
              have V3 : Hid (∀ v, v < 6 → ¬ (inB S [b8 (97 + v), b8 49] = true ∧ inB S [b8 (97 + v), b8 50] = true)) := v3
              have V4 : Hid (∀ c ∈ clsK f k, ∃ y ∈ c, inB S [b8 (97 + litV y.toNat), b8 (lvN y.toNat)] = true) := v4
              clear HLA v1 v2 v3 v4 hB
              go_wp2_with fail
              refine (HSC.out A [] _ HAL.out HNL.out).mono ?_
              rintro e w3 ⟨rfl, hb3⟩
              rw [HRFE.out, HBB.out]
              have HB3 : Hid (Below w.heap.size w w3) := HB.out.trans (hb3.mono hbs)
              clear hb3
              go_wp2_with fail
              rw [HRT.out]
              refine (HCC.out (redT (clsK f k)) [45, 110] _ HRL.out HKL.out).mono ?_
              rintro e w4 ⟨rfl, hb4⟩
              rw [V1.out, HSE.out]
              have HB4 : Hid (Below w.heap.size w w4) := HB3.out.trans (hb4.mono HB3.out.size)
              clear hb4
              go_wp2_with fail
              refine (keep_chosen S [113, 49] _ HSl).mono ?_
              rintro e w5 ⟨rfl, rfl⟩
              rw [V2.out]
              go_wp2
              go_loop [18, 19, 20] (fun x y i => ∃ (v a b : Nat), v ≤ 6 ∧ a < 2 ^ v ∧ b < 2 ^ v ∧ i = .int .i64 (v : Int) ∧ x = .int .i64 (a : Int) ∧ y = .int .i64 (b : Int) ∧ Hid (∀ u, u < v → a.testBit u = inB S [b8 (97 + u), b8 50] ∧ b.testBit u = (inB S [b8 (97 + u), b8 49] || inB S [b8 (97 + u), b8 50]))) (fun _ _ i => 6 - (intOf i).toNat)
              case atStart => exact ⟨0, 0, 0, by omega, by decide, by decide, rfl, rfl, rfl, fun u hu => by omega⟩
              case round =>
                obtain ⟨v, a, b, hv, ha, hb, rfl, rfl, rfl, HQ⟩ := hrel
                by_cases hlt : v < 6
                · have e1 : (v : Int) < 6 := by omega
                  have HX1 : Hid (({ data := #[97, 98, 99, 100, 101, 102] } : ByteArray).extract v (v + 1) ++ { data := #[49] } = bs [b8 (97 + v), b8 49]) := abc1 hlt
                  have HX2 : Hid (({ data := #[97, 98, 99, 100, 101, 102] } : ByteArray).extract v (v + 1) ++ { data := #[50] } = bs [b8 (97 + v), b8 50]) := abc2 hlt
                  have hp6 : 2 ^ v ≤ 64 := Nat.le_trans (Nat.pow_le_pow_right (by omega) hv) (by decide)
                  have hp63 : 2 ^ v < 9223372036854775808 := by omega
                  have hsa : bits BinOp.or IntKind.i64 (a : Int) (wrap64 (2 ^ v)) = ((a ||| 2 ^ v : Nat) : Int) := by
                    rw [← or_i64_nat a (2 ^ v) (by omega) hp63, pow_cast, wrap64_fit (Int.natCast_nonneg _) (Int.ofNat_lt.2 hp63)]
                  have hsb : bits BinOp.or IntKind.i64 (b : Int) (wrap64 (2 ^ v)) = ((b ||| 2 ^ v : Nat) : Int) := by
                    rw [← or_i64_nat b (2 ^ v) (by omega) hp63, pow_cast, wrap64_fit (Int.natCast_nonneg _) (Int.ofNat_lt.2 hp63)]
                  have hno := V3.out v hlt
                  cases h1 : inB S [b8 (97 + v), b8 49] <;> cases h2 : inB S [b8 (97 + v), b8 50]
                  · clear hno
                    have O1 : Hid (inB S [b8 (97 + v), b8 49] = false) := h1
                    have O2 : Hid (inB S [b8 (97 + v), b8 50] = false) := h2
                    have HQ2 : Hid (∀ u, u < v + 1 → (a).testBit u = inB S [b8 (97 + u), b8 50] ∧ (b).testBit u = (inB S [b8 (97 + u), b8 49] || inB S [b8 (97 + u), b8 50])) := by
                      intro u hu
                      rcases Nat.lt_or_ge u v with g | g
                      · have hne : decide (v = u) = false := by simp; omega
                        obtain ⟨k1, k2⟩ := HQ.out u g
                        constructor
                        · first | exact k1 | (rw [Nat.testBit_or, Nat.testBit_two_pow, hne, Bool.or_false]; exact k1)
                        · first | exact k2 | (rw [Nat.testBit_or, Nat.testBit_two_pow, hne, Bool.or_false]; exact k2)
                      · have huv : u = v := by omega
                        subst huv
                        rw [h1, h2]
                        constructor
                        · first | exact Nat.testBit_lt_two_pow ha | (rw [Nat.testBit_or, Nat.testBit_two_pow]; simp)
                        · first | exact Nat.testBit_lt_two_pow hb | (rw [Nat.testBit_or, Nat.testBit_two_pow]; simp)
                    have HLT : Hid ((a) < 2 ^ (v + 1) ∧ (b) < 2 ^ (v + 1)) := by
                      have p1 : 2 ^ v < 2 ^ (v + 1) := Nat.pow_lt_pow_right (by omega) (by omega)
                      exact ⟨by first | omega | exact Nat.or_lt_two_pow (by omega) p1, by first | omega | exact Nat.or_lt_two_pow (by omega) p1⟩
                    clear h1 h2 ha hb
                    go_wp2_with fail
                    rw [HX1.out]
                    refine (keep_chosen S [b8 (97 + v), b8 49] _ HSl).mono ?_
                    rintro e w6 ⟨rfl, rfl⟩
                    rw [O1.out]
                    go_wp2_with fail
                    rw [HX2.out]
                    refine (keep_chosen S [b8 (97 + v), b8 50] _ HSl).mono ?_
                    rintro e w6 ⟨rfl, rfl⟩
                    rw [O2.out]
                    go_wp2
                    go_round
                    case rel => exact ⟨v + 1, a, b, by omega, HLT.out.1, HLT.out.2, by go_num, by first | rfl | rw [hsa], by first | rfl | rw [hsb], HQ2⟩
                    case measure => simp [intOf]; omega
                  · clear hno
                    have O1 : Hid (inB S [b8 (97 + v), b8 49] = false) := h1
                    have O2 : Hid (inB S [b8 (97 + v), b8 50] = true) := h2
                    have HQ2 : Hid (∀ u, u < v + 1 → (a ||| 2 ^ v).testBit u = inB S [b8 (97 + u), b8 50] ∧ (b ||| 2 ^ v).testBit u = (inB S [b8 (97 + u), b8 49] || inB S [b8 (97 + u), b8 50])) := by
                      intro u hu
                      rcases Nat.lt_or_ge u v with g | g
                      · have hne : decide (v = u) = false := by simp; omega
                        obtain ⟨k1, k2⟩ := HQ.out u g
                        constructor
                        · first | exact k1 | (rw [Nat.testBit_or, Nat.testBit_two_pow, hne, Bool.or_false]; exact k1)
                        · first | exact k2 | (rw [Nat.testBit_or, Nat.testBit_two_pow, hne, Bool.or_false]; exact k2)
                      · have huv : u = v := by omega
                        subst huv
                        rw [h1, h2]
                        constructor
                        · first | exact Nat.testBit_lt_two_pow ha | (rw [Nat.testBit_or, Nat.testBit_two_pow]; simp)
                        · first | exact Nat.testBit_lt_two_pow hb | (rw [Nat.testBit_or, Nat.testBit_two_pow]; simp)
                    have HLT : Hid ((a ||| 2 ^ v) < 2 ^ (v + 1) ∧ (b ||| 2 ^ v) < 2 ^ (v + 1)) := by
                      have p1 : 2 ^ v < 2 ^ (v + 1) := Nat.pow_lt_pow_right (by omega) (by omega)
                      exact ⟨by first | omega | exact Nat.or_lt_two_pow (by omega) p1, by first | omega | exact Nat.or_lt_two_pow (by omega) p1⟩
                    clear h1 h2 ha hb
                    go_wp2_with fail
                    rw [HX1.out]
                    refine (keep_chosen S [b8 (97 + v), b8 49] _ HSl).mono ?_
                    rintro e w6 ⟨rfl, rfl⟩
                    rw [O1.out]
                    go_wp2_with fail
                    rw [HX2.out]
                    refine (keep_chosen S [b8 (97 + v), b8 50] _ HSl).mono ?_
                    rintro e w6 ⟨rfl, rfl⟩
                    rw [O2.out]
                    go_wp2
                    go_round
                    case rel => exact ⟨v + 1, a ||| 2 ^ v, b ||| 2 ^ v, by omega, HLT.out.1, HLT.out.2, by go_num, by first | rfl | rw [hsa], by first | rfl | rw [hsb], HQ2⟩
                    case measure => simp [intOf]; omega
                  · clear hno
                    have O1 : Hid (inB S [b8 (97 + v), b8 49] = true) := h1
                    have O2 : Hid (inB S [b8 (97 + v), b8 50] = false) := h2
                    have HQ2 : Hid (∀ u, u < v + 1 → (a).testBit u = inB S [b8 (97 + u), b8 50] ∧ (b ||| 2 ^ v).testBit u = (inB S [b8 (97 + u), b8 49] || inB S [b8 (97 + u), b8 50])) := by
                      intro u hu
                      rcases Nat.lt_or_ge u v with g | g
                      · have hne : decide (v = u) = false := by simp; omega
                        obtain ⟨k1, k2⟩ := HQ.out u g
                        constructor
                        · first | exact k1 | (rw [Nat.testBit_or, Nat.testBit_two_pow, hne, Bool.or_false]; exact k1)
                        · first | exact k2 | (rw [Nat.testBit_or, Nat.testBit_two_pow, hne, Bool.or_false]; exact k2)
                      · have huv : u = v := by omega
                        subst huv
                        rw [h1, h2]
                        constructor
                        · first | exact Nat.testBit_lt_two_pow ha | (rw [Nat.testBit_or, Nat.testBit_two_pow]; simp)
                        · first | exact Nat.testBit_lt_two_pow hb | (rw [Nat.testBit_or, Nat.testBit_two_pow]; simp)
                    have HLT : Hid ((a) < 2 ^ (v + 1) ∧ (b ||| 2 ^ v) < 2 ^ (v + 1)) := by
                      have p1 : 2 ^ v < 2 ^ (v + 1) := Nat.pow_lt_pow_right (by omega) (by omega)
                      exact ⟨by first | omega | exact Nat.or_lt_two_pow (by omega) p1, by first | omega | exact Nat.or_lt_two_pow (by omega) p1⟩
                    clear h1 h2 ha hb
                    go_wp2_with fail
                    rw [HX1.out]
                    refine (keep_chosen S [b8 (97 + v), b8 49] _ HSl).mono ?_
                    rintro e w6 ⟨rfl, rfl⟩
                    rw [O1.out]
                    go_wp2_with fail
                    rw [HX2.out]
                    refine (keep_chosen S [b8 (97 + v), b8 50] _ HSl).mono ?_
                    rintro e w6 ⟨rfl, rfl⟩
                    rw [O2.out]
                    go_wp2
                    go_round
                    case rel => exact ⟨v + 1, a, b ||| 2 ^ v, by omega, HLT.out.1, HLT.out.2, by go_num, by first | rfl | rw [hsa], by first | rfl | rw [hsb], HQ2⟩
                    case measure => simp [intOf]; omega
                  · exact absurd ⟨h1, h2⟩ hno
                · have hv6 : v = 6 := by omega
                  subst hv6
                  have e1 : ¬ ((6 : Nat) : Int) < 6 := by omega
                  have HCV : Hid (cvG (bitF (a : Int)) (bitF (b : Int)) false A = true) := by
                    show _ = _
                    rw [HAE.out]
                    refine cv_ok _ _ _ HSM.out.ok fun c hc => ?_
                    obtain ⟨y, hy, g⟩ := V4.out c hc
                    have hrl := (HSM.out.ok c hc).rl y hy
                    have hv6 := rl_var hrl
                    obtain ⟨k1, k2⟩ := HQ.out _ hv6
                    refine ⟨y, hy, ?_, ?_⟩
                    · unfold trB
                      rw [bit_test, k1]
                      unfold lvN at g
                      cases hs : litS y.toNat with
                      | true =>
                        rw [hs] at g
                        simp only [if_true] at g
                        rw [g]
                        rfl
                      | false =>
                        rw [hs] at g
                        simp only [Bool.false_eq_true, if_false] at g
                        cases e : inB S [b8 (97 + litV y.toNat), b8 50] with
                        | false => rfl
                        | true => exact absurd ⟨g, e⟩ (V3.out _ hv6)
                    · rw [bit_test, k2]
                      unfold lvN at g
                      split at g
                      · rw [g]; simp
                      · rw [g]; rfl
                  have HCC2 : Hid (∀ y ∈ A, clB y.toNat = true) := by show ∀ y ∈ A, clB y.toNat = true; rw [HAE.out]; exact cl_cl HSM.out.ok
                  clear ha hb hlt hv
                  go_wp2_with fail
                  refine (keep_covered A a b _ (by omega) HCC2.out).mono ?_
                  rintro e w6 ⟨rfl, rfl⟩
                  rw [HCV.out]
                  go_wp2
                  go_ret
                  exact ⟨rfl, HB4.out⟩

end Go.Proofs.YtenbnmbbfeekpabGreatDoor
