import Derived.Test.YtenbnmbbfeekpaaSvC
import Derived.Test.YtenbnmbbfeekpaaXV

namespace Go.Proofs.Ytenbnmbbfeekpaa
open Go.RowKit

theorem andNot_u64 (a b : Nat) (ha : a < 18446744073709551616) (hb : b < 18446744073709551616) : bits .andNot .u64 (a : Int) (b : Int) = ((adN a b : Nat) : Int) := by
  have h1 : (BitVec.ofInt 64 (a : Int)).toNat = a := by
    rw [BitVec.ofInt_natCast, BitVec.toNat_ofNat]; exact Nat.mod_eq_of_lt (by omega)
  have h2 : (BitVec.ofInt 64 (b : Int)).toNat = b := by
    rw [BitVec.ofInt_natCast, BitVec.toNat_ofNat]; exact Nat.mod_eq_of_lt (by omega)
  have hx : adN a b < 2 ^ 64 := adN_lt (by omega)
  show IntKind.u64.wrap ((BitVec.ofInt 64 (a : Int) &&& ~~~ BitVec.ofInt 64 (b : Int)).toNat : Int) = _
  have e : (BitVec.ofInt 64 (a : Int) &&& ~~~ BitVec.ofInt 64 (b : Int)).toNat = adN a b := by
    rw [BitVec.toNat_and, BitVec.toNat_not, h1, h2]
    apply Nat.eq_of_testBit_eq
    intro i
    rw [Nat.testBit_and, adN_test, show 2 ^ 64 - 1 - b = 2 ^ 64 - (b + 1) by omega, Nat.testBit_two_pow_sub_succ (by omega)]
    by_cases hi : a.testBit i = true
    · have : i < 64 := bit_lt (n := 64) (by omega) hi
      rw [show decide (i < 64) = true by simpa using this]
      rfl
    · have hi' : a.testBit i = false := by simpa using hi
      rw [hi']; rfl
  rw [e, IntKind.wrap_u64]
  omega

theorem wrap_pow64 {n : Nat} (h : n < 64) : IntKind.u64.wrap ((2 : Int) ^ n) = ((2 ^ n : Nat) : Int) := by
  have h2 : 2 ^ n < 2 ^ 64 := Nat.pow_lt_pow_right (by omega) h
  rw [pow_cast, IntKind.wrap_u64]
  generalize 2 ^ n = P at h2
  omega
theorem lit_pos {c : Nat} : litN c ≠ 0 ↔ litB c = true := by
  rw [Ne, litN_zero]; simp

set_option maxHeartbeats 800000 in
theorem sv_literal (x : Nat) (hx : x < 256) (w : World) : Calls Try.prog 18 #[.int .u8 x] w fun e w' => e = .returned (.int .u64 (litN x : Nat)) ∧ w' = w := by
  by_cases h1 : 65 ≤ x ∧ x ≤ 90
  · have e1 : (65 : Int) ≤ (x : Int) := by omega
    have e2 : (x : Int) ≤ 90 := by omega
    have HF : Hid (litN x = 2 ^ (x - 65)) := by show _ = _; unfold litN; rw [if_pos h1]
    go_enter Try.func18, Try.ntmps18
    go_wp2
    go_ret
    refine ⟨congrArg (fun z => Ending.returned (.int .u64 z)) ?_, rfl⟩
    rw [HF.out]
    exact wrap_pow64 (by omega)
  · by_cases h2 : 97 ≤ x ∧ x ≤ 122
    · have e1 : (65 : Int) ≤ (x : Int) := by omega
      have e2 : ¬ (x : Int) ≤ 90 := by omega
      have e3 : (97 : Int) ≤ (x : Int) := by omega
      have e4 : (x : Int) ≤ 122 := by omega
      have HF : Hid (litN x = 2 ^ (x - 71)) := by show _ = _; unfold litN; rw [if_neg h1, if_pos h2]
      go_enter Try.func18, Try.ntmps18
      go_wp2
      go_ret
      refine ⟨congrArg (fun z => Ending.returned (.int .u64 z)) ?_, rfl⟩
      rw [HF.out, show x - 97 + 26 = x - 71 by omega]
      exact wrap_pow64 (by omega)
    · have HF : Hid (litN x = 0) := by show _ = _; unfold litN; rw [if_neg h1, if_neg h2]
      by_cases h3 : 65 ≤ x
      · have e1 : (65 : Int) ≤ (x : Int) := by omega
        have e2 : ¬ (x : Int) ≤ 90 := by omega
        by_cases h4 : 97 ≤ x
        · have e3 : (97 : Int) ≤ (x : Int) := by omega
          have e4 : ¬ (x : Int) ≤ 122 := by omega
          go_enter Try.func18, Try.ntmps18
          go_wp2
          go_ret
          exact ⟨congrArg (fun z => Ending.returned (.int .u64 z)) (by rw [HF.out]; rfl), rfl⟩
        · have e3 : ¬ (97 : Int) ≤ (x : Int) := by omega
          go_enter Try.func18, Try.ntmps18
          go_wp2
          go_ret
          exact ⟨congrArg (fun z => Ending.returned (.int .u64 z)) (by rw [HF.out]; rfl), rfl⟩
      · have e1 : ¬ (65 : Int) ≤ (x : Int) := by omega
        have e3 : ¬ (97 : Int) ≤ (x : Int) := by omega
        go_enter Try.func18, Try.ntmps18
        go_wp2
        go_ret
        exact ⟨congrArg (fun z => Ending.returned (.int .u64 z)) (by rw [HF.out]; rfl), rfl⟩

theorem opp_u64 {s : Nat} (hs : s < 2 ^ 52) : bits .or .u64 ((s : Int) / 67108864) (IntKind.u64.wrap (bits .and .u64 (s : Int) 67108863 * 67108864)) = ((oppN s : Nat) : Int) := by
  have e1 : bits .and .u64 (s : Int) 67108863 = ((s &&& 67108863 : Nat) : Int) := bits_and_u64_nat s 67108863 (by omega) (by decide)
  have h1 : s &&& 67108863 ≤ 67108863 := Nat.and_le_right
  have e2 : IntKind.u64.wrap (((s &&& 67108863 : Nat) : Int) * 67108864) = (((s &&& 67108863) * 67108864 : Nat) : Int) := by
    rw [IntKind.wrap_u64]
    omega
  have e3 : (s : Int) / 67108864 = ((s / 67108864 : Nat) : Int) := by omega
  rw [e1, e2, e3, bits_or_u64_nat _ _ (by omega) (by omega)]
  rfl
theorem fst_u64 {s : Nat} (hs : s < 2 ^ 52) : bits .and .u64 (s : Int) (IntKind.u64.wrap (-(s : Int))) = ((fstN s : Nat) : Int) := by
  by_cases h : s = 0
  · subst h
    have e : IntKind.u64.wrap (-((0 : Nat) : Int)) = ((0 : Nat) : Int) := by rw [IntKind.wrap_u64]; rfl
    rw [e, bits_and_u64_nat _ _ (by decide) (by decide)]
    rfl
  · have e : IntKind.u64.wrap (-(s : Int)) = ((18446744073709551616 - s : Nat) : Int) := by rw [IntKind.wrap_u64]; omega
    rw [e, bits_and_u64_nat _ _ (by omega) (by omega)]
    rfl

set_option maxHeartbeats 800000 in
theorem Set_opposites (s : Nat) (hs : s < 2 ^ 52) (w : World) : Calls Try.prog 19 #[.int .u64 s] w fun e w' => e = .returned (.int .u64 (oppN s : Nat)) ∧ w' = w := by
  go_enter Try.func19, Try.ntmps19
  go_wp2
  go_ret
  exact ⟨congrArg (fun z => Ending.returned (.int .u64 z)) (opp_u64 hs), rfl⟩

set_option maxHeartbeats 800000 in
theorem Set_first (s : Nat) (hs : s < 2 ^ 52) (w : World) : Calls Try.prog 24 #[.int .u64 s] w fun e w' => e = .returned (.int .u64 (fstN s : Nat)) ∧ w' = w := by
  go_enter Try.func24, Try.ntmps24
  go_wp2
  go_ret
  exact ⟨congrArg (fun z => Ending.returned (.int .u64 z)) (fst_u64 hs), rfl⟩

set_option maxHeartbeats 1600000 in
theorem Set_size (s : Nat) (hs : s < 2 ^ 52) (w : World) : Calls Try.prog 25 #[.int .u64 s] w fun e w' => e = .returned (.int .i64 (sizeI s)) ∧ w' = w := by
  obtain ⟨R, hR⟩ : ∃ R, R = sizeI s := ⟨_, rfl⟩
  have HR : Hid (szI s s 0 = R) := hR.symm
  rw [← hR]
  clear hR
  go_enter Try.func25, Try.ntmps25
  go_wp2
  go_loop [0, 3] (fun s' n => ∃ (k t : Nat) (c : Int), t < 2 ^ 52 ∧ t ≤ k ∧ s' = .int .u64 t ∧ n = .int .i64 c ∧ Hid (szI k t c = R)) (fun s' _ => (intOf s').toNat)
  case atStart => exact ⟨s, s, 0, hs, Nat.le_refl _, rfl, rfl, HR⟩
  case round =>
    obtain ⟨k, t, c, ht, hk, rfl, rfl, HI⟩ := hrel
    by_cases h0 : t = 0
    · subst h0
      have HF : Hid (c = R) := by
        show _ = _
        rw [← HI.out]
        cases k with
        | zero => rfl
        | succ k => rw [szI, if_pos rfl]
      clear HI
      go_wp2
      go_ret
      exact ⟨ret_int HF.out, rfl⟩
    · have e0 : ((t : Int) != 0) = true := by rw [bne_iff_ne]; omega
      obtain ⟨k', rfl⟩ : ∃ k', k = k' + 1 := ⟨k - 1, by omega⟩
      have HI2 : Hid (szI k' (adN t (fstN t)) (wrap64 (c + 1)) = R) := by
        show _ = _
        rw [← HI.out, szI, if_neg h0]
      have hd := szI_dec ht h0
      have hal := adN_lt (b := fstN t) ht
      have hfl := fstN_lt ht
      have han := andNot_u64 t (fstN t) (by omega) (by omega)
      clear HI
      go_wp2_with fail
      refine (Set_first t ht _).mono ?_
      rintro e w1 ⟨rfl, rfl⟩
      go_wp2
      go_round
      case rel => exact ⟨k', adN t (fstN t), wrap64 (c + 1), hal, by omega, rfl, rfl, HI2⟩
      case measure => simp [intOf]; omega

end Go.Proofs.Ytenbnmbbfeekpaa

namespace Go.Proofs.Ytenbnmbbfeekpaa
open Go.RowKit

/-- A row of sets in memory. -/
def UV (w : World) (ao : Option Addr) (l : List Nat) : Prop := l.length ≤ 801 ∧ (∀ c ∈ l, c < 2 ^ 52) ∧ ∀ j (h : j < l.length), ∃ g off, ao = some ⟨g, off, none⟩ ∧ g < w.heap.size ∧ w.cell? ⟨g, off + j, none⟩ = some (.int .u64 ((l[j] : Nat) : Int))
theorem UV.below {w w' : World} {ao : Option Addr} {l : List Nat} (h : UV w ao l) (hb : Below w.heap.size w w') : UV w' ao l := by
  refine ⟨h.1, h.2.1, fun j hj => ?_⟩
  obtain ⟨g, off, e, hg, x⟩ := h.2.2 j hj
  exact ⟨g, off, e, Nat.lt_of_lt_of_le hg hb.size, (hb.cell (p := ⟨g, _, none⟩) hg).trans x⟩

set_option maxHeartbeats 1600000 in
set_option maxRecDepth 100000 in
theorem sv_allLiterals (ao : Option Addr) (cap : Nat) (l : List Nat) (a : Nat) (ha : a < 2 ^ 52) (w : World) (hl : UV w ao l) :
    Calls Try.prog 21 #[.slice ao l.length cap, .int .u64 a] w fun e w' => e = .returned (.int .u64 (orL a l : Nat)) ∧ w' = w := by
  obtain ⟨h801, hcs, HC⟩ := hl
  have HCC : Hid (∀ j (h : j < l.length), ∃ g off, ao = some ⟨g, off, none⟩ ∧ g < w.heap.size ∧ w.cell? ⟨g, off + j, none⟩ = some (.int .u64 ((l[j] : Nat) : Int))) := HC
  have HS : Hid (∀ c ∈ l, c < 2 ^ 52) := hcs
  clear HC hcs
  go_enter Try.func21, Try.ntmps21
  go_wp2
  go_loop [5, 11] (fun o i => ∃ k b : Nat, k ≤ l.length ∧ b < 2 ^ 52 ∧ i = .int .i64 k ∧ o = .int .u64 b ∧ Hid (orL a l = orL b (l.drop k))) (fun _ i => l.length - (intOf i).toNat)
  case atStart => exact ⟨0, a, by omega, ha, rfl, rfl, rfl⟩
  case round =>
    obtain ⟨k, b, hk, hb, rfl, rfl, HI⟩ := hrel
    by_cases hlt : k < l.length
    · obtain ⟨g, off, rfl, hg, x0⟩ := HCC.out k hlt
      have hc := HS.out _ (List.getElem_mem hlt)
      have HD : Hid (orL a l = orL (b ||| l[k]) (l.drop (k + 1))) := by show _ = _; rw [HI.out, List.drop_eq_getElem_cons hlt, orL]
      clear HI
      generalize l[k] = c at *
      have ho := bits_or_u64_nat b c (by omega) (by omega)
      have hol := or_lt hb hc
      go_wp2
      go_round
      case rel => exact ⟨k + 1, b ||| c, by omega, hol, by go_num, rfl, HD⟩
      case measure => simp [intOf]; omega
    · have HF : Hid (b = orL a l) := by show _ = _; rw [HI.out, List.drop_of_length_le (by omega)]; rfl
      go_wp2
      go_ret
      exact ⟨ret_int (by rw [HF.out]), rfl⟩

set_option maxHeartbeats 1600000 in
theorem sv_unsaid (l s : Nat) (hl : l < 2 ^ 52) (hs : s < 2 ^ 52) (w : World) :
    Calls Try.prog 22 #[.int .u64 l, .int .u64 s] w fun e w' => e = .returned (.int .u64 (unsd l s : Nat)) ∧ w' = w := by
  have h1 := oppN_lt hl
  have h2 := oppN_lt hs
  have h3 := or_lt hl h1
  have h4 := or_lt hs h2
  have h5 : (l ||| oppN l) &&& 67108863 < 2 ^ 52 := and_lt h3
  have o1 := bits_or_u64_nat l (oppN l) (by omega) (by omega)
  have o2 := bits_or_u64_nat s (oppN s) (by omega) (by omega)
  have a1 : bits .and .u64 ((l ||| oppN l : Nat) : Int) 67108863 = (((l ||| oppN l) &&& 67108863 : Nat) : Int) := bits_and_u64_nat _ 67108863 (by omega) (by decide)
  have a2 := andNot_u64 ((l ||| oppN l) &&& 67108863) (s ||| oppN s) (by omega) (by omega)
  have HF : Hid (unsd l s = adN ((l ||| oppN l) &&& 67108863) (s ||| oppN s)) := rfl
  go_enter Try.func22, Try.ntmps22
  go_wp2_with fail
  refine (Set_opposites l hl _).mono ?_
  rintro e w1 ⟨rfl, rfl⟩
  go_wp2_with fail
  refine (Set_opposites s hs _).mono ?_
  rintro e w1 ⟨rfl, rfl⟩
  go_wp2
  go_ret
  exact ⟨ret_int (by rw [HF.out]), rfl⟩

set_option maxHeartbeats 3200000 in
set_option maxRecDepth 100000 in
theorem sv_tightest (ao : Option Addr) (cap : Nat) (l : List Nat) (m : Nat) (hm : m < 2 ^ 52) (w : World) (hl : UV w ao l) :
    Calls Try.prog 23 #[.slice ao l.length cap, .int .u64 m] w fun e w' => e = .returned (.int .i64 (tight l m : Nat)) ∧ w' = w := by
  obtain ⟨h801, hcs, HC⟩ := hl
  have HCC : Hid (∀ j (h : j < l.length), ∃ g off, ao = some ⟨g, off, none⟩ ∧ g < w.heap.size ∧ w.cell? ⟨g, off + j, none⟩ = some (.int .u64 ((l[j] : Nat) : Int))) := HC
  have HS : Hid (∀ c ∈ l, c < 2 ^ 52) := hcs
  obtain ⟨R, hR⟩ : ∃ R, R = tight l m := ⟨_, rfl⟩
  have HR : Hid (tgN m l.length l 0 l.length 0 = R) := hR.symm
  rw [← hR]
  clear HC hcs hR
  have hom := oppN_lt hm
  go_enter Try.func23, Try.ntmps23
  go_wp2
  go_loop [5, 6, 15] (fun o z i => ∃ (k fd : Nat) (fw : Int), k ≤ l.length ∧ fd ≤ l.length ∧ i = .int .i64 k ∧ o = .int .i64 fd ∧ z = .int .i64 fw ∧ Hid (tgN m l.length (l.drop k) k fd fw = R)) (fun _ _ i => l.length - (intOf i).toNat)
  case atStart => exact ⟨0, l.length, 0, by omega, Nat.le_refl _, rfl, rfl, rfl, HR⟩
  case round =>
    obtain ⟨k, fd, fw, hk, hfd, rfl, rfl, rfl, HI⟩ := hrel
    by_cases hlt : k < l.length
    · obtain ⟨g, off, rfl, hg, x0⟩ := HCC.out k hlt
      have hc := HS.out _ (List.getElem_mem hlt)
      have HD : Hid ((if skB m l[k] then tgN m l.length (l.drop (k + 1)) (k + 1) fd fw
          else if fd = l.length ∨ sizeI (adN l[k] (oppN m)) < fw then tgN m l.length (l.drop (k + 1)) (k + 1) k (sizeI (adN l[k] (oppN m)))
          else tgN m l.length (l.drop (k + 1)) (k + 1) fd fw) = R) := by
        show _ = _; rw [← HI.out, List.drop_eq_getElem_cons hlt, tgN]
      clear HI
      generalize l[k] = c at *
      have hoc := oppN_lt hc
      have a1 := bits_and_u64_nat c m (by omega) (by omega)
      have a2 := bits_and_u64_nat c (oppN c) (by omega) (by omega)
      have a3 := andNot_u64 c (oppN m) (by omega) (by omega)
      have hal := adN_lt (b := oppN m) hc
      by_cases h1 : c &&& m ≠ 0
      · have e1 : (((c &&& m : Nat) : Int) != 0) = true := by rw [bne_iff_ne]; omega
        have HE : Hid (tgN m l.length (l.drop (k + 1)) (k + 1) fd fw = R) := by
          show _ = _
          have : skB m c = true := by unfold skB; simp [h1]
          rw [← HD.out, this]; rfl
        clear HD h1
        go_wp2
        go_round
        case rel => exact ⟨k + 1, fd, fw, by omega, hfd, by go_num, rfl, rfl, HE⟩
        case measure => simp [intOf]; omega
      · have e1 : (((c &&& m : Nat) : Int) != 0) = false := by rw [bne_eq_false_iff_eq]; omega
        by_cases h2 : c &&& oppN c ≠ 0
        · have e2 : (((c &&& oppN c : Nat) : Int) != 0) = true := by rw [bne_iff_ne]; omega
          have HE : Hid (tgN m l.length (l.drop (k + 1)) (k + 1) fd fw = R) := by
            show _ = _
            have : skB m c = true := by unfold skB; simp [h2]
            rw [← HD.out, this]; rfl
          clear HD h1 h2
          go_wp2_with fail
          refine (Set_opposites c hc _).mono ?_
          rintro e w1 ⟨rfl, rfl⟩
          go_wp2
          go_round
          case rel => exact ⟨k + 1, fd, fw, by omega, hfd, by go_num, rfl, rfl, HE⟩
          case measure => simp [intOf]; omega
        · have e2 : (((c &&& oppN c : Nat) : Int) != 0) = false := by rw [bne_eq_false_iff_eq]; omega
          have HE : Hid ((if fd = l.length ∨ sizeI (adN c (oppN m)) < fw then tgN m l.length (l.drop (k + 1)) (k + 1) k (sizeI (adN c (oppN m))) else tgN m l.length (l.drop (k + 1)) (k + 1) fd fw) = R) := by
            show _ = _
            have : skB m c = false := by unfold skB; simp at h1 h2; simp [h1, h2]
            rw [← HD.out, this]; rfl
          clear HD h1 h2
          go_wp2_with fail
          refine (Set_opposites c hc _).mono ?_
          rintro e w1 ⟨rfl, rfl⟩
          go_wp2_with fail
          refine (Set_opposites m hm _).mono ?_
          rintro e w1 ⟨rfl, rfl⟩
          go_wp2_with fail
          refine (Set_size (adN c (oppN m)) hal _).mono ?_
          rintro e w1 ⟨rfl, rfl⟩
          generalize sizeI (adN c (oppN m)) = z at *
          by_cases h3 : fd = l.length
          · have e3 : ((fd : Int) == (l.length : Int)) = true := by rw [beq_iff_eq]; omega
            have HF : Hid (tgN m l.length (l.drop (k + 1)) (k + 1) k z = R) := by show _ = _; rw [← HE.out, if_pos (Or.inl h3)]
            clear HE h3
            go_wp2
            go_round
            case rel => exact ⟨k + 1, k, z, by omega, hk, by go_num, rfl, rfl, HF⟩
            case measure => simp [intOf]; omega
          · have e3 : ((fd : Int) == (l.length : Int)) = false := by rw [beq_eq_false_iff_ne]; omega
            by_cases h4 : z < fw
            · have HF : Hid (tgN m l.length (l.drop (k + 1)) (k + 1) k z = R) := by show _ = _; rw [← HE.out, if_pos (Or.inr h4)]
              clear HE h3
              go_wp2
              go_round
              case rel => exact ⟨k + 1, k, z, by omega, hk, by go_num, rfl, rfl, HF⟩
              case measure => simp [intOf]; omega
            · have HF : Hid (tgN m l.length (l.drop (k + 1)) (k + 1) fd fw = R) := by show _ = _; rw [← HE.out, if_neg (by rintro (g | g); exact h3 g; exact h4 g)]
              clear HE h3
              go_wp2
              go_round
              case rel => exact ⟨k + 1, fd, fw, by omega, hfd, by go_num, rfl, rfl, HF⟩
              case measure => simp [intOf]; omega
    · have HF : Hid (fd = R) := by show _ = _; rw [← HI.out, List.drop_of_length_le (by omega), tgN]
      clear HI
      go_wp2
      go_ret
      exact ⟨ret_int (by rw [HF.out]), rfl⟩

end Go.Proofs.Ytenbnmbbfeekpaa

namespace Go.Proofs.Ytenbnmbbfeekpaa
open Go.RowKit

theorem k8 (l : List UInt8) (i : Nat) (h : i < (bs l).size) (h' : i < l.length) : ((bs l)[i]'h) = l[i] := rfl

set_option maxHeartbeats 3200000 in
set_option maxRecDepth 100000 in
theorem sv_ReadAssumption (A : List UInt8) (w : World) (hA : A.length ≤ 800) :
    Calls Try.prog 13 #[.string (bs A)] w fun e w' => Below w.heap.size w w' ∧
      e = .returned (if (A.all fun x => litB x.toNat) = true then .agg #[.int .u64 (ltR 0 A : Nat), .int .i64 0] else .agg #[.int .u64 0, .int .i64 9]) := by
  have hsz : (bs A).size = A.length := bs_size A
  obtain ⟨R, hR⟩ : ∃ R, R = (if (A.all fun x => litB x.toNat) = true then Value.agg #[.int .u64 (ltR 0 A : Nat), .int .i64 0] else .agg #[.int .u64 0, .int .i64 9]) := ⟨_, rfl⟩
  rw [← hR]
  have HR : Hid ((if (A.all fun x => litB x.toNat) = true then Value.agg #[.int .u64 (ltR 0 A : Nat), .int .i64 0] else .agg #[.int .u64 0, .int .i64 9]) = R) := hR.symm
  clear hR
  have HB : Hid (Below w.heap.size w (w.alloc (.cells #[.int .u64 0, .int .i64 0] 39))) := (Below.refl _ _).alloc (Nat.le_refl _) _
  go_enter Try.func13, Try.ntmps13
  go_wp2
  go_loop [3, 4] (fun o i => ∃ k b : Nat, k ≤ A.length ∧ b < 2 ^ 52 ∧ i = .int .i64 k ∧ o = .int .u64 b ∧ Hid ((if ((A.drop k).all fun x => litB x.toNat) = true then Value.agg #[.int .u64 (ltR b (A.drop k) : Nat), .int .i64 0] else .agg #[.int .u64 0, .int .i64 9]) = R)) (fun _ i => A.length - (intOf i).toNat)
  case atStart => exact ⟨0, 0, by omega, by decide, rfl, rfl, HR⟩
  case round =>
    obtain ⟨k, b, hk, hb, rfl, rfl, HI⟩ := hrel
    by_cases hlt : k < A.length
    · have hi : (k : Int) < ((bs A).size : Int) := by rw [hsz]; omega
      obtain ⟨X, hX⟩ : ∃ X, X = A[k].toNat := ⟨_, rfl⟩
      have hX8 : X < 256 := by rw [hX]; exact UInt8.toNat_lt _
      have q0 : ∀ h, ((bs A)[k]'h).toNat = X := fun h => by rw [k8 A k h hlt, hX]
      have HD : Hid ((if (litB X && (A.drop (k + 1)).all fun x => litB x.toNat) = true then Value.agg #[.int .u64 (ltR (b ||| litN X) (A.drop (k + 1)) : Nat), .int .i64 0] else .agg #[.int .u64 0, .int .i64 9]) = R) := by
        show _ = _; rw [← HI.out, List.drop_eq_getElem_cons hlt, hX]; rfl
      clear HI hX
      cases hl : litB X with
      | false =>
        have e0 : ((litN X : Nat) : Int) = 0 := by rw [litN_zero.2 hl]; rfl
        have HF : Hid (Value.agg #[.int .u64 0, .int .i64 9] = R) := by show _ = _; rw [← HD.out, hl]; rfl
        clear HD hl
        go_wp2_with fail
        refine (sv_literal X hX8 _).mono ?_
        rintro e w1 ⟨rfl, rfl⟩
        go_wp2
        refine bodyPost_ret (v := .agg #[.int .u64 0, .int .i64 9]) ?_ rfl ⟨?_, ?_⟩
        · simp [results, Try.results13, go_sem]
        · exact (Below.refl _ _).alloc (Nat.le_refl _) _
        · rw [HF.out]
      | true =>
        have hz : litN X ≠ 0 := lit_pos.2 hl
        have e0 : (((litN X : Nat) : Int) == 0) = false := by rw [beq_eq_false_iff_ne]; omega
        have hll := litN_lt X
        have ho := bits_or_u64_nat b (litN X) (by omega) (by omega)
        have hol := or_lt hb hll
        have HF : Hid ((if ((A.drop (k + 1)).all fun x => litB x.toNat) = true then Value.agg #[.int .u64 (ltR (b ||| litN X) (A.drop (k + 1)) : Nat), .int .i64 0] else .agg #[.int .u64 0, .int .i64 9]) = R) := by show _ = _; rw [← HD.out, hl, Bool.true_and]
        clear HD hl hz
        go_wp2_with fail
        refine (sv_literal X hX8 _).mono ?_
        rintro e w1 ⟨rfl, rfl⟩
        go_wp2
        go_round
        case rel => exact ⟨k + 1, b ||| litN X, by omega, hol, by go_num, rfl, HF⟩
        case measure => simp [intOf]; omega
    · have HF : Hid (Value.agg #[.int .u64 (b : Int), .int .i64 0] = R) := by show _ = _; rw [← HI.out, List.drop_of_length_le (by omega)]; rfl
      clear HI
      go_wp2
      refine bodyPost_ret (v := .agg #[.int .u64 (b : Int), .int .i64 0]) ?_ rfl ⟨?_, ?_⟩
      · simp [results, Try.results13, go_sem]
      · exact (Below.refl _ _).alloc (Nat.le_refl _) _
      · rw [HF.out]

end Go.Proofs.Ytenbnmbbfeekpaa

namespace Go.Proofs.Ytenbnmbbfeekpaa
open Go.RowKit

theorem Try.infoSet : (Try.prog.info? 37).map (fun i => (i.zero, i.size, i.bytes)) = some (some (.int .u64 0), 1, 8) := by kernel_rfl

theorem ownK_cell {w : World} {base : Nat} {e : TypeId} {size g n cap : Nat} {xs : List Value} (h : w.ownsRow base e size (.slice (some ⟨g, 0, none⟩) n cap) n xs) (i : Nat) (x : Value) (hx : xs[i]? = some x) : w.cell? ⟨g, i, none⟩ = some x := by
  have := h.cells (g := g) rfl i x hx
  rwa [Addr.add_lit, Nat.zero_add] at this
theorem ownK_shape {w : World} {base : Nat} {e : TypeId} {size n : Nat} {v : Value} {xs : List Value} (h : w.ownsRow base e size v n xs) : (v = .slice none 0 0 ∧ n = 0) ∨ ∃ g cap, v = .slice (some ⟨g, 0, none⟩) n cap ∧ n ≤ cap := by
  rcases h.2 with h | ⟨g, cap, cur, a, _, _, b, _⟩
  · exact Or.inl h
  · exact Or.inr ⟨g, cap, a, b⟩
theorem ownK_ne {base : Nat} {w : World} {e : TypeId} {size : Nat} {v : Value} {n : Nat} {xs : List Value} (h : w.ownsRow base e size v n xs) {k : Nat} {cur : Array Value} {T : TypeId} {m : Nat × Nat} (hk : w.heap[k]? = some (.cells cur T m)) (hT : e ≠ T) : some k ≠ v.ownBlock := by
  rcases h.2 with ⟨rfl, _⟩ | ⟨g, cap, cur', rfl, _, hg, _⟩
  · simp [Value.ownBlock]
  · intro e
    simp [Value.ownBlock] at e
    subst e
    rw [hg] at hk
    simp at hk
    exact hT hk.2.1

/-- Sets in a row of the call's own. -/
def UO (w wr : World) (v : Value) (l : List Nat) : Prop := wr.ownsRow w.heap.size 37 1 v l.length (l.map fun (c : Nat) => .int .u64 (c : Int))
/-- A slice of sets. -/
def UW (w : World) (v : Value) (l : List Nat) : Prop := ∃ a c, v = .slice a l.length c ∧ UV w a l
/-- A row below is as it was. -/
theorem UO.uv {w wr w' : World} {a : Option Addr} {n cap : Nat} {l : List Nat} (h : UO w wr (.slice a n cap) l) (hl : l.length ≤ 801) (hlt : ∀ c ∈ l, c < 2 ^ 52) {T : TypeId} {B : Nat} {cur : Array Value} {m : Nat × Nat} (hB : wr.heap[B]? = some (.cells cur T m)) (hT : 37 ≠ T) (hsame : ∀ g, g ≠ B → g < wr.heap.size → ∀ o, w'.cell? ⟨g, o, none⟩ = wr.cell? ⟨g, o, none⟩) (hsz : wr.heap.size ≤ w'.heap.size) : UW w' (.slice a n cap) l := by
  rcases ownK_shape h with ⟨h1, h0⟩ | ⟨g, cap', h1, hc⟩
  · injection h1 with h1 h2 h3
    subst h1 h2
    refine ⟨none, cap, by rw [h0], hl, hlt, fun j hj => ?_⟩
    omega
  · injection h1 with h1 h2 h3
    subst h1 h2 h3
    have hg : g < wr.heap.size := (h.lt g rfl).2
    have hne : g ≠ B := by
      intro e
      have := ownK_ne h hB hT
      rw [← e] at this
      exact this rfl
    refine ⟨_, _, rfl, hl, hlt, fun j hj => ⟨g, 0, rfl, by omega, ?_⟩⟩
    rw [Nat.zero_add, hsame g hne hg]
    exact ownK_cell h j _ (by simp [hj])

/-- What Read answers. -/
def rdR (C : List UInt8) : Option (List Nat) := if lastB C = true then (if (C.all fun x => clB x.toNat) = true then some (clR 0 C) else none) else none
def rdN (C : List UInt8) : Nat := if (rdR C).isSome then 0 else 8
theorem rdN_none {C : List UInt8} (h : none = rdR C) : rdN C = 8 := by unfold rdN; rw [← h]; rfl
theorem rdN_some {C : List UInt8} {l : List Nat} (h : some l = rdR C) : rdN C = 0 := by unfold rdN; rw [← h]; rfl
def rdG (acc : List Nat) (b : Nat) (C : List UInt8) : Option (List Nat) := if (C.all fun x => clB x.toNat) = true then some (acc ++ clR b C) else none
theorem rdG_end (acc : List Nat) (b : Nat) {x : UInt8} (r : List UInt8) (h : x.toNat = 59) : rdG acc b (x :: r) = rdG (acc ++ [b]) 0 r := by
  unfold rdG
  have : clB x.toNat = true := by rw [h]; rfl
  rw [List.all_cons, this, Bool.true_and, clR, if_pos h]
  simp
theorem rdG_lit (acc : List Nat) (b : Nat) {x : UInt8} (r : List UInt8) (h : litB x.toNat = true) : rdG acc b (x :: r) = rdG acc (b ||| litN x.toNat) r := by
  unfold rdG
  have : clB x.toNat = true := by unfold clB; rw [h]; rfl
  have h59 : x.toNat ≠ 59 := by have := lit_rng h; omega
  rw [List.all_cons, this, Bool.true_and, clR, if_neg h59]
theorem rdG_bad (acc : List Nat) (b : Nat) {x : UInt8} (r : List UInt8) (h : litB x.toNat = false) (h59 : x.toNat ≠ 59) : rdG acc b (x :: r) = none := by
  unfold rdG
  have : clB x.toNat = false := by unfold clB; rw [h]; simpa using h59
  rw [List.all_cons, this]
  rfl
theorem or_zero64 : bits .or .u64 0 0 = 0 := by decide

set_option maxHeartbeats 3200000 in
set_option maxRecDepth 100000 in
theorem sv_Read (C : List UInt8) (w : World) (hC : C.length ≤ 800) :
    Calls Try.prog 12 #[.string (bs C)] w fun e w' => ∃ ao n cap, e = .returned (.agg #[.slice ao n cap, .int .i64 (rdN C : Nat)]) ∧ Below w.heap.size w w' ∧ ∀ l, rdR C = some l → UW w' (.slice ao n cap) l := by
  have hsz : (bs C).size = C.length := bs_size C
  obtain ⟨i0, hi0, hz0, hz1, hz2⟩ := info_parts Try.infoSet
  by_cases hl : lastB C = true
  · have HR : Hid (rdG [] 0 C = rdR C) := by
      show _ = _
      unfold rdR rdG
      rw [if_pos hl, List.nil_append]
    have hcase : (C.length = 0 ∧ True) ∨ (0 < C.length ∧ ∀ h, (((bs C)[C.length - 1]'h).toNat : Int) = 59) := by
      rcases Nat.eq_zero_or_pos C.length with h | h
      · exact Or.inl ⟨h, trivial⟩
      · refine Or.inr ⟨h, fun h' => ?_⟩
        unfold lastB at hl
        have he : C.isEmpty = false := by cases C with
          | nil => simp at h
          | cons => rfl
        rw [he, Bool.false_or, List.getD_eq_getElem?_getD, List.getElem?_eq_getElem (by omega)] at hl
        rw [k8 C _ h' (by omega)]
        simp at hl
        omega
    have HBK0 : Hid ((w.alloc (.cells #[.slice none 0 0, .int .i64 0] 34)).heap[w.heap.size]? = some (.cells #[.slice none 0 0, .int .i64 0] 34 (0, 0))) := blk_new _ _
    clear hl
    rcases hcase with ⟨h0, hq⟩ | ⟨h0, hq⟩
    all_goals
      go_enter Try.func12, Try.ntmps12
      go_wp2
      go_loopw [3, 4, 5] (fun o c i wr => ∃ (k b : Nat) (acc : List Nat), k ≤ C.length ∧ b < 2 ^ 52 ∧ acc.length ≤ k ∧ (∀ x ∈ acc, x < 2 ^ 52) ∧ i = .int .i64 (k : Int) ∧ c = .int .u64 (b : Int) ∧ Hid (UO w wr o acc) ∧ Hid (rdG acc b (C.drop k) = rdR C) ∧ Below w.heap.size w wr ∧ wr.heap[w.heap.size]? = some (.cells #[.slice none 0 0, .int .i64 0] 34 (0, 0))) (fun _ _ i _ => C.length - (intOf i).toNat)
      case atStart => exact ⟨0, 0, [], by omega, by decide, by simp, (fun x hx => by simp at hx), rfl, rfl, World.ownsRow_nil _ _ _ _, HR, (Below.refl _ _).alloc (Nat.le_refl _) _, HBK0.out⟩
      case round =>
        clear hq h0
        obtain ⟨k, b, acc, hk, hb52, hacc, hall, rfl, rfl, HO, HI, hb, hblk⟩ := hrel
        have hbs := hb.size
        have hltb := ltAt hblk
        have HBK : Hid (wr.heap[w.heap.size]? = some (.cells #[.slice none 0 0, .int .i64 0] 34 (0, 0))) := hblk
        have d0 : wr.cell? ⟨w.heap.size, 0, none⟩ = some (.slice none 0 0) := by rw [cellAt hblk]; rfl
        have d1 : wr.cell? ⟨w.heap.size, 1, none⟩ = some (.int .i64 0) := by rw [cellAt hblk]; rfl
        have f0 := freeAt hblk 0
        have f1 := freeAt hblk 1
        have HB : Hid (Below w.heap.size w wr) := hb
        have HA : Hid (∀ x ∈ acc, x < 2 ^ 52) := hall
        clear hb hblk hall
        by_cases hlt : k < C.length
        · have hi : (k : Int) < ((bs C).size : Int) := by rw [hsz]; omega
          obtain ⟨X, hX⟩ : ∃ X, X = C[k].toNat := ⟨_, rfl⟩
          have hX8 : X < 256 := by rw [hX]; exact UInt8.toNat_lt _
          have q0 : ∀ h, ((bs C)[k]'h).toNat = X := fun h => by rw [k8 C k h hlt, hX]
          have HD : Hid (rdG acc b (C[k] :: C.drop (k + 1)) = rdR C) := by show _ = _; rw [← HI.out, ← List.drop_eq_getElem_cons hlt]
          clear HI
          by_cases h59 : X = 59
          · have e59 : ((X : Int) == 59) = true := by rw [beq_iff_eq]; omega
            have HF : Hid (rdG (acc ++ [b]) 0 (C.drop (k + 1)) = rdR C) := by show _ = _; rw [← HD.out, rdG_end _ _ _ (by rw [← hX, h59])]
            have HZ : Hid (litN X = 0) := by show _ = _; rw [h59]; rfl
            have hown : wr.ownsRow w.heap.size 37 1 _ acc.length (acc.map fun (c : Nat) => .int .u64 (c : Int)) := HO.out
            have hoz := or_zero64
            clear HD hX h59 HO
            go_wp2_with fail
            refine (sv_literal X hX8 _).mono ?_
            rintro e w1 ⟨rfl, rfl⟩
            rw [HZ.out]
            go_wp2_with (at_builtin; refine wpList_append_own _ rfl _ _ 32 rfl w.heap.size 37 i0 (.int .u64 0) 1 8 Try.underlying32 hi0 hz0 hz1 hz2 rfl (by decide) _ _ _ rfl (hown.alloc _) ⟨w1.heap.size, 0, none⟩ 1 1 [.int .u64 b] rfl rfl ?c1 ?c2 ?c3 ?c4 ?c5 ?_)
            case c1 => exact cell_one_new _ _ _
            case c2 => intro u hu; simp at hu; subst hu; rfl
            case c3 => unfold maxLen; omega
            case c4 => omega
            case c5 => simp; omega
            intro v' w2 hown' hgrow _
            have HB2 : Hid (Below w.heap.size w w2) := (HB.out.alloc (by omega) _).grown hgrow (by simp; omega) (fun j hj => (hown.lt j hj).1)
            have HBK2 : Hid (w2.heap[w.heap.size]? = some (.cells #[.slice none 0 0, .int .i64 0] 34 (0, 0))) := (hgrow.block _ (by simp; omega) (ownK_ne hown HBK.out (by decide))).trans (blk_old HBK.out _)
            have HO2 : Hid (UO w w2 v' (acc ++ [b])) := by
              show World.ownsRow _ _ _ _ _ _ _
              simpa using hown'
            have HA2 : Hid (∀ x ∈ acc ++ [b], x < 2 ^ 52) := by
              intro x hx
              rcases List.mem_append.1 hx with hx | hx
              · exact HA.out x hx
              · rw [List.mem_singleton.1 hx]; exact hb52
            clear hown' hgrow hown
            go_wp2
            go_roundw
            case rel => exact ⟨k + 1, 0, acc ++ [b], by omega, by decide, by simp; omega, HA2.out, by go_num, rfl, HO2, HF, HB2.out, HBK2.out⟩
            case measure => simp [intOf]; omega
          · have e59 : ((X : Int) == 59) = false := by rw [beq_eq_false_iff_ne]; omega
            cases hlb : litB X with
            | true =>
              have HF : Hid (rdG acc (b ||| litN X) (C.drop (k + 1)) = rdR C) := by show _ = _; rw [← HD.out, rdG_lit _ _ _ (by rw [← hX, hlb]), hX]
              have hz : litN X ≠ 0 := lit_pos.2 hlb
              have e0 : (((litN X : Nat) : Int) == 0) = false := by rw [beq_eq_false_iff_ne]; omega
              have hll := litN_lt X
              have ho := bits_or_u64_nat b (litN X) (by omega) (by omega)
              have hol := or_lt hb52 hll
              clear HD hX h59 hlb hz
              go_wp2_with fail
              refine (sv_literal X hX8 _).mono ?_
              rintro e w1 ⟨rfl, rfl⟩
              go_wp2
              go_roundw
              case rel => exact ⟨k + 1, b ||| litN X, acc, by omega, hol, by omega, HA.out, by go_num, rfl, HO, HF, HB.out, HBK.out⟩
              case measure => simp [intOf]; omega
            | false =>
              have HF : Hid (none = rdR C) := by show _ = _; rw [← HD.out, rdG_bad _ _ _ (by rw [← hX, hlb]) (by rw [← hX]; exact h59)]
              have HZ : Hid (litN X = 0) := litN_zero.2 hlb
              clear HD hX h59 hlb
              go_wp2_with fail
              refine (sv_literal X hX8 _).mono ?_
              rintro e w1 ⟨rfl, rfl⟩
              rw [HZ.out]
              go_wp2
              refine bodyPost_ret (v := .agg #[.slice none 0 0, .int .i64 8]) ?_ rfl ⟨none, 0, 0, ?_, ?_, fun l h => ?_⟩
              · simp [results, Try.results12, go_sem, d0, d1]
              · rw [rdN_none HF.out]; rfl
              · exact ((HB.out.setCell (by simp) _).setCell (by simp) _)
              · rw [← HF.out] at h; cases h
        · have HF : Hid (some acc = rdR C) := by
            show _ = _
            rw [← HI.out, List.drop_of_length_le (by omega)]
            unfold rdG
            simp [clR]
          obtain ⟨ax, cx, nx, hux⟩ : ∃ ax cx nx, _ = Value.slice ax nx cx := by
            rcases ownK_shape HO.out with ⟨h, _⟩ | ⟨g, cap, h, _⟩
            · exact ⟨_, _, _, h⟩
            · exact ⟨_, _, _, h⟩
          subst hux
          clear HI
          go_wp2
          refine bodyPost_ret (v := .agg #[.slice ax nx cx, .int .i64 0]) ?_ rfl ⟨ax, nx, cx, ?_, ?_, fun l h => ?_⟩
          · simp [results, Try.results12, go_sem, d0, d1]
          · rw [rdN_some HF.out]; rfl
          · exact ((HB.out.setCell (by simp) _).setCell (by simp) _)
          · rw [← HF.out] at h
            injection h with h
            subst h
            refine UO.uv HO.out (by omega) HA.out HBK.out (by decide) (fun g hg _ o => ?_) (by simp)
            exact (World.cell?_of_block (Below.heap_setCell _ _ _ _ (by exact hg))).trans (World.cell?_of_block (Below.heap_setCell _ _ _ _ (by exact hg)))
  · have HF : Hid (none = rdR C) := by show _ = _; unfold rdR; rw [if_neg hl]
    have h0 : 0 < C.length := by
      cases C with
      | nil => exact absurd rfl hl
      | cons => simp
    have hq : ∀ h, (((((bs C)[C.length - 1]'h).toNat : Nat) : Int) != 59) = true := by
      intro h'
      rw [k8 C _ h' (by omega), bne_iff_ne]
      intro e
      apply hl
      unfold lastB
      rw [List.getD_eq_getElem?_getD, List.getElem?_eq_getElem (by omega)]
      simp
      omega
    clear hl
    go_enter Try.func12, Try.ntmps12
    go_wp2
    refine bodyPost_ret (v := .agg #[.slice none 0 0, .int .i64 8]) ?_ rfl ⟨none, 0, 0, ?_, ?_, fun l h => ?_⟩
    · simp [results, Try.results12, go_sem]
    · rw [rdN_none HF.out]; rfl
    · exact (Below.refl _ _).alloc (Nat.le_refl _) _
    · rw [← HF.out] at h; cases h

end Go.Proofs.Ytenbnmbbfeekpaa
