import Derived.Test.YtenbnmbbfeekpaaDoorXL
import Derived.Test.YtenbnmbbfeekpaaDoorXBt

namespace Go.Proofs.YtenbnmbbfeekpaaDoor
open Go.RowKit

theorem bv32 (a : Nat) (ha : a < 4294967296) : (BitVec.ofInt 32 (a : Int)).toNat = a := by
  rw [BitVec.ofInt_natCast, BitVec.toNat_ofNat]; exact Nat.mod_eq_of_lt (by omega)
theorem and_u32 (a b : Nat) (ha : a < 4294967296) (hb : b < 4294967296) : bits .and .u32 (a : Int) (b : Int) = ((a &&& b : Nat) : Int) := by
  have hx : a &&& b < 2 ^ 32 := and_lt (by omega)
  show IntKind.u32.wrap ((BitVec.ofInt 32 (a : Int) &&& BitVec.ofInt 32 (b : Int)).toNat : Int) = _
  rw [BitVec.toNat_and, bv32 a ha, bv32 b hb, IntKind.wrap_u32]
  omega
theorem or_u32 (a b : Nat) (ha : a < 4294967296) (hb : b < 4294967296) : bits .or .u32 (a : Int) (b : Int) = ((a ||| b : Nat) : Int) := by
  have hx : a ||| b < 2 ^ 32 := or_lt (by omega) (by omega)
  show IntKind.u32.wrap ((BitVec.ofInt 32 (a : Int) ||| BitVec.ofInt 32 (b : Int)).toNat : Int) = _
  rw [BitVec.toNat_or, bv32 a ha, bv32 b hb, IntKind.wrap_u32]
  omega
theorem andNot_u32 (a b : Nat) (ha : a < 4294967296) (hb : b < 4294967296) : bits .andNot .u32 (a : Int) (b : Int) = ((adN a b : Nat) : Int) := by
  have hx : adN a b < 2 ^ 32 := adN_lt (by omega)
  show IntKind.u32.wrap ((BitVec.ofInt 32 (a : Int) &&& ~~~ BitVec.ofInt 32 (b : Int)).toNat : Int) = _
  have e : (BitVec.ofInt 32 (a : Int) &&& ~~~ BitVec.ofInt 32 (b : Int)).toNat = adN a b := by
    rw [BitVec.toNat_and, BitVec.toNat_not, bv32 a ha, bv32 b hb]
    apply Nat.eq_of_testBit_eq
    intro i
    rw [Nat.testBit_and, adN_test, show 2 ^ 32 - 1 - b = 2 ^ 32 - (b + 1) by omega, Nat.testBit_two_pow_sub_succ (by omega)]
    by_cases hi : a.testBit i = true
    · have : i < 32 := bit_lt (n := 32) (by omega) hi
      rw [show decide (i < 32) = true by simpa using this]
      rfl
    · have hi' : a.testBit i = false := by simpa using hi
      rw [hi']; rfl
  rw [e, IntKind.wrap_u32]
  omega
theorem wrap_pow32 {n : Nat} (h : n < 20) : IntKind.u32.wrap ((2 : Int) ^ n) = ((2 ^ n : Nat) : Int) := by
  have h2 : 2 ^ n < 2 ^ 20 := Nat.pow_lt_pow_right (by omega) h
  rw [pow_cast, IntKind.wrap_u32]
  generalize 2 ^ n = P at h2
  omega

set_option maxHeartbeats 800000 in
theorem doc_One (i : Nat) (w : World) : Calls Tryd.prog 36 #[.int .i64 i] w fun e w' => e = .returned (.int .u32 (oneN i : Nat)) ∧ w' = w := by
  have e0 : ¬ (i : Int) < 0 := by omega
  by_cases h : i < 20
  · have e1 : ¬ (20 : Int) ≤ (i : Int) := by omega
    have HF : Hid (oneN i = 2 ^ i) := by show _ = _; unfold oneN; rw [if_pos h]
    go_enter Tryd.func36, Tryd.ntmps36
    go_wp2
    go_ret
    refine ⟨congrArg (fun z => Ending.returned (.int .u32 z)) ?_, rfl⟩
    rw [HF.out]
    exact wrap_pow32 h
  · have e1 : (20 : Int) ≤ (i : Int) := by omega
    have HF : Hid (oneN i = 0) := by show _ = _; unfold oneN; rw [if_neg h]
    go_enter Tryd.func36, Tryd.ntmps36
    go_wp2
    go_ret
    refine ⟨congrArg (fun z => Ending.returned (.int .u32 z)) ?_, rfl⟩
    rw [HF.out]; rfl

theorem ne_cast (x : Nat) : ((x : Int) != 0) = (x != 0) := by
  rw [Bool.eq_iff_iff, bne_iff_ne, bne_iff_ne]; omega
theorem eq_cast (x : Nat) : ((x : Int) == 0) = (x == 0) := by
  rw [Bool.eq_iff_iff, beq_iff_eq, beq_iff_eq]; omega

set_option maxHeartbeats 800000 in
theorem set_Has (s i : Nat) (hs : s < 2 ^ 20) (w : World) : Calls Tryd.prog 35 #[.int .u32 s, .int .i64 i] w fun e w' => e = .returned (.bool (hasN s i)) ∧ w' = w := by
  have l1 := oneN_lt i
  have a1 := and_u32 s (oneN i) (by omega) (by omega)
  have HF : Hid ((((s &&& oneN i : Nat) : Int) != 0) = hasN s i) := by show _ = _; rw [ne_cast]; rfl
  go_enter Tryd.func35, Tryd.ntmps35
  go_wp2_with fail
  refine (doc_One i _).mono ?_
  rintro e w1 ⟨rfl, rfl⟩
  go_wp2
  go_ret
  exact ⟨ret_bool HF.out, rfl⟩

set_option maxHeartbeats 800000 in
theorem set_Several (s : Nat) (hs : s < 2 ^ 20) (w : World) : Calls Tryd.prog 66 #[.int .u32 s] w fun e w' => e = .returned (.bool (sevB s)) ∧ w' = w := by
  obtain ⟨m, hm⟩ : ∃ m, m = (s + 4294967295) % 4294967296 := ⟨_, rfl⟩
  have hm1 : IntKind.u32.wrap ((s : Int) - 1) = (m : Int) := by rw [IntKind.wrap_u32]; omega
  have a1 := and_u32 s m (by omega) (by omega)
  have HF : Hid ((((s &&& m : Nat) : Int) != 0) = sevB s) := by show _ = _; rw [ne_cast]; unfold sevB; rw [← hm]
  clear hm
  go_enter Tryd.func66, Tryd.ntmps66
  go_wp2
  go_ret
  exact ⟨ret_bool HF.out, rfl⟩

set_option maxHeartbeats 800000 in
theorem doc_Just (s : Nat) (w : World) : Calls Tryd.prog 21 #[.int .u32 s] w fun e w' => e = .returned (.agg #[.int .u32 s, .int .u32 s]) ∧ Below w.heap.size w w' := by
  go_enter Tryd.func21, Tryd.ntmps21
  go_wp2
  refine bodyPost_ret (v := .agg #[.int .u32 s, .int .u32 s]) ?_ rfl ⟨rfl, ?_⟩
  · simp [results, Tryd.results21, go_sem]
  · exact (Below.refl _ _).alloc (Nat.le_refl _) _

end Go.Proofs.YtenbnmbbfeekpaaDoor

namespace Go.Proofs.YtenbnmbbfeekpaaDoor
open Go.RowKit

set_option maxHeartbeats 1600000 in
set_option maxRecDepth 100000 in
theorem doc_All (ao : Option Addr) (cap : Nat) (ps : List Pk) (w : World) (hl : ps.length ≤ 801) :
    Calls Tryd.prog 32 #[.slice ao ps.length cap] w fun e w' => e = .returned (.int .u32 (allM ps : Nat)) ∧ Below w.heap.size w w' := by
  unfold allM
  obtain ⟨G, hG⟩ : ∃ G : Nat → Bool, G = fun _ => true := ⟨_, rfl⟩
  rw [← hG]
  have HG : Hid (∀ k, G k = true) := fun k => by rw [hG]
  clear hG
  go_enter Tryd.func32, Tryd.ntmps32
  go_wp2
  go_loopw [3, 7] (fun o i wr => ∃ k A : Nat, k ≤ ps.length ∧ o = .int .u32 (A : Nat) ∧ i = .int .i64 k ∧ A < 2 ^ 20 ∧ Hid (mskN G k = A) ∧ Below w.heap.size w wr) (fun _ i _ => ps.length - (intOf i).toNat)
  case atStart => exact ⟨0, 0, by omega, rfl, rfl, by decide, rfl, Below.refl _ _⟩
  case round =>
    obtain ⟨k, A, hk, rfl, rfl, hA, HI, hb⟩ := hrel
    by_cases hlt : k < ps.length
    · have HD : Hid (mskN G (k + 1) = A ||| oneN k) := by show _ = _; rw [mskN, HG.out k, HI.out]; rfl
      clear HI
      have l1 := oneN_lt k
      have o1 := or_u32 A (oneN k) (by omega) (by omega)
      have l2 := or_lt hA l1
      go_wp2_with fail
      refine (doc_One k _).mono ?_
      rintro e w1 ⟨rfl, rfl⟩
      go_wp2
      go_roundw
      case rel => exact ⟨k + 1, A ||| oneN k, by omega, rfl, by go_num, l2, HD, hb⟩
      case measure => simp [intOf]; omega
    · have hkl : k = ps.length := by omega
      have HF : Hid (mskN G ps.length = A) := by show _ = _; rw [← hkl, HI.out]
      clear HI hkl
      go_wp2
      go_ret
      exact ⟨ret_int (by rw [HF.out]), hb⟩

set_option maxHeartbeats 1600000 in
set_option maxRecDepth 100000 in
theorem doc_Now (ao : Option Addr) (cap : Nat) (ps : List Pk) (w : World) (hp : PV w ao ps) :
    Calls Tryd.prog 47 #[.slice ao ps.length cap] w fun e w' => e = .returned (.int .u32 (nowM ps : Nat)) ∧ Below w.heap.size w w' := by
  have hl := hp.1
  have HR : Hid (∀ j (h : j < ps.length), PRw w ao j ps[j]) := hp.2
  clear hp
  unfold nowM
  obtain ⟨G, hG⟩ : ∃ G, G = atB (fun p => p.m != 0) ps := ⟨_, rfl⟩
  rw [← hG]
  have HG : Hid (∀ k (h : k < ps.length), G k = (ps[k].m != 0)) := fun k h => by rw [hG, atB_at h]
  clear hG
  go_enter Tryd.func47, Tryd.ntmps47
  go_wp2
  go_loopw [3, 8] (fun o i wr => ∃ k A : Nat, k ≤ ps.length ∧ o = .int .u32 (A : Nat) ∧ i = .int .i64 k ∧ A < 2 ^ 20 ∧ Hid (mskN G k = A) ∧ Below w.heap.size w wr) (fun _ i _ => ps.length - (intOf i).toNat)
  case atStart => exact ⟨0, 0, by omega, rfl, rfl, by decide, rfl, Below.refl _ _⟩
  case round =>
    obtain ⟨k, A, hk, rfl, rfl, hA, HI, hb⟩ := hrel
    have hbs := hb.size
    by_cases hlt : k < ps.length
    · obtain ⟨g, off, an, nn, cn, ac, nc, cc, ap, np, cp, rfl, hg, ⟨x0, x1, x2, x3, x4, x5⟩, hv⟩ := HR.out k hlt
      rw [← hb.cell (p := ⟨g, _, none⟩) hg] at x0 x1 x2 x3 x4 x5
      have HD : Hid (mskN G (k + 1) = if (ps[k].m != 0) then A ||| oneN k else A) := by show _ = _; rw [mskN, HG.out k hlt, HI.out]
      clear hv HI
      generalize ps[k] = p at *
      have l1 := oneN_lt k
      have o1 := or_u32 A (oneN k) (by omega) (by omega)
      have l2 := or_lt hA l1
      by_cases e1 : p.m ≠ 0
      · have e1' : ((p.m : Int) != 0) = true := by rw [bne_iff_ne]; omega
        have HF : Hid (mskN G (k + 1) = A ||| oneN k) := by show _ = _; rw [HD.out]; simp [e1]
        clear e1 HD
        go_wp2_with fail
        refine (doc_One k _).mono ?_
        rintro e w1 ⟨rfl, rfl⟩
        go_wp2
        go_roundw
        case rel => exact ⟨k + 1, A ||| oneN k, by omega, rfl, by go_num, l2, HF, hb.alloc hbs _⟩
        case measure => simp [intOf]; omega
      · have e1' : ((p.m : Int) != 0) = false := by rw [bne_eq_false_iff_eq]; omega
        have HF : Hid (mskN G (k + 1) = A) := by show _ = _; rw [HD.out]; simp [e1]
        clear e1 HD
        go_wp2
        go_roundw
        case rel => exact ⟨k + 1, A, by omega, rfl, by go_num, hA, HF, hb.alloc hbs _⟩
        case measure => simp [intOf]; omega
    · have hkl : k = ps.length := by omega
      have HF : Hid (mskN G ps.length = A) := by show _ = _; rw [← hkl, HI.out]
      clear HI hkl
      go_wp2
      go_ret
      exact ⟨ret_int (by rw [HF.out]), hb⟩

set_option maxHeartbeats 1600000 in
set_option maxRecDepth 100000 in
theorem doc_WithName (ao : Option Addr) (cap : Nat) (ps : List Pk) (a : Nat) (w : World) (hp : PV w ao ps) :
    Calls Tryd.prog 48 #[.slice ao ps.length cap, .int .u8 a] w fun e w' => e = .returned (.int .u32 (wnM ps a : Nat)) ∧ Below w.heap.size w w' := by
  have hl := hp.1
  have HR : Hid (∀ j (h : j < ps.length), PRw w ao j ps[j]) := hp.2
  clear hp
  unfold wnM
  obtain ⟨G, hG⟩ : ∃ G, G = atB (fun p => p.n == a) ps := ⟨_, rfl⟩
  rw [← hG]
  have HG : Hid (∀ k (h : k < ps.length), G k = (ps[k].n == a)) := fun k h => by rw [hG, atB_at h]
  clear hG
  go_enter Tryd.func48, Tryd.ntmps48
  go_wp2
  go_loopw [5, 10] (fun o i wr => ∃ k A : Nat, k ≤ ps.length ∧ o = .int .u32 (A : Nat) ∧ i = .int .i64 k ∧ A < 2 ^ 20 ∧ Hid (mskN G k = A) ∧ Below w.heap.size w wr) (fun _ i _ => ps.length - (intOf i).toNat)
  case atStart => exact ⟨0, 0, by omega, rfl, rfl, by decide, rfl, Below.refl _ _⟩
  case round =>
    obtain ⟨k, A, hk, rfl, rfl, hA, HI, hb⟩ := hrel
    have hbs := hb.size
    by_cases hlt : k < ps.length
    · obtain ⟨g, off, an, nn, cn, ac, nc, cc, ap, np, cp, rfl, hg, ⟨x0, x1, x2, x3, x4, x5⟩, hv⟩ := HR.out k hlt
      rw [← hb.cell (p := ⟨g, _, none⟩) hg] at x0 x1 x2 x3 x4 x5
      have HD : Hid (mskN G (k + 1) = if (ps[k].n == a) then A ||| oneN k else A) := by show _ = _; rw [mskN, HG.out k hlt, HI.out]
      clear hv HI
      generalize ps[k] = p at *
      have l1 := oneN_lt k
      have o1 := or_u32 A (oneN k) (by omega) (by omega)
      have l2 := or_lt hA l1
      by_cases e1 : p.n = a
      · have e1' : ((p.n : Int) == a) = true := by rw [beq_iff_eq]; omega
        have HF : Hid (mskN G (k + 1) = A ||| oneN k) := by show _ = _; rw [HD.out]; simp [e1]
        clear e1 HD
        go_wp2_with fail
        refine (doc_One k _).mono ?_
        rintro e w1 ⟨rfl, rfl⟩
        go_wp2
        go_roundw
        case rel => exact ⟨k + 1, A ||| oneN k, by omega, rfl, by go_num, l2, HF, hb.alloc hbs _⟩
        case measure => simp [intOf]; omega
      · have e1' : ((p.n : Int) == a) = false := by rw [beq_eq_false_iff_ne]; omega
        have HF : Hid (mskN G (k + 1) = A) := by show _ = _; rw [HD.out]; simp [e1]
        clear e1 HD
        go_wp2
        go_roundw
        case rel => exact ⟨k + 1, A, by omega, rfl, by go_num, hA, HF, hb.alloc hbs _⟩
        case measure => simp [intOf]; omega
    · have hkl : k = ps.length := by omega
      have HF : Hid (mskN G ps.length = A) := by show _ = _; rw [← hkl, HI.out]
      clear HI hkl
      go_wp2
      go_ret
      exact ⟨ret_int (by rw [HF.out]), hb⟩

set_option maxHeartbeats 1600000 in
set_option maxRecDepth 100000 in
theorem doc_Fitting (ao : Option Addr) (cap : Nat) (ps : List Pk) (c : Cn) (w : World) (hp : PV w ao ps) :
    Calls Tryd.prog 65 #[.slice ao ps.length cap, .agg #[.int .u8 c.n, .int .u8 c.s, .int .u8 c.v]] w fun e w' => e = .returned (.int .u32 (fitM ps c : Nat)) ∧ Below w.heap.size w w' := by
  have hl := hp.1
  have HR : Hid (∀ j (h : j < ps.length), PRw w ao j ps[j]) := hp.2
  clear hp
  unfold fitM
  obtain ⟨G, hG⟩ : ∃ G, G = atB (fun p => fitB p c) ps := ⟨_, rfl⟩
  rw [← hG]
  have HG : Hid (∀ k (h : k < ps.length), G k = fitB ps[k] c) := fun k h => by rw [hG, atB_at h]
  clear hG
  go_enter Tryd.func65, Tryd.ntmps65
  go_wp2
  go_loopw [5, 10] (fun o i wr => ∃ k A : Nat, k ≤ ps.length ∧ o = .int .u32 (A : Nat) ∧ i = .int .i64 k ∧ A < 2 ^ 20 ∧ Hid (mskN G k = A) ∧ Below w.heap.size w wr ∧ wr.heap[w.heap.size]? = some (.cells #[.int .u8 c.n, .int .u8 c.s, .int .u8 c.v] 125 (0, 0))) (fun _ i _ => ps.length - (intOf i).toNat)
  case atStart => exact ⟨0, 0, by omega, rfl, rfl, by decide, rfl, (Below.refl _ _).alloc (Nat.le_refl _) _, blk_new _ _⟩
  case round =>
    obtain ⟨k, A, hk, rfl, rfl, hA, HI, hb, hbx⟩ := hrel
    have hbs := hb.size
    have y0 := cellAt hbx 0
    have y1 := cellAt hbx 1
    have y2 := cellAt hbx 2
    have hlx := ltAt hbx
    have HBX : Hid (wr.heap[w.heap.size]? = some (.cells #[.int .u8 c.n, .int .u8 c.s, .int .u8 c.v] 125 (0, 0))) := hbx
    simp at y0 y1 y2
    clear hbx
    by_cases hlt : k < ps.length
    · obtain ⟨g, off, an, nn, cn, ac, nc, cc, ap, np, cp, rfl, hg, ⟨x0, x1, x2, x3, x4, x5⟩, hv⟩ := HR.out k hlt
      rw [← hb.cell (p := ⟨g, _, none⟩) hg] at x0 x1 x2 x3 x4 x5
      have HV : Hid (∀ w', Below w.heap.size w w' → PkV w' ps[k] an nn cn ac nc cc ap np cp) := fun w' hb => hv.below hb
      have HD : Hid (mskN G (k + 1) = if fitB ps[k] c then A ||| oneN k else A) := by show _ = _; rw [mskN, HG.out k hlt, HI.out]
      have HBA : Hid (Below w.heap.size w (wr.alloc (.cells #[.int .u8 ps[k].n, .int .u8 ps[k].v, .int .i64 ps[k].m, .slice an nn cn, .slice ac nc cc, .slice ap np cp] 91))) := hb.alloc hbs _
      clear hv HI
      generalize ps[k] = p at *
      have l1 := oneN_lt k
      have o1 := or_u32 A (oneN k) (by omega) (by omega)
      have l2 := or_lt hA l1
      cases hf : fitB p c with
      | true =>
        have HF : Hid (mskN G (k + 1) = A ||| oneN k) := by show _ = _; rw [HD.out, hf]; rfl
        have HE : Hid (fitB p c = true) := hf
        clear hf HD
        go_wp2_with fail
        refine (pack_Fits p c an nn cn ac nc cc ap np cp _ (HV.out _ HBA.out)).mono ?_
        rintro e w1 ⟨rfl, hb1⟩
        rw [HE.out]
        have HB2 : Hid (Below w.heap.size w w1) := HBA.out.trans (hb1.mono (by simp; omega))
        have HK : Hid (w1.heap[w.heap.size]? = some (.cells #[.int .u8 c.n, .int .u8 c.s, .int .u8 c.v] 125 (0, 0))) := blk_below hb1 (blk_old HBX.out _) (by simp; omega)
        clear hb1
        go_wp2_with fail
        refine (doc_One k _).mono ?_
        rintro e w2 ⟨rfl, rfl⟩
        go_wp2
        go_roundw
        case rel => exact ⟨k + 1, A ||| oneN k, by omega, rfl, by go_num, l2, HF, HB2.out, HK.out⟩
        case measure => simp [intOf]; omega
      | false =>
        have HF : Hid (mskN G (k + 1) = A) := by show _ = _; rw [HD.out, hf]; rfl
        have HE : Hid (fitB p c = false) := hf
        clear hf HD
        go_wp2_with fail
        refine (pack_Fits p c an nn cn ac nc cc ap np cp _ (HV.out _ HBA.out)).mono ?_
        rintro e w1 ⟨rfl, hb1⟩
        rw [HE.out]
        have HB2 : Hid (Below w.heap.size w w1) := HBA.out.trans (hb1.mono (by simp; omega))
        have HK : Hid (w1.heap[w.heap.size]? = some (.cells #[.int .u8 c.n, .int .u8 c.s, .int .u8 c.v] 125 (0, 0))) := blk_below hb1 (blk_old HBX.out _) (by simp; omega)
        clear hb1
        go_wp2
        go_roundw
        case rel => exact ⟨k + 1, A, by omega, rfl, by go_num, hA, HF, HB2.out, HK.out⟩
        case measure => simp [intOf]; omega
    · have hkl : k = ps.length := by omega
      have HF : Hid (mskN G ps.length = A) := by show _ = _; rw [← hkl, HI.out]
      clear HI hkl
      go_wp2
      go_ret
      exact ⟨ret_int (by rw [HF.out]), hb⟩

set_option maxHeartbeats 1600000 in
set_option maxRecDepth 100000 in
theorem doc_NotBelow (ao : Option Addr) (cap : Nat) (ps : List Pk) (S v : Nat) (hS : S < 2 ^ 20) (w : World) (hp : PV w ao ps) :
    Calls Tryd.prog 50 #[.slice ao ps.length cap, .int .u32 S, .int .u8 v] w fun e w' => e = .returned (.int .u32 (nbM ps S v : Nat)) ∧ Below w.heap.size w w' := by
  have hl := hp.1
  have HR : Hid (∀ j (h : j < ps.length), PRw w ao j ps[j]) := hp.2
  clear hp
  unfold nbM
  obtain ⟨G, hG⟩ : ∃ G, G = fun i => hasN S i && atB (fun p => decide (v ≤ p.v)) ps i := ⟨_, rfl⟩
  rw [← hG]
  have HG : Hid (∀ k (h : k < ps.length), G k = (hasN S k && decide (v ≤ ps[k].v))) := fun k h => by rw [hG]; simp only; rw [atB_at h]
  clear hG
  go_enter Tryd.func50, Tryd.ntmps50
  go_wp2
  go_loopw [7, 12] (fun o i wr => ∃ k A : Nat, k ≤ ps.length ∧ o = .int .u32 (A : Nat) ∧ i = .int .i64 k ∧ A < 2 ^ 20 ∧ Hid (mskN G k = A) ∧ Below w.heap.size w wr) (fun _ i _ => ps.length - (intOf i).toNat)
  case atStart => exact ⟨0, 0, by omega, rfl, rfl, by decide, rfl, Below.refl _ _⟩
  case round =>
    obtain ⟨k, A, hk, rfl, rfl, hA, HI, hb⟩ := hrel
    have hbs := hb.size
    by_cases hlt : k < ps.length
    · obtain ⟨g, off, an, nn, cn, ac, nc, cc, ap, np, cp, rfl, hg, ⟨x0, x1, x2, x3, x4, x5⟩, hv⟩ := HR.out k hlt
      rw [← hb.cell (p := ⟨g, _, none⟩) hg] at x0 x1 x2 x3 x4 x5
      have HD : Hid (mskN G (k + 1) = if (hasN S k && decide (v ≤ ps[k].v)) then A ||| oneN k else A) := by show _ = _; rw [mskN, HG.out k hlt, HI.out]
      clear hv HI
      generalize ps[k] = p at *
      have l1 := oneN_lt k
      have o1 := or_u32 A (oneN k) (by omega) (by omega)
      have l2 := or_lt hA l1
      cases hh : hasN S k with
      | false =>
        have HF : Hid (mskN G (k + 1) = A) := by show _ = _; rw [HD.out, hh]; rfl
        have HE : Hid (hasN S k = false) := hh
        clear hh HD
        go_wp2_with fail
        refine (set_Has S k hS _).mono ?_
        rintro e w1 ⟨rfl, rfl⟩
        rw [HE.out]
        go_wp2
        go_roundw
        case rel => exact ⟨k + 1, A, by omega, rfl, by go_num, hA, HF, hb.alloc hbs _⟩
        case measure => simp [intOf]; omega
      | true =>
        have HE : Hid (hasN S k = true) := hh
        by_cases hv : v ≤ p.v
        · have HF : Hid (mskN G (k + 1) = A ||| oneN k) := by show _ = _; rw [HD.out, hh]; simp [hv]
          have e1 : (v : Int) ≤ (p.v : Int) := by omega
          clear hh HD
          go_wp2_with fail
          refine (set_Has S k hS _).mono ?_
          rintro e w1 ⟨rfl, rfl⟩
          rw [HE.out]
          go_wp2_with fail
          refine (doc_One k _).mono ?_
          rintro e w2 ⟨rfl, rfl⟩
          go_wp2
          go_roundw
          case rel => exact ⟨k + 1, A ||| oneN k, by omega, rfl, by go_num, l2, HF, hb.alloc hbs _⟩
          case measure => simp [intOf]; omega
        · have HF : Hid (mskN G (k + 1) = A) := by show _ = _; rw [HD.out, hh]; simp [hv]
          have e1 : ¬ (v : Int) ≤ (p.v : Int) := by omega
          clear hh HD
          go_wp2_with fail
          refine (set_Has S k hS _).mono ?_
          rintro e w1 ⟨rfl, rfl⟩
          rw [HE.out]
          go_wp2
          go_roundw
          case rel => exact ⟨k + 1, A, by omega, rfl, by go_num, hA, HF, hb.alloc hbs _⟩
          case measure => simp [intOf]; omega
    · have hkl : k = ps.length := by omega
      have HF : Hid (mskN G ps.length = A) := by show _ = _; rw [← hkl, HI.out]
      clear HI hkl
      go_wp2
      go_ret
      exact ⟨ret_int (by rw [HF.out]), hb⟩

set_option maxHeartbeats 1600000 in
set_option maxRecDepth 100000 in
theorem doc_Greatest (ao : Option Addr) (cap : Nat) (ps : List Pk) (S : Nat) (hS : S < 2 ^ 20) (w : World) (hp : PV w ao ps) :
    Calls Tryd.prog 49 #[.slice ao ps.length cap, .int .u32 S] w fun e w' => e = .returned (.int .u8 (grN ps S ps.length : Nat)) ∧ Below w.heap.size w w' := by
  have hl := hp.1
  have HR : Hid (∀ j (h : j < ps.length), PRw w ao j ps[j]) := hp.2
  have HG : Hid (∀ k (h : k < ps.length), grN ps S (k + 1) = if hasN S k && decide (grN ps S k < ps[k].v) then ps[k].v else grN ps S k) := fun k h => by rw [grN]; unfold vAt; rw [List.getElem?_eq_getElem h]
  obtain ⟨R, hR⟩ : ∃ R, R = grN ps S := ⟨_, rfl⟩
  have HZ : Hid (R 0 = 0) := by show _ = _; rw [hR]; rfl
  rw [← hR] at HG ⊢
  clear hp hR
  go_enter Tryd.func49, Tryd.ntmps49
  go_wp2
  go_loopw [5, 10] (fun o i wr => ∃ k A : Nat, k ≤ ps.length ∧ o = .int .u8 (A : Nat) ∧ i = .int .i64 k ∧ Hid (R k = A) ∧ Below w.heap.size w wr) (fun _ i _ => ps.length - (intOf i).toNat)
  case atStart => exact ⟨0, 0, by omega, rfl, rfl, HZ, Below.refl _ _⟩
  case round =>
    obtain ⟨k, A, hk, rfl, rfl, HI, hb⟩ := hrel
    have hbs := hb.size
    by_cases hlt : k < ps.length
    · obtain ⟨g, off, an, nn, cn, ac, nc, cc, ap, np, cp, rfl, hg, ⟨x0, x1, x2, x3, x4, x5⟩, hv⟩ := HR.out k hlt
      rw [← hb.cell (p := ⟨g, _, none⟩) hg] at x0 x1 x2 x3 x4 x5
      have HD : Hid (R (k + 1) = if (hasN S k && decide (A < ps[k].v)) then ps[k].v else A) := by show _ = _; rw [HG.out k hlt, HI.out]
      clear hv HI
      generalize ps[k] = p at *
      cases hh : hasN S k with
      | false =>
        have HF : Hid (R (k + 1) = A) := by show _ = _; rw [HD.out, hh]; rfl
        have HE : Hid (hasN S k = false) := hh
        clear hh HD
        go_wp2_with fail
        refine (set_Has S k hS _).mono ?_
        rintro e w1 ⟨rfl, rfl⟩
        rw [HE.out]
        go_wp2
        go_roundw
        case rel => exact ⟨k + 1, A, by omega, rfl, by go_num, HF, hb.alloc hbs _⟩
        case measure => simp [intOf]; omega
      | true =>
        have HE : Hid (hasN S k = true) := hh
        by_cases hv : A < p.v
        · have HF : Hid (R (k + 1) = p.v) := by show _ = _; rw [HD.out, hh]; simp [hv]
          have e1 : (A : Int) < (p.v : Int) := by omega
          clear hh HD
          go_wp2_with fail
          refine (set_Has S k hS _).mono ?_
          rintro e w1 ⟨rfl, rfl⟩
          rw [HE.out]
          go_wp2
          go_roundw
          case rel => exact ⟨k + 1, p.v, by omega, rfl, by go_num, HF, hb.alloc hbs _⟩
          case measure => simp [intOf]; omega
        · have HF : Hid (R (k + 1) = A) := by show _ = _; rw [HD.out, hh]; simp [hv]
          have e1 : ¬ (A : Int) < (p.v : Int) := by omega
          clear hh HD
          go_wp2_with fail
          refine (set_Has S k hS _).mono ?_
          rintro e w1 ⟨rfl, rfl⟩
          rw [HE.out]
          go_wp2
          go_roundw
          case rel => exact ⟨k + 1, A, by omega, rfl, by go_num, HF, hb.alloc hbs _⟩
          case measure => simp [intOf]; omega
    · have hkl : k = ps.length := by omega
      have HF : Hid (R ps.length = A) := by show _ = _; rw [← hkl, HI.out]
      clear HI hkl
      go_wp2
      go_ret
      exact ⟨ret_int (by rw [HF.out]), hb⟩

end Go.Proofs.YtenbnmbbfeekpaaDoor

namespace Go.Proofs.YtenbnmbbfeekpaaDoor
open Go.RowKit

theorem Tryd.infoDSet : (Tryd.prog.info? 49).map (fun i => (i.zero, i.size, i.bytes)) = some (some (.int .u32 0), 1, 4) := by kernel_rfl
/-- Sets in an own row. -/
def SO (b : Nat) (w : World) (v : Value) (l : List Nat) : Prop := w.ownsRow b 49 1 v l.length (l.map fun (c : Nat) => .int .u32 (c : Int))
def SV (w : World) (v : Value) (l : List Nat) : Prop := l.length ≤ 801 ∧ ∃ ao cap, v = .slice ao l.length cap ∧ ∀ j (h : j < l.length), ∃ g off, ao = some ⟨g, off, none⟩ ∧ g < w.heap.size ∧ w.cell? ⟨g, off + j, none⟩ = some (.int .u32 (l[j] : Int))
theorem SO.sv {b : Nat} {w : World} {v : Value} {l : List Nat} (h : SO b w v l) (hl : l.length ≤ 801) : SV w v l := by
  rcases own_shape h with ⟨rfl, h0⟩ | ⟨g, cap, rfl, hc⟩
  · have : l = [] := List.eq_nil_of_length_eq_zero h0
    subst this
    exact ⟨hl, none, 0, rfl, fun j h => by simp at h⟩
  · exact ⟨hl, _, _, rfl, fun j hj => ⟨g, 0, rfl, own_lt h, by rw [Nat.zero_add]; exact own_cell h j _ (by simp [hj])⟩⟩
theorem SV.below {w w' : World} {v : Value} {l : List Nat} (h : SV w v l) (hb : Below w.heap.size w w') : SV w' v l := by
  obtain ⟨h0, ao, cap, h1, h2⟩ := h
  refine ⟨h0, ao, cap, h1, fun j hj => ?_⟩
  obtain ⟨g, off, e, hg, x⟩ := h2 j hj
  exact ⟨g, off, e, Nat.lt_of_lt_of_le hg hb.size, (hb.cell (p := ⟨g, _, none⟩) hg).trans x⟩
theorem ret_slice {a : Option Addr} {n m c : Nat} (h : m = n) : Ending.returned (.slice a m c) = .returned (.slice a n c) := by rw [h]
theorem own_kept {b : Nat} {w w' : World} {e : TypeId} {sz : Nat} {v : Value} {n : Nat} {xs : List Value} (h : w.ownsRow b e sz v n xs) (hb : Below w.heap.size w w') : w'.ownsRow b e sz v n xs :=
  World.ownsRow.kept (row := none) h ⟨hb.os, hb.tape, hb.output, hb.size, fun k hk _ => hb.block k hk⟩ (by rcases Value.ownBlock _ with _ | k <;> simp)
theorem SO.kept {b : Nat} {w w' : World} {v : Value} {l : List Nat} (h : SO b w v l) (hb : Below w.heap.size w w') : SO b w' v l := own_kept h hb
theorem SO.alloc {b : Nat} {w : World} {v : Value} {l : List Nat} (h : SO b w v l) (o : Obj) : SO b (w.alloc o) v l := World.ownsRow.alloc h o
theorem SO.shape {b : Nat} {w : World} {v : Value} {l : List Nat} (h : SO b w v l) : ∃ a c, v = .slice a l.length c := by
  rcases own_shape h with ⟨rfl, h0⟩ | ⟨g, cap, rfl, hc⟩
  · exact ⟨none, 0, by rw [h0]⟩
  · exact ⟨_, _, rfl⟩

set_option maxHeartbeats 1600000 in
set_option maxRecDepth 100000 in
theorem pk_fittingAny (ao : Option Addr) (cap : Nat) (ps : List Pk) (a : Option Addr) (n c : Nat) (L : List Cn) (w : World) (hp : PV w ao ps) (hc : CV w (.slice a n c) L) :
    Calls Tryd.prog 41 #[.slice ao ps.length cap, .slice a n c] w fun e w' => e = .returned (.int .u32 (faM ps L : Nat)) ∧ Below w.heap.size w w' := by
  obtain ⟨hl, a', c', e, hrow⟩ := hc
  injection e with e1 e2 e3
  subst e1 e2 e3
  have HR : Hid _ := hrow
  have HV : Hid (∀ w', Below w.heap.size w w' → PV w' ao ps) := fun w' hb => hp.below hb
  clear hrow hp
  go_enter Tryd.func41, Tryd.ntmps41
  go_wp2
  go_loopw [5, 10] (fun o i wr => ∃ k A : Nat, k ≤ L.length ∧ o = .int .u32 (A : Nat) ∧ i = .int .i64 k ∧ A < 2 ^ 20 ∧ Hid (faM ps (L.take k) = A) ∧ Below w.heap.size w wr) (fun _ i _ => L.length - (intOf i).toNat)
  case atStart => exact ⟨0, 0, by omega, rfl, rfl, by decide, rfl, Below.refl _ _⟩
  case round =>
    obtain ⟨k, A, hk, rfl, rfl, hA, HI, hb⟩ := hrel
    have hbs := hb.size
    by_cases hlt : k < L.length
    · obtain ⟨g, off, rfl, hg, x0, x1, x2⟩ := HR.out k hlt
      rw [← hb.cell (p := ⟨g, _, none⟩) hg] at x0 x1 x2
      have HD : Hid (faM ps (L.take (k + 1)) = A ||| fitM ps L[k]) := by show _ = _; rw [List.take_succ_eq_append_getElem hlt, faM_snoc, HI.out]
      have HBA : Hid (Below w.heap.size w (wr.alloc (.cells #[.int .u8 L[k].n, .int .u8 L[k].s, .int .u8 L[k].v] 125))) := hb.alloc hbs _
      clear HI
      generalize L[k] = C at *
      have l1 : fitM ps C < 2 ^ 20 := mskN_lt _ _
      have o1 := or_u32 A (fitM ps C) (by omega) (by omega)
      have l2 := or_lt hA l1
      go_wp2_with fail
      refine (doc_Fitting ao cap ps C _ (HV.out _ HBA.out)).mono ?_
      rintro e w1 ⟨rfl, hb1⟩
      have HB2 : Hid (Below w.heap.size w w1) := HBA.out.trans (hb1.mono (by simp; omega))
      clear hb1
      go_wp2
      go_roundw
      case rel => exact ⟨k + 1, A ||| fitM ps C, by omega, rfl, by go_num, l2, HD, HB2.out⟩
      case measure => simp [intOf]; omega
    · have HF : Hid (faM ps L = A) := by show _ = _; rw [← HI.out, List.take_of_length_le (by omega)]
      clear HI
      go_wp2
      go_ret
      exact ⟨ret_int (by rw [HF.out]), hb⟩

set_option maxHeartbeats 1600000 in
set_option maxRecDepth 100000 in
theorem pk_fitting (ao : Option Addr) (cap : Nat) (ps : List Pk) (a : Option Addr) (n c : Nat) (L : List Cn) (w : World) (hp : PV w ao ps) (hc : CV w (.slice a n c) L) :
    Calls Tryd.prog 40 #[.slice ao ps.length cap, .slice a n c] w fun e w' => ∃ r cr, e = .returned (.slice r L.length cr) ∧ Below w.heap.size w w' ∧ SO w.heap.size w' (.slice r L.length cr) (L.map (fitM ps)) := by
  obtain ⟨i0, hi0, hz0, hz1, hz2⟩ := info_parts Tryd.infoDSet
  obtain ⟨hl, a', c', e, hrow⟩ := hc
  injection e with e1 e2 e3
  subst e1 e2 e3
  have HR : Hid _ := hrow
  have HV : Hid (∀ w', Below w.heap.size w w' → PV w' ao ps) := fun w' hb => hp.below hb
  clear hrow hp
  go_enter Tryd.func40, Tryd.ntmps40
  go_wp2
  go_loopw [5, 11] (fun o i wr => ∃ (k : Nat) (acc : List Nat), k ≤ L.length ∧ i = .int .i64 k ∧ acc.length = k ∧ Hid (SO w.heap.size wr o acc) ∧ Hid ((L.map (fitM ps)).take k = acc) ∧ Below w.heap.size w wr) (fun _ i _ => L.length - (intOf i).toNat)
  case atStart => exact ⟨0, [], by omega, rfl, rfl, World.ownsRow_nil _ _ _ _, by show _ = _; simp, Below.refl _ _⟩
  case round =>
    obtain ⟨k, acc, hk, rfl, hacc, HO, HI, hb⟩ := hrel
    have hbs := hb.size
    by_cases hlt : k < L.length
    · obtain ⟨g, off, rfl, hg, x0, x1, x2⟩ := HR.out k hlt
      rw [← hb.cell (p := ⟨g, _, none⟩) hg] at x0 x1 x2
      have HD : Hid ((L.map (fitM ps)).take (k + 1) = acc ++ [fitM ps L[k]]) := by show _ = _; rw [List.take_succ_eq_append_getElem (by simpa using hlt), HI.out, List.getElem_map]
      have HBA : Hid (Below w.heap.size w (wr.alloc (.cells #[.int .u8 L[k].n, .int .u8 L[k].s, .int .u8 L[k].v] 125))) := hb.alloc hbs _
      clear HI
      generalize L[k] = C at *
      have l1 : fitM ps C < 2 ^ 20 := mskN_lt _ _
      go_wp2_with fail
      refine (doc_Fitting ao cap ps C _ (HV.out _ HBA.out)).mono ?_
      rintro e w1 ⟨rfl, hb1⟩
      have HB2 : Hid (Below w.heap.size w w1) := HBA.out.trans (hb1.mono (by simp; omega))
      have hown : w1.ownsRow w.heap.size 49 1 u5 acc.length (acc.map fun (c : Nat) => .int .u32 (c : Int)) := (HO.out.alloc _).kept hb1
      clear hb1 HO
      have hb2s := HB2.out.size
      go_wp2_with (at_builtin; refine wpList_append_own _ rfl _ _ 58 rfl w.heap.size 49 i0 (.int .u32 0) 1 4 Tryd.underlying58 hi0 hz0 hz1 hz2 rfl (by decide) _ _ _ rfl (hown.alloc _) ⟨w1.heap.size, 0, none⟩ 1 1 [.int .u32 (fitM ps C : Nat)] rfl rfl ?c1 ?c2 ?c3 ?c4 ?c5 ?_)
      case c1 => exact cell_one_new _ _ _
      case c2 => intro u hu; simp at hu; subst hu; rfl
      case c3 => unfold maxLen; omega
      case c4 => omega
      case c5 => simp; omega
      intro v' w2 hown' hgrow _
      have HB3 : Hid (Below w.heap.size w w2) := (HB2.out.alloc (by omega) _).grown hgrow (by simp; omega) (fun j hj => (hown.lt j hj).1)
      have HO2 : Hid (SO w.heap.size w2 v' (acc ++ [fitM ps C])) := by
        show World.ownsRow _ _ _ _ _ _ _
        simpa [hacc] using hown'
      clear hown' hgrow hown
      go_wp2
      go_roundw
      case rel => exact ⟨k + 1, acc ++ [fitM ps C], by omega, by go_num, by simp; omega, HO2, HD, HB3.out⟩
      case measure => simp [intOf]; omega
    · have HF : Hid (L.map (fitM ps) = acc) := by show _ = _; rw [← HI.out, List.take_of_length_le (by simp; omega)]
      have hkl : acc.length = L.length := by omega
      obtain ⟨r, cr, rfl⟩ := HO.out.shape
      rw [hkl] at HO ⊢
      clear HI
      go_wp2
      go_ret
      exact ⟨r, cr, rfl, hb, by rw [HF.out]; exact HO.out⟩

set_option maxHeartbeats 1600000 in
set_option maxRecDepth 100000 in
theorem pk_needed (ao : Option Addr) (cap : Nat) (ps : List Pk) (p : Pk) (an : Option Addr) (nn cn : Nat) (ac : Option Addr) (nc cc : Nat) (ap : Option Addr) (np cp : Nat) (w : World) (hp : PV w ao ps) (hv : PkV w p an nn cn ac nc cc ap np cp) :
    Calls Tryd.prog 37 #[.slice ao ps.length cap, .agg #[.int .u8 p.n, .int .u8 p.v, .int .i64 p.m, .slice an nn cn, .slice ac nc cc, .slice ap np cp]] w fun e w' => ∃ r cr, e = .returned (.slice r (neM ps p).length cr) ∧ Below w.heap.size w w' ∧ SO w.heap.size w' (.slice r (neM ps p).length cr) (neM ps p) := by
  obtain ⟨i0, hi0, hz0, hz1, hz2⟩ := info_parts Tryd.infoDSet
  unfold neM
  obtain ⟨hl, a', c', e, hrow⟩ := hv.1
  injection e with e1 e2 e3
  subst e1 e2 e3
  have HR : Hid _ := hrow
  have HV : Hid (∀ w', Below w.heap.size w w' → PV w' ao ps) := fun w' hb => hp.below hb
  clear hrow hp hv
  generalize p.needs = L at *
  go_enter Tryd.func37, Tryd.ntmps37
  go_wp2
  go_loopw [5, 12] (fun o i wr => ∃ (k : Nat) (acc : List Nat), k ≤ L.length ∧ i = .int .i64 k ∧ acc.length = k ∧ Hid (SO w.heap.size wr o acc) ∧ Hid ((L.map (faM ps)).take k = acc) ∧ Below w.heap.size w wr) (fun _ i _ => L.length - (intOf i).toNat)
  case atStart => exact ⟨0, [], by omega, rfl, rfl, World.ownsRow_nil _ _ _ _, by show _ = _; simp, (Below.refl _ _).alloc (Nat.le_refl _) _⟩
  case round =>
    obtain ⟨k, acc, hk, rfl, hacc, HO, HI, hb⟩ := hrel
    have hbs := hb.size
    by_cases hlt : k < L.length
    · obtain ⟨g2, off2, a2, n2, c2, rfl, hg2, z0, hcv⟩ := HR.out k hlt
      rw [← hb.cell (p := ⟨g2, _, none⟩) hg2] at z0
      have HC : Hid (∀ w', Below w.heap.size w w' → CV w' (.slice a2 n2 c2) L[k]) := fun w' hb => hcv.below hb
      have HD : Hid ((L.map (faM ps)).take (k + 1) = acc ++ [faM ps L[k]]) := by show _ = _; rw [List.take_succ_eq_append_getElem (by simpa using hlt), HI.out, List.getElem_map]
      have HBA : Hid (Below w.heap.size w (wr.alloc (.cells #[.slice a2 n2 c2] 123))) := hb.alloc hbs _
      clear HI hcv
      generalize L[k] = C at *
      have l1 : faM ps C < 2 ^ 20 := faM_lt _ _
      go_wp2_with fail
      refine (pk_fittingAny ao cap ps a2 n2 c2 C _ (HV.out _ HBA.out) (HC.out _ HBA.out)).mono ?_
      rintro e w1 ⟨rfl, hb1⟩
      have HB2 : Hid (Below w.heap.size w w1) := HBA.out.trans (hb1.mono (by simp; omega))
      have hown : w1.ownsRow w.heap.size 49 1 u5 acc.length (acc.map fun (c : Nat) => .int .u32 (c : Int)) := (HO.out.alloc _).kept hb1
      clear hb1 HO
      have hb2s := HB2.out.size
      go_wp2_with (at_builtin; refine wpList_append_own _ rfl _ _ 58 rfl w.heap.size 49 i0 (.int .u32 0) 1 4 Tryd.underlying58 hi0 hz0 hz1 hz2 rfl (by decide) _ _ _ rfl (hown.alloc _) ⟨w1.heap.size, 0, none⟩ 1 1 [.int .u32 (faM ps C : Nat)] rfl rfl ?c1 ?c2 ?c3 ?c4 ?c5 ?_)
      case c1 => exact cell_one_new _ _ _
      case c2 => intro u hu; simp at hu; subst hu; rfl
      case c3 => unfold maxLen; omega
      case c4 => omega
      case c5 => simp; omega
      intro v' w2 hown' hgrow _
      have HB3 : Hid (Below w.heap.size w w2) := (HB2.out.alloc (by omega) _).grown hgrow (by simp; omega) (fun j hj => (hown.lt j hj).1)
      have HO2 : Hid (SO w.heap.size w2 v' (acc ++ [faM ps C])) := by
        show World.ownsRow _ _ _ _ _ _ _
        simpa [hacc] using hown'
      clear hown' hgrow hown
      go_wp2
      go_roundw
      case rel => exact ⟨k + 1, acc ++ [faM ps C], by omega, by go_num, by simp; omega, HO2, HD, HB3.out⟩
      case measure => simp [intOf]; omega
    · have HF : Hid (L.map (faM ps) = acc) := by show _ = _; rw [← HI.out, List.take_of_length_le (by simp; omega)]
      obtain ⟨r, cr, rfl⟩ := HO.out.shape
      clear HI
      go_wp2
      go_ret
      exact ⟨r, cr, ret_slice (by rw [HF.out]), hb, by rw [HF.out]; exact HO.out⟩

set_option maxHeartbeats 1600000 in
set_option maxRecDepth 100000 in
theorem pk_staying (ao : Option Addr) (cap : Nat) (ps : List Pk) (w : World) (hp : PV w ao ps) :
    Calls Tryd.prog 39 #[.slice ao ps.length cap] w fun e w' => ∃ r cr, e = .returned (.slice r (stL ps ps.length).length cr) ∧ Below w.heap.size w w' ∧ SO w.heap.size w' (.slice r (stL ps ps.length).length cr) (stL ps ps.length) := by
  obtain ⟨i0, hi0, hz0, hz1, hz2⟩ := info_parts Tryd.infoDSet
  have hl := hp.1
  have HR : Hid (∀ j (h : j < ps.length), PRw w ao j ps[j]) := hp.2
  have HV : Hid (∀ w', Below w.heap.size w w' → PV w' ao ps) := fun w' hb => hp.below hb
  have HG : Hid (∀ k (h : k < ps.length), stL ps (k + 1) = if ps[k].m = 2 then stL ps k ++ [oneN k] else if ps[k].m = 3 then stL ps k ++ [wnM ps ps[k].n] else stL ps k) := fun k h => by rw [stL, List.getElem?_eq_getElem h]
  have HLN : Hid (∀ k, (stL ps k).length ≤ k) := stL_len ps
  obtain ⟨R, hR⟩ : ∃ R, R = stL ps := ⟨_, rfl⟩
  have HZ : Hid (R 0 = []) := by show _ = _; rw [hR]; rfl
  rw [← hR] at HG HLN ⊢
  clear hp hR
  go_enter Tryd.func39, Tryd.ntmps39
  go_wp2
  go_loopw [3, 8] (fun o i wr => ∃ (k : Nat) (acc : List Nat), k ≤ ps.length ∧ i = .int .i64 k ∧ acc.length ≤ k ∧ Hid (SO w.heap.size wr o acc) ∧ Hid (R k = acc) ∧ Below w.heap.size w wr) (fun _ i _ => ps.length - (intOf i).toNat)
  case atStart => exact ⟨0, [], by omega, rfl, by simp, World.ownsRow_nil _ _ _ _, HZ, Below.refl _ _⟩
  case round =>
    obtain ⟨k, acc, hk, rfl, hacc, HO, HI, hb⟩ := hrel
    have hbs := hb.size
    by_cases hlt : k < ps.length
    · obtain ⟨g, off, an, nn, cn, ac, nc, cc, ap, np, cp, rfl, hg, ⟨x0, x1, x2, x3, x4, x5⟩, hv⟩ := HR.out k hlt
      rw [← hb.cell (p := ⟨g, _, none⟩) hg] at x0 x1 x2 x3 x4 x5
      have HD : Hid (R (k + 1) = if ps[k].m = 2 then acc ++ [oneN k] else if ps[k].m = 3 then acc ++ [wnM ps ps[k].n] else acc) := by show _ = _; rw [HG.out k hlt, HI.out]
      have HBA : Hid (Below w.heap.size w (wr.alloc (.cells #[.int .u8 ps[k].n, .int .u8 ps[k].v, .int .i64 ps[k].m, .slice an nn cn, .slice ac nc cc, .slice ap np cp] 91))) := hb.alloc hbs _
      have hown : (wr.alloc (.cells #[.int .u8 ps[k].n, .int .u8 ps[k].v, .int .i64 ps[k].m, .slice an nn cn, .slice ac nc cc, .slice ap np cp] 91)).ownsRow w.heap.size 49 1 u3 acc.length (acc.map fun (c : Nat) => .int .u32 (c : Int)) := HO.out.alloc _
      clear hv HI
      generalize ps[k] = p at *
      by_cases h2 : p.m = 2
      · have e2 : ((p.m : Int) == 2) = true := by rw [beq_iff_eq]; omega
        have e3 : ((p.m : Int) == 3) = false := by rw [beq_eq_false_iff_ne]; omega
        have HF : Hid (R (k + 1) = acc ++ [oneN k]) := by show _ = _; rw [HD.out, if_pos h2]
        have HBK : Hid ((wr.alloc (.cells #[.int .u8 p.n, .int .u8 p.v, .int .i64 p.m, .slice an nn cn, .slice ac nc cc, .slice ap np cp] 91)).heap[wr.heap.size]? = some (.cells #[.int .u8 p.n, .int .u8 p.v, .int .i64 p.m, .slice an nn cn, .slice ac nc cc, .slice ap np cp] 91 (0, 0))) := blk_new _ _
        clear h2 HD HO
        go_wp2_with fail
        refine (doc_One k _).mono ?_
        rintro e w1 ⟨rfl, rfl⟩
        go_wp2_with (at_builtin; refine wpList_append_own _ rfl _ _ 58 rfl w.heap.size 49 i0 (.int .u32 0) 1 4 Tryd.underlying58 hi0 hz0 hz1 hz2 rfl (by decide) _ _ _ rfl (hown.alloc _) ⟨wr.heap.size + 1, 0, none⟩ 1 1 [.int .u32 (oneN k : Nat)] rfl rfl ?c1 ?c2 ?c3 ?c4 ?c5 ?_)
        case c1 => have := cell_new (wr.alloc (.cells #[.int .u8 p.n, .int .u8 p.v, .int .i64 p.m, .slice an nn cn, .slice ac nc cc, .slice ap np cp] 91)) [.int .u32 (oneN k : Nat)] 49; rw [World.size_alloc] at this; exact this
        case c2 => intro u hu; simp at hu; subst hu; rfl
        case c3 => unfold maxLen; omega
        case c4 => omega
        case c5 => simp; omega
        intro v' w2 hown' hgrow _
        have HB3 : Hid (Below w.heap.size w w2) := (HBA.out.alloc (by simp; omega) _).grown hgrow (by simp; omega) (fun j hj => (hown.lt j hj).1)
        have HO2 : Hid (SO w.heap.size w2 v' (acc ++ [oneN k])) := by
          show World.ownsRow _ _ _ _ _ _ _
          simpa using hown'
        have hbk2 : w2.heap[wr.heap.size]? = some (.cells #[.int .u8 p.n, .int .u8 p.v, .int .i64 p.m, .slice an nn cn, .slice ac nc cc, .slice ap np cp] 91 (0, 0)) := (hgrow.block _ (by simp; omega) (own_blk_ne hown HBK.out (by decide))).trans (blk_old HBK.out _)
        have t2 := cellAt hbk2 2
        simp at t2
        clear hown' hgrow hown hbk2
        go_wp2
        go_roundw
        case rel => exact ⟨k + 1, acc ++ [oneN k], by omega, by go_num, by simp; omega, HO2, HF, HB3.out⟩
        case measure => simp [intOf]; omega
      · have e2 : ((p.m : Int) == 2) = false := by rw [beq_eq_false_iff_ne]; omega
        by_cases h3 : p.m = 3
        · have e3 : ((p.m : Int) == 3) = true := by rw [beq_iff_eq]; omega
          have HF : Hid (R (k + 1) = acc ++ [wnM ps p.n]) := by show _ = _; rw [HD.out, if_neg h2, if_pos h3]
          have l1 : wnM ps p.n < 2 ^ 20 := mskN_lt _ _
          clear h2 h3 HD HO
          go_wp2_with fail
          refine (doc_WithName _ cap ps p.n _ (HV.out _ HBA.out)).mono ?_
          rintro e w1 ⟨rfl, hb1⟩
          have HB2 : Hid (Below w.heap.size w w1) := HBA.out.trans (hb1.mono (by simp; omega))
          have hown1 := own_kept hown hb1
          have hb2s := HB2.out.size
          clear hb1 hown
          go_wp2_with (at_builtin; refine wpList_append_own _ rfl _ _ 58 rfl w.heap.size 49 i0 (.int .u32 0) 1 4 Tryd.underlying58 hi0 hz0 hz1 hz2 rfl (by decide) _ _ _ rfl (hown1.alloc _) ⟨w1.heap.size, 0, none⟩ 1 1 [.int .u32 (wnM ps p.n : Nat)] rfl rfl ?c1 ?c2 ?c3 ?c4 ?c5 ?_)
          case c1 => exact cell_one_new _ _ _
          case c2 => intro u hu; simp at hu; subst hu; rfl
          case c3 => unfold maxLen; omega
          case c4 => omega
          case c5 => simp; omega
          intro v' w2 hown' hgrow _
          have HB3 : Hid (Below w.heap.size w w2) := (HB2.out.alloc (by omega) _).grown hgrow (by simp; omega) (fun j hj => (hown1.lt j hj).1)
          have HO2 : Hid (SO w.heap.size w2 v' (acc ++ [wnM ps p.n])) := by
            show World.ownsRow _ _ _ _ _ _ _
            simpa using hown'
          clear hown' hgrow hown1
          go_wp2
          go_roundw
          case rel => exact ⟨k + 1, acc ++ [wnM ps p.n], by omega, by go_num, by simp; omega, HO2, HF, HB3.out⟩
          case measure => simp [intOf]; omega
        · have e3 : ((p.m : Int) == 3) = false := by rw [beq_eq_false_iff_ne]; omega
          have HF : Hid (R (k + 1) = acc) := by show _ = _; rw [HD.out, if_neg h2, if_neg h3]
          have HO2 : Hid (SO w.heap.size _ u3 acc) := hown
          clear h2 h3 HD HO hown
          go_wp2
          go_roundw
          case rel => exact ⟨k + 1, acc, by omega, by go_num, by omega, HO2, HF, HBA.out⟩
          case measure => simp [intOf]; omega
    · have hkl : k = ps.length := by omega
      have HF : Hid (R ps.length = acc) := by show _ = _; rw [← hkl, HI.out]
      obtain ⟨r, cr, rfl⟩ := HO.out.shape
      clear HI hkl
      go_wp2
      go_ret
      exact ⟨r, cr, ret_slice (by rw [HF.out]), hb, by rw [HF.out]; exact HO.out⟩

end Go.Proofs.YtenbnmbbfeekpaaDoor
