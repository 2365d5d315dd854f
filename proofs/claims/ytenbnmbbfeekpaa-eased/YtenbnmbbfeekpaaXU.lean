import Derived.Test.YtenbnmbbfeekpaaXU0

namespace Go.Proofs.Ytenbnmbbfeekpaa
open Go.RowKit

set_option maxHeartbeats 1600000 in
set_option maxRecDepth 100000 in
theorem keep_met (C : List UInt8) (b : Int) (w : World) (hC8 : C.length ≤ 4000) (hC : ∀ x ∈ C, clB x.toNat = true) : Calls Try.prog 8 #[.string (bs C), .int .i64 b] w fun e w' => e = .returned (.bool (mtC (bitF b) false C)) ∧ w' = w := by
  have hsC : (bs C).size = C.length := bs_size C
  have HC : Hid (∀ x ∈ C, clB x.toNat = true) := hC
  clear hC
  generalize hRB : mtC (bitF b) false C = R at *
  have HR0 : Hid (R = mtC (bitF b) false C) := hRB.symm
  clear hRB
  go_enter Try.func8, Try.ntmps8
  go_wp2
  go_loop [5, 6] (fun s i => ∃ (k : Nat) (sm : Bool), k ≤ C.length ∧ i = .int .i64 k ∧ s = .bool sm ∧ Hid (R = mtC (bitF b) sm (C.drop k))) (fun _ i => C.length - (intOf i).toNat)
  case atStart => exact ⟨0, false, by omega, rfl, rfl, by show _ = _; rw [List.drop_zero]; exact HR0.out⟩
  case round =>
    obtain ⟨k, sm, hk, rfl, rfl, HI⟩ := hrel
    by_cases hlt : k < C.length
    · have hi : (k : Int) < ((bs C).size : Int) := by rw [hsC]; omega
      obtain ⟨X, hX⟩ : ∃ X, X = C[k].toNat := ⟨_, rfl⟩
      have q0 : ∀ h, ((bs C)[k]'h).toNat = X := fun h => by rw [kAt, hX]
      have HX : Hid (clB X = true) := by show _ = _; rw [hX]; exact HC.out _ (List.getElem_mem _)
      have HD : Hid (R = if X = 59 then sm && mtC (bitF b) false (C.drop (k + 1)) else mtC (bitF b) (sm || trB (bitF b) X) (C.drop (k + 1))) := by
        show _ = _; rw [HI.out, List.drop_eq_getElem_cons hlt, mtC, hX]
      clear HI hX
      by_cases h59 : X = 59
      · have y59 : ((X : Int) == 59) = true := by rw [beq_iff_eq]; omega
        have HD2 : Hid (R = (sm && mtC (bitF b) false (C.drop (k + 1)))) := by show _ = _; rw [HD.out, if_pos h59]
        clear HD h59
        cases sm with
        | false =>
          have HE : Hid (R = false) := by show _ = _; rw [HD2.out]; rfl
          clear HD2
          go_wp2
          go_ret
          exact ⟨ret_bool HE.out.symm, rfl⟩
        | true =>
          have HE : Hid (R = mtC (bitF b) false (C.drop (k + 1))) := by show _ = _; rw [HD2.out]; rfl
          clear HD2
          go_wp2
          go_round
          case rel => exact ⟨k + 1, false, by omega, by go_num, rfl, HE⟩
          case measure => simp [intOf]; omega
      · have y59 : ((X : Int) == 59) = false := by rw [beq_eq_false_iff_ne]; omega
        have HL : Hid (litB X = true) := by show _ = _; have := HX.out; unfold clB at this; simpa [h59] using this
        have HD2 : Hid (R = mtC (bitF b) (sm || trB (bitF b) X) (C.drop (k + 1))) := by show _ = _; rw [HD.out, if_neg h59]
        clear HD h59
        cases sm with
        | false =>
          go_wp2_with fail
          refine (keep_holds b X _ HL.out).mono ?_
          rintro e w1 ⟨rfl, rfl⟩
          go_wp2
          go_round
          case rel => exact ⟨k + 1, _, by omega, by go_num, rfl, HD2⟩
          case measure => simp [intOf]; omega
        | true =>
          go_wp2_with fail
          refine (keep_holds b X _ HL.out).mono ?_
          rintro e w1 ⟨rfl, rfl⟩
          go_wp2
          go_round
          case rel => exact ⟨k + 1, true, by omega, by go_num, rfl, HD2⟩
          case measure => simp [intOf]; omega
    · have hkl : ¬ (k : Int) < (C.length : Int) := by omega
      have HE : Hid (R = true) := by show _ = _; rw [HI.out, List.drop_of_length_le (by omega)]; rfl
      go_wp2
      go_ret
      exact ⟨ret_bool HE.out.symm, rfl⟩

set_option maxHeartbeats 1600000 in
set_option maxRecDepth 100000 in
theorem keep_every (A : List UInt8) (b : Int) (w : World) (hA8 : A.length ≤ 4000) (hA : ∀ x ∈ A, litB x.toNat = true) : Calls Try.prog 9 #[.string (bs A), .int .i64 b] w fun e w' => e = .returned (.bool (A.all fun x => trB (bitF b) x.toNat)) ∧ w' = w := by
  have hsA : (bs A).size = A.length := bs_size A
  have HA : Hid (∀ x ∈ A, litB x.toNat = true) := hA
  clear hA
  generalize hRB : (A.all fun x => trB (bitF b) x.toNat) = R at *
  have HR1 : Hid (R = A.all fun x => trB (bitF b) x.toNat) := hRB.symm
  clear hRB
  go_enter Try.func9, Try.ntmps9
  go_wp2
  go_loop [5] (fun i => ∃ k : Nat, k ≤ A.length ∧ i = .int .i64 k ∧ Hid (R = (A.drop k).all fun x => trB (bitF b) x.toNat)) (fun i => A.length - (intOf i).toNat)
  case atStart => exact ⟨0, by omega, rfl, HR1⟩
  case round =>
    obtain ⟨j, hj, rfl, HI⟩ := hrel
    by_cases hlt : j < A.length
    · have hi : (j : Int) < ((bs A).size : Int) := by rw [hsA]; omega
      obtain ⟨X, hX⟩ : ∃ X, X = A[j].toNat := ⟨_, rfl⟩
      have q0 : ∀ h, ((bs A)[j]'h).toNat = X := fun h => by rw [kAt, hX]
      have HL : Hid (litB X = true) := by show _ = _; rw [hX]; exact HA.out _ (List.getElem_mem _)
      have HD : Hid (R = (trB (bitF b) X && (A.drop (j + 1)).all fun x => trB (bitF b) x.toNat)) := by show _ = _; rw [HI.out, List.drop_eq_getElem_cons hlt, hX]; rfl
      clear HI hX
      cases ht : trB (bitF b) X with
      | true =>
        have HE : Hid (R = (A.drop (j + 1)).all fun x => trB (bitF b) x.toNat) := by show _ = _; rw [HD.out, ht]; rfl
        have HT : Hid (trB (bitF b) X = true) := ht
        clear ht HD
        go_wp2_with fail
        refine (keep_holds b X _ HL.out).mono ?_
        rintro e w1 ⟨rfl, rfl⟩
        rw [HT.out]
        go_wp2
        go_round
        case rel => exact ⟨j + 1, by omega, by go_num, HE⟩
        case measure => simp [intOf]; omega
      | false =>
        have HE : Hid (R = false) := by show _ = _; rw [HD.out, ht]; rfl
        have HT : Hid (trB (bitF b) X = false) := ht
        clear ht HD
        go_wp2_with fail
        refine (keep_holds b X _ HL.out).mono ?_
        rintro e w1 ⟨rfl, rfl⟩
        rw [HT.out]
        go_wp2
        go_ret
        exact ⟨ret_bool HE.out.symm, rfl⟩
    · have hjl : ¬ (j : Int) < (A.length : Int) := by omega
      have HE : Hid (R = true) := by show _ = _; rw [HI.out, List.drop_of_length_le (by omega)]; rfl
      go_wp2
      go_ret
      exact ⟨ret_bool HE.out.symm, rfl⟩

set_option maxHeartbeats 1600000 in
set_option maxRecDepth 100000 in
theorem keep_bits (S : List UInt8) (w : World) (hS8 : S.length ≤ 4000) : Calls Try.prog 7 #[.string (bs S)] w fun e w' => e = .returned (.int .i64 (bitS S 0 : Nat)) ∧ w' = w := by
  have hsS : (bs S).size = S.length := bs_size S
  generalize hRB : bitS S 0 = R at *
  have HR1 : Hid (R = bitS S 0) := hRB.symm
  clear hRB
  go_enter Try.func7, Try.ntmps7
  go_wp2
  go_loop [3, 4] (fun n i => ∃ k b : Nat, k ≤ S.length ∧ i = .int .i64 k ∧ n = .int .i64 b ∧ b < 2 ^ 26 ∧ Hid (R = bitS (S.drop k) b)) (fun _ i => S.length - (intOf i).toNat)
  case atStart => exact ⟨0, 0, by omega, rfl, rfl, by decide, HR1⟩
  case round =>
    obtain ⟨j, b, hj, rfl, rfl, hb, HI⟩ := hrel
    have hb63 : b < 9223372036854775808 := Nat.lt_of_lt_of_le hb (by decide)
    by_cases hlt : j < S.length
    · have hi : (j : Int) < ((bs S).size : Int) := by rw [hsS]; omega
      obtain ⟨X, hX⟩ : ∃ X, X = S[j].toNat := ⟨_, rfl⟩
      have q0 : ∀ h, ((bs S)[j]'h).toNat = X := fun h => by rw [kAt, hX]
      have HD : Hid (R = bitS (S.drop (j + 1)) (if 97 ≤ X ∧ X ≤ 122 then b ||| 2 ^ (X - 97) else b)) := by show _ = _; rw [HI.out, List.drop_eq_getElem_cons hlt, hX]; rfl
      clear HI hX
      by_cases h1 : 97 ≤ X
      · have e1 : (97 : Int) ≤ (X : Int) := by omega
        by_cases h2 : X ≤ 122
        · have e2 : (X : Int) ≤ 122 := by omega
          obtain ⟨V, hV⟩ : ∃ V, V = X - 97 := ⟨_, rfl⟩
          have cV : (X : Int) - 97 = (V : Int) := by omega
          have hV26 : V < 26 := by omega
          have HE : Hid (R = bitS (S.drop (j + 1)) (b ||| 2 ^ V)) := by show _ = _; rw [HD.out, if_pos ⟨h1, h2⟩, hV]
          clear HD hV
          have hp63 : 2 ^ V < 9223372036854775808 := Nat.lt_of_le_of_lt (Nat.pow_le_pow_right (by omega) (Nat.le_of_lt hV26)) (by decide)
          have hor := or_i64_nat b (2 ^ V) hb63 hp63
          have hsh : bits BinOp.or IntKind.i64 (b : Int) (wrap64 (2 ^ V)) = ((b ||| 2 ^ V : Nat) : Int) := by
            rw [← hor, pow_cast, wrap64_fit (Int.natCast_nonneg _) (Int.ofNat_lt.2 hp63)]
          have HOB : Hid (b ||| 2 ^ V < 2 ^ 26) := Nat.or_lt_two_pow hb (Nat.pow_lt_pow_right (by omega) hV26)
          clear hb
          go_wp2
          go_round
          case rel => exact ⟨j + 1, b ||| 2 ^ V, by omega, by go_num, by first | rfl | rw [hsh], HOB.out, HE⟩
          case measure => simp [intOf]; omega
        · have e2 : ¬ (X : Int) ≤ 122 := by omega
          have d2 : decide (X ≤ 122) = false := by simpa using h2
          have HE : Hid (R = bitS (S.drop (j + 1)) b) := by show _ = _; rw [HD.out, if_neg (fun h => h2 h.2)]
          have HOB : Hid (b < 2 ^ 26) := hb
          clear HD hb
          go_wp2
          go_round
          case rel => exact ⟨j + 1, b, by omega, by go_num, rfl, HOB.out, HE⟩
          case measure => simp [intOf]; omega
      · have e1 : ¬ (97 : Int) ≤ (X : Int) := by omega
        have d1 : decide (97 ≤ X) = false := by simpa using h1
        have HE : Hid (R = bitS (S.drop (j + 1)) b) := by show _ = _; rw [HD.out, if_neg (fun h => h1 h.1)]
        have HOB : Hid (b < 2 ^ 26) := hb
        clear HD hb
        go_wp2
        go_round
        case rel => exact ⟨j + 1, b, by omega, by go_num, rfl, HOB.out, HE⟩
        case measure => simp [intOf]; omega
    · have hjl : ¬ (j : Int) < (S.length : Int) := by omega
      have HE : Hid (R = b) := by show _ = _; rw [HI.out, List.drop_of_length_le (by omega)]; rfl
      clear hb
      go_wp2
      go_ret
      exact ⟨ret_int (by rw [HE.out]), rfl⟩

set_option maxHeartbeats 800000 in
set_option maxRecDepth 100000 in
theorem keep_stands (s : List UInt8) (c : Nat) (w : World) (hs : s.length ≤ 4000) : Calls Try.prog 10 #[.string (bs s), .int .u8 c] w fun e w' => e = .returned (.bool (hasB s c)) ∧ w' = w := by
  have hsz : (bs s).size = s.length := bs_size s
  have hb : (bs s).size ≤ 4000 := by omega
  have HZ : Hid ((bs s).size = s.length) := hsz
  clear hsz
  go_enter Try.func10, Try.ntmps10
  go_wp2
  go_loop [5] (fun i => ∃ k : Nat, k ≤ (bs s).size ∧ i = .int .i64 k ∧ Hid (hasB s c = hasB (s.drop k) c)) (fun i => (bs s).size - (intOf i).toNat)
  case atStart => exact ⟨0, by omega, rfl, by show _ = _; simp⟩
  case round =>
    obtain ⟨k, hk, rfl, HI⟩ := hrel
    by_cases hlt : k < (bs s).size
    · have hlt' : k < s.length := by rw [HZ.out] at hlt; exact hlt
      obtain ⟨X, hX⟩ : ∃ X, X = s[k].toNat := ⟨_, rfl⟩
      have q0 : ∀ h, ((bs s)[k]'h).toNat = X := fun h => by rw [kAt, hX]
      have HD : Hid (hasB s c = (X == c || hasB (s.drop (k + 1)) c)) := by show _ = _; rw [HI.out, List.drop_eq_getElem_cons hlt', hX]; rfl
      clear HI hX
      by_cases he : X = c
      · have e1 : ((X : Int) == c) = true := by rw [beq_iff_eq]; omega
        have HE : Hid (hasB s c = true) := by show _ = _; rw [HD.out]; simp [he]
        clear he HD
        go_wp2
        go_ret
        exact ⟨ret_bool HE.out.symm, rfl⟩
      · have e1 : ((X : Int) == c) = false := by rw [beq_eq_false_iff_ne]; omega
        have HE : Hid (hasB s c = hasB (s.drop (k + 1)) c) := by show _ = _; rw [HD.out]; simp [he]
        clear he HD
        go_wp2
        go_round
        case rel => exact ⟨k + 1, by omega, by go_num, HE⟩
        case measure => simp [intOf]; omega
    · have HE : Hid (hasB s c = false) := by show _ = _; rw [HI.out, List.drop_of_length_le (by rw [HZ.out] at hlt; omega)]; rfl
      go_wp2
      go_ret
      exact ⟨ret_bool HE.out.symm, rfl⟩

set_option maxHeartbeats 1600000 in
set_option maxRecDepth 100000 in
theorem keep_units (A : List UInt8) (w : World) (hA8 : A.length ≤ 4000) : Calls Try.prog 11 #[.string (bs A)] w fun e w' => e = .returned (.string (bs (unitsT A))) ∧ w' = w := by
  have hsA : (bs A).size = A.length := bs_size A
  have HSA : Hid ((bs A).size = A.length) := hsA
  go_enter Try.func11, Try.ntmps11
  go_wp2
  go_loop [3, 4] (fun t i => ∃ k : Nat, k ≤ A.length ∧ i = .int .i64 k ∧ t = .string (bs (unitsT (A.take k)))) (fun _ i => A.length - (intOf i).toNat)
  case atStart => exact ⟨0, by omega, rfl, rfl⟩
  case round =>
    obtain ⟨k, hk, rfl, rfl⟩ := hrel
    by_cases hlt : k < A.length
    · have hi : (k : Int) < ((bs A).size : Int) := by rw [hsA]; omega
      obtain ⟨U, hU⟩ : ∃ U, U = unitsT (A.take k) := ⟨_, rfl⟩
      have hUl : (bs U).size ≤ 8000 := by rw [bs_size, hU, units_len]; simp; omega
      obtain ⟨x, hx⟩ : ∃ x, x = A[k] := ⟨_, rfl⟩
      have hX : (bs A).extract k (k + 1) = bs [x] := by
        rw [extract_bs, bs_list, List.drop_take, List.drop_eq_getElem_cons hlt, show k + 1 - k = 1 by omega, hx]; rfl
      have hXs : (bs [x]).size = 1 := rfl
      have HS : Hid (unitsT (A.take (k + 1)) = U ++ [x] ++ [59]) := by
        show _ = _
        rw [List.take_succ_eq_append_getElem hlt, hU, hx]
        unfold unitsT
        rw [List.flatMap_append, List.append_assoc]
        rfl
      rw [← hU]
      clear hU hx
      go_wp2
      go_round
      case rel => exact ⟨k + 1, by omega, by go_num, by rw [HS.out, ← kApp, ← kApp]; first | rfl | (rw [hX]; rfl)⟩
      case measure => simp [intOf]; omega
    · have hkl : ¬ (k : Int) < (A.length : Int) := by omega
      have HE : Hid (unitsT (A.take k) = unitsT A) := by show _ = _; rw [List.take_of_length_le (by omega)]
      rw [HE.out]
      go_wp2
      go_ret
      exact ⟨rfl, rfl⟩

end Go.Proofs.Ytenbnmbbfeekpaa

namespace Go.Proofs.Ytenbnmbbfeekpaa
open Go.RowKit

set_option maxHeartbeats 3200000 in
set_option maxRecDepth 100000 in
theorem keep_Decided {T : List UInt8 → List UInt8 → List UInt8} {B : List UInt8 → List UInt8 → Bool} (hp : SolveP T B) (hc : SolveC T B) (C A : List UInt8) (b : Int) (w : World) (hCm : C.length ≤ maxLen) (hAm : A.length ≤ maxLen) : Calls Try.prog 3 #[.string (bs C), .string (bs A), .int .i64 b] w fun e w' => e = .returned (.bool true) ∧ Below w.heap.size w w' := by
  have HSC : Hid (SolveC T B) := hc
  have HSP : Hid (SolveP T B) := hp
  have HC : Hid (C.length ≤ maxLen) := hCm
  have HA : Hid (A.length ≤ maxLen) := hAm
  have hln := hp.len C A
  have HLI : Hid (∀ x ∈ T C A, litB x.toNat = true) := hp.lits C A
  clear hp hc hCm hAm
  obtain ⟨S, hS⟩ : ∃ S, T C A = S := ⟨_, rfl⟩
  obtain ⟨V, hV⟩ : ∃ V, B C A = V := ⟨_, rfl⟩
  have HS : Hid (T C A = S) := hS
  have HV : Hid (B C A = V) := hV
  rw [hS] at hln HLI
  by_cases h0 : rfE C A = 0
  · obtain ⟨hC8, hA8, hC, _, hA⟩ := rf_ok h0
    have HCl : Hid (∀ x ∈ C, clB x.toNat = true) := hC
    have HAl : Hid (∀ x ∈ A, litB x.toNat = true) := hA
    have H0 : Hid (rfE C A = 0) := h0
    cases V with
    | true =>
      obtain ⟨f, hf, e⟩ := HSP.out.sat C A h0 hV
      obtain ⟨m1, m2, m3⟩ := model_bits hC hA hf
      rw [← e, hS] at m1 m2 m3
      have M1 : Hid (mtC (bitF ((bitS S 0 : Nat) : Int)) false C = true) := m1
      have M2 : Hid ((A.all fun x => trB (bitF ((bitS S 0 : Nat) : Int)) x.toNat) = true) := m2
      have M3 : Hid ((S.all fun x => trB (bitF ((bitS S 0 : Nat) : Int)) x.toNat) = true) := m3
      clear e hf hV hS h0 hC hA m1 m2 m3
      go_enter Try.func3, Try.ntmps3
      go_wp2_with fail
      refine (keep_tells HSP.out HSC.out _).mono ?_
      rintro r w1 ⟨rfl, hb1⟩
      have HB1 : Hid (Below w.heap.size w w1) := hb1
      clear hb1
      go_wp2_with fail
      refine (HSC.out C A _ HC.out HA.out).mono ?_
      rintro r w2 ⟨rfl, hb2⟩
      rw [HS.out, HV.out, H0.out]
      have HB2 : Hid (Below w.heap.size w w2) := HB1.out.trans (hb2.mono HB1.out.size)
      clear hb2
      go_wp2_with fail
      refine (keep_bits S _ (by omega)).mono ?_
      rintro r w3 ⟨rfl, rfl⟩
      go_wp2_with fail
      refine (keep_met C (bitS S 0 : Nat) _ (by omega) HCl.out).mono ?_
      rintro r w3 ⟨rfl, rfl⟩
      rw [M1.out]
      go_wp2_with fail
      refine (keep_every A (bitS S 0 : Nat) _ (by omega) HAl.out).mono ?_
      rintro r w3 ⟨rfl, rfl⟩
      rw [M2.out]
      go_wp2_with fail
      refine (keep_every S (bitS S 0 : Nat) _ (by omega) HLI.out).mono ?_
      rintro r w3 ⟨rfl, rfl⟩
      rw [M3.out]
      go_wp2
      go_ret
      exact ⟨rfl, HB2.out⟩
    | false =>
      obtain ⟨u1, u2⟩ := HSP.out.uns C A h0 hV
      obtain ⟨a1, a2⟩ := HSP.out.again h0 hV
      rw [hS] at u1 u2 a1 a2
      have U1 : Hid (∀ x ∈ S, hasB A x.toNat = true) := (smB_props u1).1
      have U2 : Hid ((mtC (bitF b) false C && S.all fun x => trB (bitF b) x.toNat) = false) := u2 (bitF b)
      have A1 : Hid (rfE C S = 0) := a1
      have A2 : Hid (B C S = false) := a2
      have hSm : S.length ≤ maxLen := Nat.le_trans hln (by unfold maxLen; decide)
      have hsS : (bs S).size = S.length := bs_size S
      clear hV hS h0 hC hA u1 u2 a1 a2
      go_enter Try.func3, Try.ntmps3
      go_wp2_with fail
      refine (keep_tells HSP.out HSC.out _).mono ?_
      rintro r w1 ⟨rfl, hb1⟩
      have HB1 : Hid (Below w.heap.size w w1) := hb1
      clear hb1
      go_wp2_with fail
      refine (HSC.out C A _ HC.out HA.out).mono ?_
      rintro r w2 ⟨rfl, hb2⟩
      rw [HS.out, HV.out, H0.out]
      have HB2 : Hid (Below w.heap.size w w2) := HB1.out.trans (hb2.mono HB1.out.size)
      have hw2 : w.heap.size ≤ w2.heap.size := HB2.out.size
      clear hb2
      go_wp2
      go_loopw [15] (fun i wr => ∃ k : Nat, k ≤ S.length ∧ i = .int .i64 k ∧ wr = w2) (fun i _ => S.length - (intOf i).toNat)
      case atStart => exact ⟨0, by omega, rfl, rfl⟩
      case round =>
        obtain ⟨k, hk, rfl, rfl⟩ := hrel
        by_cases hlt : k < S.length
        · have hi : (k : Int) < ((bs S).size : Int) := by rw [hsS]; omega
          obtain ⟨X, hX⟩ : ∃ X, X = S[k].toNat := ⟨_, rfl⟩
          have q0 : ∀ h, ((bs S)[k]'h).toNat = X := fun h => by rw [kAt, hX]
          have HH : Hid (hasB A X = true) := by show _ = _; rw [hX]; exact U1.out _ (List.getElem_mem _)
          clear hX
          go_wp2_with fail
          refine (keep_stands A X _ (by omega)).mono ?_
          rintro r w3 ⟨rfl, rfl⟩
          rw [HH.out]
          go_wp2
          go_roundw
          case rel => exact ⟨k + 1, by omega, by go_num, by first | rfl | trivial⟩
          case measure => simp [intOf]; omega
        · have hkl : ¬ (k : Int) < (S.length : Int) := by omega
          obtain ⟨x, HX⟩ : ∃ x, Hid (mtC (bitF b) false C = x) := ⟨_, rfl⟩
          obtain ⟨y, HY⟩ : ∃ y, Hid ((S.all fun x => trB (bitF b) x.toNat) = y) := ⟨_, rfl⟩
          have HXY : Hid ((x && y) = false) := by show _ = _; rw [← HX.out, ← HY.out]; exact U2.out
          go_wp2_with fail
          refine (keep_met C b _ (by omega) HCl.out).mono ?_
          rintro r w3 ⟨rfl, rfl⟩
          rw [HX.out]
          go_wp2_with fail
          refine (keep_every S b _ (by omega) HLI.out).mono ?_
          rintro r w3 ⟨rfl, rfl⟩
          rw [HY.out]
          go_wp2_with fail
          refine (HSC.out C S _ HC.out hSm).mono ?_
          rintro r w3 ⟨rfl, hb3⟩
          rw [A1.out, A2.out]
          have HB3 : Hid (Below w.heap.size w w3) := HB2.out.trans (hb3.mono hw2)
          clear hb3
          cases x with
          | false =>
            go_wp2
            go_ret
            exact ⟨rfl, HB3.out⟩
          | true =>
            cases y with
            | false =>
              go_wp2
              go_ret
              exact ⟨rfl, HB3.out⟩
            | true => exact absurd HXY.out (by decide)
  · obtain ⟨e1, e2⟩ := HSP.out.bad C A h0
    have hv := rf_vals h0
    obtain rfl : S = [] := hS.symm.trans e1
    obtain rfl : V = false := hV.symm.trans e2
    have n0 : ((rfE C A : Int) != 0) = true := by rw [bne_iff_ne]; omega
    have hse : (((bs []).toList == []) : Bool) = true := by rw [kTl]; rfl
    have hse2 : (bs []).toList.isEmpty = true := by rw [kTl]; rfl
    have hcases : Hid (rfE C A = 1 ∨ rfE C A = 8 ∨ rfE C A = 9) := hv
    clear h0 hv hS hV e1 e2
    generalize hE : rfE C A = E at *
    have HE : Hid (rfE C A = E) := hE
    clear hE
    go_enter Try.func3, Try.ntmps3
    go_wp2_with fail
    refine (keep_tells HSP.out HSC.out _).mono ?_
    rintro r w1 ⟨rfl, hb1⟩
    have HB1 : Hid (Below w.heap.size w w1) := hb1
    clear hb1
    go_wp2_with fail
    refine (HSC.out C A _ HC.out HA.out).mono ?_
    rintro r w2 ⟨rfl, hb2⟩
    rw [HS.out, HV.out, HE.out]
    have HB2 : Hid (Below w.heap.size w w2) := HB1.out.trans (hb2.mono HB1.out.size)
    clear hb2
    rcases hcases.out with rfl | rfl | rfl
    · go_wp2
      go_ret
      exact ⟨rfl, HB2.out⟩
    · go_wp2
      go_ret
      exact ⟨rfl, HB2.out⟩
    · go_wp2
      go_ret
      exact ⟨rfl, HB2.out⟩

end Go.Proofs.Ytenbnmbbfeekpaa

namespace Go.Proofs.Ytenbnmbbfeekpaa
open Go.RowKit

set_option maxHeartbeats 3200000 in
set_option maxRecDepth 100000 in
theorem keep_Eased {T : List UInt8 → List UInt8 → List UInt8} {B : List UInt8 → List UInt8 → Bool} (hp : SolveP T B) (hc : SolveC T B) (C D A : List UInt8) (w : World) (hCm : C.length ≤ maxLen) (hDm : D.length ≤ maxLen) (hAm : A.length ≤ maxLen) : Calls Try.prog 4 #[.string (bs C), .string (bs D), .string (bs A)] w fun e w' => e = .returned (.bool true) ∧ Below w.heap.size w w' := by
  have HSC : Hid (SolveC T B) := hc
  have HSP : Hid (SolveP T B) := hp
  have HC : Hid (C.length ≤ maxLen) := hCm
  have HD : Hid (D.length ≤ maxLen) := hDm
  have HA : Hid (A.length ≤ maxLen) := hAm
  have hsC : (bs C).size = C.length := bs_size C
  have hsD : (bs D).size = D.length := bs_size D
  clear hp hc hCm hDm hAm
  obtain ⟨a, ha⟩ : ∃ a, B C A = a := ⟨_, rfl⟩
  obtain ⟨b, hb⟩ : ∃ b, B D A = b := ⟨_, rfl⟩
  obtain ⟨e1, he1⟩ : ∃ e, rfE C A = e := ⟨_, rfl⟩
  obtain ⟨f1, hf1⟩ : ∃ f, rfE D A = f := ⟨_, rfl⟩
  have Ha : Hid (B C A = a) := ha
  have Hb : Hid (B D A = b) := hb
  have He : Hid (rfE C A = e1) := he1
  have Hf : Hid (rfE D A = f1) := hf1
  have hle1 : e1 ≤ 9 := by rw [← he1]; exact rf_le C A
  have hle2 : f1 ≤ 9 := by rw [← hf1]; exact rf_le D A
  by_cases z1 : e1 = 0
  · by_cases z2 : f1 = 0
    · subst z1 z2
      obtain ⟨hC8, hA8, _, hCl, _⟩ := rf_ok he1
      obtain ⟨hD8, _, _, _, _⟩ := rf_ok hf1
      have HG : Hid (∀ w', Calls Try.prog 6 #[.string (bs (C ++ D)), .string (bs A)] w' fun r w'' => r = .returned (.tuple #[.string (bs (T (C ++ D) A)), .bool (B (C ++ D) A), .int .i64 (rfE (C ++ D) A : Nat)]) ∧ Below w'.heap.size w' w'') := fun w' => HSC.out (C ++ D) A w' (by rw [List.length_append]; unfold maxLen; omega) HA.out
      have hsU : (bs (unitsT A)).size = 2 * A.length := by rw [bs_size, units_len]
      have hUl : (unitsT A).length ≤ 1600 := by rw [units_len]; omega
      have HU : Hid (∀ w', Calls Try.prog 6 #[.string (bs (C ++ unitsT A)), .string (bs [])] w' fun r w'' => r = .returned (.tuple #[.string (bs (T (C ++ unitsT A) [])), .bool (B (C ++ unitsT A) []), .int .i64 (rfE (C ++ unitsT A) [] : Nat)]) ∧ Below w'.heap.size w' w'') := fun w' => HSC.out (C ++ unitsT A) [] w' (by rw [List.length_append]; unfold maxLen; omega) (Nat.zero_le _)
      by_cases hl : C.length + D.length ≤ 800
      · have hli : ¬ (800 : Int) < (C.length : Int) + (D.length : Int) := by omega
        have R1 : Hid (rfE (C ++ D) A = 0) := rf_app he1 hf1 hl
        obtain ⟨g, hg⟩ : ∃ g, B (C ++ D) A = g := ⟨_, rfl⟩
        have HGB : Hid (B (C ++ D) A = g) := hg
        have HAB : Hid (g = true → a = true ∧ b = true) := fun h => by
          have := HSP.out.app he1 hf1 hl (hg.trans h)
          rw [ha, hb] at this
          exact this
        by_cases hl2 : C.length + 2 * A.length ≤ 800
        · have hli2 : ¬ (800 : Int) < (C.length : Int) + (2 * (A.length : Int)) := by omega
          have R2 : Hid (rfE (C ++ unitsT A) [] = 0) := rf_units he1 hl2
          have B2 : Hid (B (C ++ unitsT A) [] = a) := by show _ = _; rw [HSP.out.units he1 hl2, ha]
          clear ha hb he1 hf1 hCl hg
          go_enter Try.func4, Try.ntmps4
          go_wp2_with fail
          refine (keep_tells HSP.out HSC.out _).mono ?_
          rintro r w1 ⟨rfl, hb1⟩
          have HB1 : Hid (Below w.heap.size w w1) := hb1
          clear hb1
          go_wp2_with fail
          refine (HSC.out C A _ HC.out HA.out).mono ?_
          rintro r w2 ⟨rfl, hb2⟩
          rw [Ha.out, He.out]
          have HB2 : Hid (Below w.heap.size w w2) := HB1.out.trans (hb2.mono HB1.out.size)
          clear hb2
          go_wp2_with fail
          refine (HSC.out D A _ HD.out HA.out).mono ?_
          rintro r w3 ⟨rfl, hb3⟩
          rw [Hb.out, Hf.out]
          have HB3 : Hid (Below w.heap.size w w3) := HB2.out.trans (hb3.mono HB2.out.size)
          clear hb3
          go_wp2_with fail
          rw [kApp]
          refine (HG.out _).mono ?_
          rintro r w4 ⟨rfl, hb4⟩
          have HB4 : Hid (Below w.heap.size w w4) := HB3.out.trans (hb4.mono HB3.out.size)
          clear hb4
          rw [R1.out, HGB.out]
          cases g with
          | false =>
            go_wp2_with fail
            refine (keep_units A _ (by omega)).mono ?_
            rintro r w5 ⟨rfl, rfl⟩
            go_wp2_with fail
            rw [kApp]
            refine (HU.out _).mono ?_
            rintro r w6 ⟨rfl, hb6⟩
            rw [R2.out, B2.out]
            have HB6 : Hid (Below w.heap.size w w6) := HB4.out.trans (hb6.mono HB4.out.size)
            clear hb6
            cases a with
            | false =>
              go_wp2
              go_ret
              exact ⟨rfl, HB6.out⟩
            | true =>
              go_wp2
              go_ret
              exact ⟨rfl, HB6.out⟩
          | true =>
            obtain ⟨rfl, rfl⟩ := HAB.out rfl
            go_wp2_with fail
            refine (keep_units A _ (by omega)).mono ?_
            rintro r w5 ⟨rfl, rfl⟩
            go_wp2_with fail
            rw [kApp]
            refine (HU.out _).mono ?_
            rintro r w6 ⟨rfl, hb6⟩
            rw [R2.out, B2.out]
            have HB6 : Hid (Below w.heap.size w w6) := HB4.out.trans (hb6.mono HB4.out.size)
            clear hb6
            go_wp2
            go_ret
            exact ⟨rfl, HB6.out⟩
        · have hli2 : (800 : Int) < (C.length : Int) + (2 * (A.length : Int)) := by omega
          have R2 : Hid (rfE (C ++ unitsT A) [] = 1) := rf_long (by rw [List.length_append, units_len]; omega)
          have B2 : Hid (B (C ++ unitsT A) [] = false) := by show _ = _; exact (HSP.out.bad _ _ (by rw [R2.out]; decide)).2
          clear ha hb he1 hf1 hCl hg
          go_enter Try.func4, Try.ntmps4
          go_wp2_with fail
          refine (keep_tells HSP.out HSC.out _).mono ?_
          rintro r w1 ⟨rfl, hb1⟩
          have HB1 : Hid (Below w.heap.size w w1) := hb1
          clear hb1
          go_wp2_with fail
          refine (HSC.out C A _ HC.out HA.out).mono ?_
          rintro r w2 ⟨rfl, hb2⟩
          rw [Ha.out, He.out]
          have HB2 : Hid (Below w.heap.size w w2) := HB1.out.trans (hb2.mono HB1.out.size)
          clear hb2
          go_wp2_with fail
          refine (HSC.out D A _ HD.out HA.out).mono ?_
          rintro r w3 ⟨rfl, hb3⟩
          rw [Hb.out, Hf.out]
          have HB3 : Hid (Below w.heap.size w w3) := HB2.out.trans (hb3.mono HB2.out.size)
          clear hb3
          go_wp2_with fail
          rw [kApp]
          refine (HG.out _).mono ?_
          rintro r w4 ⟨rfl, hb4⟩
          have HB4 : Hid (Below w.heap.size w w4) := HB3.out.trans (hb4.mono HB3.out.size)
          clear hb4
          rw [R1.out, HGB.out]
          cases g with
          | false =>
            go_wp2_with fail
            refine (keep_units A _ (by omega)).mono ?_
            rintro r w5 ⟨rfl, rfl⟩
            go_wp2_with fail
            rw [kApp]
            refine (HU.out _).mono ?_
            rintro r w6 ⟨rfl, hb6⟩
            rw [R2.out, B2.out]
            have HB6 : Hid (Below w.heap.size w w6) := HB4.out.trans (hb6.mono HB4.out.size)
            clear hb6
            go_wp2
            go_ret
            exact ⟨rfl, HB6.out⟩
          | true =>
            obtain ⟨rfl, rfl⟩ := HAB.out rfl
            go_wp2_with fail
            refine (keep_units A _ (by omega)).mono ?_
            rintro r w5 ⟨rfl, rfl⟩
            go_wp2_with fail
            rw [kApp]
            refine (HU.out _).mono ?_
            rintro r w6 ⟨rfl, hb6⟩
            rw [R2.out, B2.out]
            have HB6 : Hid (Below w.heap.size w w6) := HB4.out.trans (hb6.mono HB4.out.size)
            clear hb6
            go_wp2
            go_ret
            exact ⟨rfl, HB6.out⟩
      · have hli : (800 : Int) < (C.length : Int) + (D.length : Int) := by omega
        have R1 : Hid (rfE (C ++ D) A = 1) := rf_long (by rw [List.length_append]; omega)
        have B1 : Hid (B (C ++ D) A = false) := by show _ = _; exact (HSP.out.bad _ _ (by rw [R1.out]; decide)).2
        clear ha hb he1 hf1 hCl
        go_enter Try.func4, Try.ntmps4
        go_wp2_with fail
        refine (keep_tells HSP.out HSC.out _).mono ?_
        rintro r w1 ⟨rfl, hb1⟩
        have HB1 : Hid (Below w.heap.size w w1) := hb1
        clear hb1
        go_wp2_with fail
        refine (HSC.out C A _ HC.out HA.out).mono ?_
        rintro r w2 ⟨rfl, hb2⟩
        rw [Ha.out, He.out]
        have HB2 : Hid (Below w.heap.size w w2) := HB1.out.trans (hb2.mono HB1.out.size)
        clear hb2
        go_wp2_with fail
        refine (HSC.out D A _ HD.out HA.out).mono ?_
        rintro r w3 ⟨rfl, hb3⟩
        rw [Hb.out, Hf.out]
        have HB3 : Hid (Below w.heap.size w w3) := HB2.out.trans (hb3.mono HB2.out.size)
        clear hb3
        go_wp2_with fail
        rw [kApp]
        refine (HG.out _).mono ?_
        rintro r w4 ⟨rfl, hb4⟩
        have HB4 : Hid (Below w.heap.size w w4) := HB3.out.trans (hb4.mono HB3.out.size)
        clear hb4
        rw [R1.out, B1.out]
        go_wp2
        go_ret
        exact ⟨rfl, HB4.out⟩
    · have n2 : ((f1 : Int) != 0) = true := by rw [bne_iff_ne]; omega
      have hbf : b = false := by rw [← hb]; exact (HSP.out.bad D A (by rw [hf1]; exact z2)).2
      subst z1 hbf
      clear ha hb he1 hf1 z2
      go_enter Try.func4, Try.ntmps4
      go_wp2_with fail
      refine (keep_tells HSP.out HSC.out _).mono ?_
      rintro r w1 ⟨rfl, hb1⟩
      have HB1 : Hid (Below w.heap.size w w1) := hb1
      clear hb1
      go_wp2_with fail
      refine (HSC.out C A _ HC.out HA.out).mono ?_
      rintro r w2 ⟨rfl, hb2⟩
      rw [Ha.out, He.out]
      have HB2 : Hid (Below w.heap.size w w2) := HB1.out.trans (hb2.mono HB1.out.size)
      clear hb2
      go_wp2_with fail
      refine (HSC.out D A _ HD.out HA.out).mono ?_
      rintro r w3 ⟨rfl, hb3⟩
      rw [Hb.out, Hf.out]
      have HB3 : Hid (Below w.heap.size w w3) := HB2.out.trans (hb3.mono HB2.out.size)
      clear hb3
      cases a <;> (go_wp2; go_ret; exact ⟨rfl, HB3.out⟩)
  · have n1 : ((e1 : Int) != 0) = true := by rw [bne_iff_ne]; omega
    have haf : a = false := by rw [← ha]; exact (HSP.out.bad C A (by rw [he1]; exact z1)).2
    subst haf
    clear ha hb he1 hf1 z1
    go_enter Try.func4, Try.ntmps4
    go_wp2_with fail
    refine (keep_tells HSP.out HSC.out _).mono ?_
    rintro r w1 ⟨rfl, hb1⟩
    have HB1 : Hid (Below w.heap.size w w1) := hb1
    clear hb1
    go_wp2_with fail
    refine (HSC.out C A _ HC.out HA.out).mono ?_
    rintro r w2 ⟨rfl, hb2⟩
    rw [Ha.out, He.out]
    have HB2 : Hid (Below w.heap.size w w2) := HB1.out.trans (hb2.mono HB1.out.size)
    clear hb2
    go_wp2_with fail
    refine (HSC.out D A _ HD.out HA.out).mono ?_
    rintro r w3 ⟨rfl, hb3⟩
    rw [Hb.out, Hf.out]
    have HB3 : Hid (Below w.heap.size w w3) := HB2.out.trans (hb3.mono HB2.out.size)
    clear hb3
    go_wp2
    go_ret
    exact ⟨rfl, HB3.out⟩

end Go.Proofs.Ytenbnmbbfeekpaa
