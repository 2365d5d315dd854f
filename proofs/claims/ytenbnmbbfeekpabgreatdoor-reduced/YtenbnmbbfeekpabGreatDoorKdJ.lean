import Derived.Test.YtenbnmbbfeekpabGreatDoorKdI
namespace Go.Proofs.YtenbnmbbfeekpabGreatDoor
open Go.RowKit

/-- A number's size, below 2^40. -/
def pk40 (c : Int) : Nat := (if c < 0 then -(c + 1) else c).toNat % 1099511627776
def ltN (k : Nat) : Nat := if k < 6 then 97 + k else 59 + k
def clG : Nat → Nat → List UInt8
  | 0, _ => []
  | n + 1, v => b8 (ltN (v % 12)) :: clG n (v / 12)
def clN (c : Int) : List UInt8 := clG (1 + pk40 c % 3) (pk40 c / 3)
theorem clG_len : ∀ (n v : Nat), (clG n v).length = n
  | 0, _ => rfl
  | n + 1, v => by rw [clG, List.length_cons, clG_len]
theorem clG_rl : ∀ (n v : Nat), ∀ y ∈ clG n v, rlB y.toNat = true
  | 0, _, y, hy => by simp [clG] at hy
  | n + 1, v, y, hy => by
    rw [clG] at hy
    rcases List.mem_cons.1 hy with rfl | hy
    · have : v % 12 < 12 := Nat.mod_lt _ (by omega)
      rw [b8_val (by unfold ltN; split <;> omega)]
      unfold rlB ltN
      simp
      split <;> omega
    · exact clG_rl n _ y hy
theorem clN_ok (c : Int) : ClOk (clN c) ∧ (clN c).length ≤ 3 := by
  have hl : (clN c).length = 1 + pk40 c % 3 := clG_len _ _
  refine ⟨⟨fun e => ?_, clG_rl _ _⟩, by omega⟩
  rw [e] at hl
  simp at hl
  omega
theorem clG_snoc (n : Nat) : ∀ (v : Nat), clG (n + 1) v = clG n v ++ [b8 (ltN (v / 12 ^ n % 12))] := by
  induction n with
  | zero => intro v; simp [clG]
  | succ n ih =>
    intro v
    rw [clG, ih, clG, List.cons_append, Nat.div_div_eq_div_mul, Nat.pow_succ, Nat.mul_comm 12]
def alph : List UInt8 := [97, 98, 99, 100, 101, 102, 65, 66, 67, 68, 69, 70]
theorem alph_at {k : Nat} (hk : k < 12) : (bs alph).extract k (k + 1) = bs [b8 (ltN k)] := by
  have : k = 0 ∨ k = 1 ∨ k = 2 ∨ k = 3 ∨ k = 4 ∨ k = 5 ∨ k = 6 ∨ k = 7 ∨ k = 8 ∨ k = 9 ∨ k = 10 ∨ k = 11 := by omega
  rcases this with rfl | rfl | rfl | rfl | rfl | rfl | rfl | rfl | rfl | rfl | rfl | rfl <;> decide +kernel

set_option maxHeartbeats 800000 in
theorem keep_pick40 (c : Int) (w : World) (h1 : -9223372036854775808 ≤ c) (h2 : c ≤ 9223372036854775807) : Calls Tryz.prog 18 #[.int .i64 c, .int .i64 1099511627776] w fun e w' => e = .returned (.int .i64 (pk40 c : Nat)) ∧ w' = w := by
  by_cases h : c < 0
  · have HV : Hid (((pk40 c : Nat) : Int) = -((c + 1).tmod 1099511627776)) := by
      show _ = _; unfold pk40; rw [if_pos h, ← Int.neg_tmod, Int.tmod_eq_emod_of_nonneg (by omega)]; omega
    go_enter Tryz.func18, Tryz.ntmps18
    go_wp2
    go_ret
    exact ⟨congrArg (fun x => Ending.returned (Value.int .i64 x)) HV.out.symm, rfl⟩
  · have HV : Hid (((pk40 c : Nat) : Int) = c % 1099511627776) := by
      show _ = _; unfold pk40; rw [if_neg h]; omega
    go_enter Tryz.func18, Tryz.ntmps18
    go_wp2
    go_ret
    exact ⟨congrArg (fun x => Ending.returned (Value.int .i64 x)) HV.out.symm, rfl⟩

set_option maxHeartbeats 3200000 in
set_option maxRecDepth 100000 in
theorem keep_clause (c : Int) (w : World) (h1 : -9223372036854775808 ≤ c) (h2 : c ≤ 9223372036854775807) : Calls Tryz.prog 7 #[.int .i64 c] w fun e w' => e = .returned (.string (bs (clN c))) ∧ Below w.heap.size w w' := by
  have H1 : Hid (-9223372036854775808 ≤ c) := h1
  have H2 : Hid (c ≤ 9223372036854775807) := h2
  have hlt : pk40 c < 1099511627776 := Nat.mod_lt _ (by omega)
  obtain ⟨V, hV⟩ : ∃ V, V = pk40 c := ⟨_, rfl⟩
  have HV : Hid (pk40 c = V) := hV.symm
  rw [← hV] at hlt
  obtain ⟨n, hn⟩ : ∃ n, n = 1 + V % 3 := ⟨_, rfl⟩
  have HR : Hid (clG n (V / 3) = clN c) := by show _ = _; unfold clN; rw [hn, hV]
  obtain ⟨R, hRR⟩ : ∃ R, R = clN c := ⟨_, rfl⟩
  rw [← hRR]
  rw [← hRR] at HR
  have hn3 : n ≤ 3 := by omega
  have hnv : (1 : Int) + (V : Int) % 3 = (n : Int) := by omega
  clear h1 h2 hV hRR hn
  go_enter Tryz.func7, Tryz.ntmps7
  go_wp2_with fail
  refine (keep_pick40 c _ H1.out H2.out).mono ?_
  rintro e w0 ⟨rfl, rfl⟩
  rw [HV.out]
  go_wp2
  go_loopw [3, 5, 6] (fun v s i wr => ∃ (j u : Nat) (A : List UInt8), j ≤ n ∧ A.length = j ∧ u < 1099511627776 ∧ v = .int .i64 (u : Int) ∧ s = .string (bs A) ∧ i = .int .i64 (j : Int) ∧ Hid (A ++ clG (n - j) u = R) ∧ Below w0.heap.size w0 wr) (fun _ _ i _ => n - (intOf i).toNat)
  case atStart => exact ⟨0, V / 3, [], by omega, rfl, by omega, by go_num, rfl, rfl, by show _ = _; simpa using HR.out, Below.refl _ _⟩
  case round =>
    obtain ⟨j, u, A, hj, hA, hu, rfl, rfl, rfl, HI, hb⟩ := hrel
    have HB : Hid (Below w0.heap.size w0 wr) := hb
    have hsA : (bs A).size = A.length := bs_size A
    clear hb
    by_cases hlt2 : j < n
    · have e1 : (j : Int) < (n : Int) := by omega
      have HF : Hid ((A ++ [b8 (ltN (u % 12))]) ++ clG (n - (j + 1)) (u / 12) = R) := by
        show _ = _
        rw [← HI.out, show n - j = (n - (j + 1)) + 1 by omega, clG]
        simp
      obtain ⟨q, hq⟩ : ∃ q, q = u % 12 := ⟨_, rfl⟩
      have hq12 : q < 12 := by omega
      have hqv : (u : Int) % 12 = (q : Int) := by omega
      have HAL : Hid ((bs alph).extract q (q + 1) = bs [b8 (ltN q)]) := alph_at hq12
      have HAT : Hid (bs A ++ (bs alph).extract q (q + 1) = bs (A ++ [b8 (ltN q)])) := by show _ = _; rw [alph_at hq12, bs_app]
      rw [← hq] at HF
      clear HI hq
      go_wp2
      go_roundw
      case rel => exact ⟨j + 1, u / 12, A ++ [b8 (ltN q)], by omega, by simp; omega, by omega, by go_num, congrArg Value.string HAT.out, by go_num, HF, HB.out⟩
      case measure => simp [intOf]; omega
    · have e1 : ¬ (j : Int) < (n : Int) := by omega
      have HF : Hid (bs A = bs R) := by show _ = _; rw [← HI.out, show n - j = 0 by omega]; simp [clG]
      clear HI
      go_wp2
      go_ret
      exact ⟨congrArg (fun x => Ending.returned (Value.string x)) HF.out, HB.out⟩

theorem joinT_snoc (x : UInt8) (a : List UInt8) : ∀ (l : List (List UInt8)), l ≠ [] → joinT x (l ++ [a]) = joinT x l ++ x :: a
  | [], h => absurd rfl h
  | [b], _ => rfl
  | b :: c :: l, _ => by
    have ih := joinT_snoc x a (c :: l) (by simp)
    rw [List.cons_append, joinT_cons (a := b) (l := c :: l ++ [a]) (by simp), ih, joinT_cons (a := b) (l := c :: l) (by simp)]
    simp
theorem nd_take {c : List UInt8} {k : Nat} (hk : k < c.length) : ndT (ndO (c.take (k + 1))) = (if 0 < k then ndT (ndO (c.take k)) ++ [124] else ndT (ndO (c.take k))) ++ [b8 (97 + litV c[k].toNat), 61, b8 (lvN c[k].toNat)] := by
  have e : ndO (c.take (k + 1)) = ndO (c.take k) ++ [lcN c[k].toNat] := by unfold ndO; rw [List.take_succ_eq_append_getElem hk, List.map_append]; rfl
  have e2 : cnT (lcN c[k].toNat) = [b8 (97 + litV c[k].toNat), 61, b8 (lvN c[k].toNat)] := rfl
  rw [e]
  unfold ndT
  rw [List.map_append, List.map_singleton, e2]
  by_cases h0 : 0 < k
  · rw [if_pos h0, joinT_snoc 124 _ _ (by
      intro e
      have hl : ((ndO (c.take k)).map cnT).length = k := by unfold ndO; simp; omega
      rw [e] at hl
      simp at hl
      omega)]
    simp
  · have : k = 0 := by omega
    subst this
    rw [if_neg h0]
    rfl
theorem nd_len3 {c : List UInt8} (h : c.length ≤ 3) (k : Nat) : (ndT (ndO (c.take k))).length ≤ 11 := nd_small (by simp; omega)

set_option maxHeartbeats 3200000 in
set_option maxRecDepth 100000 in
theorem keep_need (c : List UInt8) (w : World) (hl : c.length ≤ 3) (hr : ∀ y ∈ c, rlB y.toNat = true) : Calls Tryz.prog 8 #[.string (bs c)] w fun e w' => e = .returned (.string (bs (ndT (ndO c)))) ∧ Below w.heap.size w w' := by
  have hsz : (bs c).size = c.length := bs_size c
  have HRL : Hid (∀ y ∈ c, rlB y.toNat = true) := hr
  have HNT : Hid (∀ k, k < c.length → ndT (ndO (c.take (k + 1))) = (if 0 < k then ndT (ndO (c.take k)) ++ [124] else ndT (ndO (c.take k))) ++ [b8 (97 + litV (c.getD k 0).toNat), 61, b8 (lvN (c.getD k 0).toNat)]) := by
    intro k hk
    rw [nd_take hk, List.getD_eq_getElem?_getD, List.getElem?_eq_getElem hk]
    rfl
  have HNL : Hid (∀ k, (ndT (ndO (c.take k))).length ≤ 11) := nd_len3 hl
  clear hr
  go_enter Tryz.func8, Tryz.ntmps8
  go_wp2
  go_loopw [3, 4] (fun s i wr => ∃ (k : Nat), k ≤ c.length ∧ s = .string (bs (ndT (ndO (c.take k)))) ∧ i = .int .i64 (k : Int) ∧ Below w.heap.size w wr) (fun _ i _ => c.length - (intOf i).toNat)
  case atStart => exact ⟨0, by omega, by rfl, rfl, Below.refl _ _⟩
  case round =>
    obtain ⟨k, hk, rfl, rfl, hb⟩ := hrel
    have HB : Hid (Below w.heap.size w wr) := hb
    have hbs := hb.size
    clear hb
    by_cases hlt : k < c.length
    · have hi : (k : Int) < ((bs c).size : Int) := by rw [hsz]; omega
      obtain ⟨X, hX⟩ : ∃ X, X = c[k].toNat := ⟨_, rfl⟩
      have q0 : ∀ h, ((bs c)[k]'h).toNat = X := fun h => by rw [bs_at, hX]
      have hrl : rlB X = true := by rw [hX]; exact HRL.out _ (List.getElem_mem hlt)
      have HN := HNT.out k hlt
      have hg : (c.getD k 0).toNat = X := by rw [List.getD_eq_getElem?_getD, List.getElem?_eq_getElem hlt, hX]; rfl
      rw [hg] at HN
      have hx1 : (bs c).extract k (k + 1) = bs [b8 X] := by
        rw [extract_bs, bs_list, List.drop_take, show k + 1 - k = 1 by omega, List.drop_eq_getElem_cons hlt]
        congr 1
        rw [hX]
        show [c[k]] = [b8 c[k].toNat]
        congr 1
        exact (UInt8.ofNat_toNat).symm
      have hpl := HNL.out k
      obtain ⟨A, hA⟩ : ∃ A, A = ndT (ndO (c.take k)) := ⟨_, rfl⟩
      rw [← hA] at HN hpl ⊢
      have HN2 : Hid (ndT (ndO (c.take (k + 1))) = (if 0 < k then A ++ [124] else A) ++ [b8 (97 + litV X), 61, b8 (lvN X)]) := HN
      have hsA : (bs A).size = A.length := bs_size A
      have hsx : (bs [b8 X]).size = 1 := bs_size _
      clear HN hg hA hX
      have hrg : (97 ≤ X ∧ X ≤ 102) ∨ (65 ≤ X ∧ X ≤ 70) := by unfold rlB at hrl; simp at hrl; omega
      clear hrl
      rcases hrg with ⟨g1, g2⟩ | ⟨g1, g2⟩
      · have z1 : (97 : Int) ≤ (X : Int) := by omega
        have HL : Hid (litV X = X - 97 ∧ lvN X = 50) := by
          constructor
          · unfold litV; rw [if_pos g1]
          · unfold lvN litS; simp [g1]
        by_cases h0 : 0 < k
        · have z0 : (0 : Int) < (k : Int) := by omega
          have HF : Hid (bs A ++ bs [124] ++ bs [b8 X] ++ bs [61, 50] = bs (ndT (ndO (c.take (k + 1))))) := by
            show _ = _
            rw [HN2.out, if_pos h0, HL.out.1, HL.out.2, show 97 + (X - 97) = X by omega, bs_app, bs_app, bs_app]
            congr 1
            simp
            rfl
          go_wp2
          go_roundw
          case rel => exact ⟨k + 1, by omega, congrArg Value.string HF.out, by go_num, HB.out⟩
          case measure => simp [intOf]; omega
        · have z0 : ¬ (0 : Int) < (k : Int) := by omega
          have HF : Hid (bs A ++ bs [b8 X] ++ bs [61, 50] = bs (ndT (ndO (c.take (k + 1))))) := by
            show _ = _
            rw [HN2.out, if_neg h0, HL.out.1, HL.out.2, show 97 + (X - 97) = X by omega, bs_app, bs_app]
            congr 1
            simp
            rfl
          go_wp2
          go_roundw
          case rel => exact ⟨k + 1, by omega, congrArg Value.string HF.out, by go_num, HB.out⟩
          case measure => simp [intOf]; omega
      · have z1 : ¬ (97 : Int) ≤ (X : Int) := by omega
        have HL : Hid (litV X = X - 65 ∧ lvN X = 49) := by
          constructor
          · unfold litV; rw [if_neg (by omega)]
          · unfold lvN litS; simp; omega
        have hcv := conv1 wr (X + 32) (by omega)
        rw [show (((X + 32 : Nat)) : Int) = (X : Int) - 65 + 97 by omega] at hcv
        have HBA : Hid (Below w.heap.size w (wr.alloc (.cells #[.int .u8 ((X : Int) - 65 + 97)] 5))) := HB.out.alloc hbs _
        have hsx2 : (bs [b8 (X + 32)]).size = 1 := bs_size _
        by_cases h0 : 0 < k
        · have z0 : (0 : Int) < (k : Int) := by omega
          have HF : Hid (bs A ++ bs [124] ++ bs [b8 (X + 32)] ++ bs [61, 49] = bs (ndT (ndO (c.take (k + 1))))) := by
            show _ = _
            rw [HN2.out, if_pos h0, HL.out.1, HL.out.2, show 97 + (X - 65) = X + 32 by omega, bs_app, bs_app, bs_app]
            congr 1
            simp
            rfl
          go_wp2
          go_roundw
          case rel => exact ⟨k + 1, by omega, congrArg Value.string HF.out, by go_num, HBA.out⟩
          case measure => simp [intOf]; omega
        · have z0 : ¬ (0 : Int) < (k : Int) := by omega
          have HF : Hid (bs A ++ bs [b8 (X + 32)] ++ bs [61, 49] = bs (ndT (ndO (c.take (k + 1))))) := by
            show _ = _
            rw [HN2.out, if_neg h0, HL.out.1, HL.out.2, show 97 + (X - 65) = X + 32 by omega, bs_app, bs_app]
            congr 1
            simp
            rfl
          go_wp2
          go_roundw
          case rel => exact ⟨k + 1, by omega, congrArg Value.string HF.out, by go_num, HBA.out⟩
          case measure => simp [intOf]; omega
    · have e1 : ¬ (k : Int) < (c.length : Int) := by omega
      have HF : Hid (bs (ndT (ndO (c.take k))) = bs (ndT (ndO c))) := by show _ = _; rw [List.take_of_length_le (by omega)]
      go_wp2
      go_ret
      exact ⟨congrArg (fun x => Ending.returned (Value.string x)) HF.out, HB.out⟩

/-- Has every clause a literal that is met, of a variable that is known? -/
def cvG (f g : Nat → Bool) : Bool → List UInt8 → Bool
  | _, [] => true
  | s, y :: r => if y.toNat = 59 then (if s then cvG f g false r else false) else cvG f g (s || (trB f y.toNat && g (litV y.toNat))) r
theorem cv_ok (f g : Nat → Bool) : ∀ (cls : List (List UInt8)), (∀ c ∈ cls, ClOk c) → (∀ c ∈ cls, ∃ y ∈ c, trB f y.toNat = true ∧ g (litV y.toNat) = true) → cvG f g false (clT cls) = true
  | [], _, _ => rfl
  | c :: cls, h, hm => by
    have e : clT (c :: cls) = c ++ 59 :: clT cls := by simp [clT]
    have key : ∀ (d : List UInt8) (s : Bool), (∀ y ∈ d, rlB y.toNat = true) → (s = true ∨ ∃ y ∈ d, trB f y.toNat = true ∧ g (litV y.toNat) = true) → cvG f g s (d ++ 59 :: clT cls) = cvG f g false (clT cls) := by
      intro d
      induction d with
      | nil =>
        intro s _ hs
        have : s = true := by rcases hs with h | ⟨y, hy, _⟩; exact h; simp at hy
        rw [List.nil_append, cvG, if_pos (by decide), this]
        rfl
      | cons y d ih =>
        intro s hd hs
        have h59 : y.toNat ≠ 59 := by
          have := rl_lit (hd y (by simp))
          have := lit_rng this
          omega
        rw [List.cons_append, cvG, if_neg h59]
        refine ih _ (fun z hz => hd z (by simp [hz])) ?_
        rcases hs with hs | ⟨z, hz, g1, g2⟩
        · left; rw [hs]; rfl
        · rcases List.mem_cons.1 hz with rfl | hz
          · left; rw [g1, g2]; simp
          · right; exact ⟨z, hz, g1, g2⟩
    rw [e, key c false (h c (by simp)).rl (Or.inr (hm c (by simp)))]
    exact cv_ok f g cls (fun d hd => h d (by simp [hd])) (fun d hd => hm d (by simp [hd]))

set_option maxHeartbeats 3200000 in
set_option maxRecDepth 100000 in
theorem keep_covered (C : List UInt8) (a b : Int) (w : World) (hC8 : C.length ≤ 800) (hC : ∀ y ∈ C, clB y.toNat = true) : Calls Tryz.prog 12 #[.string (bs C), .int .i64 a, .int .i64 b] w fun e w' => e = .returned (.bool (cvG (bitF a) (bitF b) false C)) ∧ w' = w := by
  have hsz : (bs C).size = C.length := bs_size C
  have HCL : Hid (∀ y ∈ C, clB y.toNat = true) := hC
  obtain ⟨R, hR⟩ : ∃ R, R = cvG (bitF a) (bitF b) false C := ⟨_, rfl⟩
  have HR : Hid (cvG (bitF a) (bitF b) false C = R) := hR.symm
  rw [← hR]
  clear hR hC
  go_enter Tryz.func12, Tryz.ntmps12
  go_wp2
  go_loop [7, 8] (fun s i => ∃ (k : Nat) (x : Bool), k ≤ C.length ∧ i = .int .i64 (k : Int) ∧ s = .bool x ∧ Hid (cvG (bitF a) (bitF b) x (C.drop k) = R)) (fun _ i => C.length - (intOf i).toNat)
  case atStart => exact ⟨0, false, by omega, rfl, rfl, HR⟩
  case round =>
    obtain ⟨k, x, hk, rfl, rfl, HI⟩ := hrel
    by_cases hlt : k < C.length
    · have hi : (k : Int) < ((bs C).size : Int) := by rw [hsz]; omega
      obtain ⟨X, hX⟩ : ∃ X, X = C[k].toNat := ⟨_, rfl⟩
      have q0 : ∀ h, ((bs C)[k]'h).toNat = X := fun h => by rw [bs_at, hX]
      have hcl : clB X = true := by rw [hX]; exact HCL.out _ (List.getElem_mem hlt)
      have HD : Hid ((if X = 59 then (if x then cvG (bitF a) (bitF b) false (C.drop (k + 1)) else false) else cvG (bitF a) (bitF b) (x || (trB (bitF a) X && bitF b (litV X))) (C.drop (k + 1))) = R) := by
        show _ = _; rw [← HI.out, List.drop_eq_getElem_cons hlt, cvG, hX]
      clear HI hX
      by_cases h59 : X = 59
      · have e59 : ((X : Int) == 59) = true := by rw [beq_iff_eq]; omega
        cases x with
        | true =>
          have HF : Hid (cvG (bitF a) (bitF b) false (C.drop (k + 1)) = R) := by show _ = _; rw [← HD.out, if_pos h59]; rfl
          clear HD h59 hcl
          go_wp2
          go_round
          case rel => exact ⟨k + 1, false, by omega, by go_num, rfl, HF⟩
          case measure => simp [intOf]; omega
        | false =>
          have HF : Hid (false = R) := by show _ = _; rw [← HD.out, if_pos h59]; rfl
          clear HD h59 hcl
          go_wp2
          go_ret
          exact ⟨ret_bool HF.out, rfl⟩
      · have e59 : ((X : Int) == 59) = false := by rw [beq_eq_false_iff_ne]; omega
        have hlb : litB X = true := by
          unfold clB at hcl
          have : (X == 59) = false := by simpa using h59
          rw [this, Bool.or_false] at hcl
          exact hcl
        have HLB : Hid (litB X = true) := hlb
        have hrg := lit_rng hlb
        have hv26 := litV_lt hlb
        have HF0 : Hid (cvG (bitF a) (bitF b) (x || (trB (bitF a) X && bitF b (litV X))) (C.drop (k + 1)) = R) := by show _ = _; rw [← HD.out, if_neg h59]
        obtain ⟨V, hV⟩ : ∃ V, V = litV X := ⟨_, rfl⟩
        have hm : min V 64 = V := by omega
        have HBF : Hid ((bits BinOp.and IntKind.i64 (b / 2 ^ V) 1 == 1) = bitF b V) := by show _ = _; rw [and_one_i64]; rfl
        rw [← hV] at HF0 hv26
        clear HD h59 hcl
        by_cases hlow : X < 97
        · have z1 : (X : Int) < 97 := by omega
          have z2 : (X : Int) - 65 = (V : Int) := by unfold litV at hV; rw [if_neg (by omega)] at hV; omega
          clear hV hlb
          cases x <;> cases ht : trB (bitF a) X
          all_goals
            have HT : Hid (trB (bitF a) X = _) := ht
            rw [ht] at HF0
            clear ht
            go_wp2_with fail
            refine (keep_holds a X _ HLB.out).mono ?_
            rintro e w1 ⟨rfl, rfl⟩
            rw [HT.out]
            go_wp2
            go_round
            case rel => exact ⟨k + 1, _, by omega, by go_num, rfl, by first | exact HF0 | (show cvG _ _ _ _ = R; rw [HBF.out]; exact HF0.out)⟩
            case measure => simp [intOf]; omega
        · have z1 : ¬ (X : Int) < 97 := by omega
          have z2 : (X : Int) - 97 = (V : Int) := by unfold litV at hV; rw [if_pos (by omega)] at hV; omega
          clear hV hlb
          cases x <;> cases ht : trB (bitF a) X
          all_goals
            have HT : Hid (trB (bitF a) X = _) := ht
            rw [ht] at HF0
            clear ht
            go_wp2_with fail
            refine (keep_holds a X _ HLB.out).mono ?_
            rintro e w1 ⟨rfl, rfl⟩
            rw [HT.out]
            go_wp2
            go_round
            case rel => exact ⟨k + 1, _, by omega, by go_num, rfl, by first | exact HF0 | (show cvG _ _ _ _ = R; rw [HBF.out]; exact HF0.out)⟩
            case measure => simp [intOf]; omega
    · have e1 : ¬ (k : Int) < (C.length : Int) := by omega
      have HF : Hid (true = R) := by show _ = _; rw [← HI.out, List.drop_of_length_le (by omega)]; rfl
      clear HI
      go_wp2
      go_ret
      exact ⟨ret_bool HF.out, rfl⟩

end Go.Proofs.YtenbnmbbfeekpabGreatDoor
