import Derived.Test.YtenbnmbbfeekpaaDoorXO0
import Derived.Laws.Bits64b

/-
  Clauses, literals and assignments: plain mathematics. Nothing of the dump.
-/
namespace Go.Proofs.YtenbnmbbfeekpaaDoor
open Go.RowKit

/-- A byte that is a literal. -/
def litB (c : Nat) : Bool := (decide (97 ≤ c) && decide (c ≤ 122)) || (decide (65 ≤ c) && decide (c ≤ 90))
def litV (c : Nat) : Nat := if 97 ≤ c then c - 97 else c - 65
def litS (c : Nat) : Bool := decide (97 ≤ c)

theorem and_one_i64 (E : Int) : bits BinOp.and IntKind.i64 E 1 = E % 2 := by
  show IntKind.i64.wrap ((BitVec.ofInt 64 E &&& BitVec.ofInt 64 1).toNat : Int) = _
  have h2 : (BitVec.ofInt 64 1).toNat = 1 := by decide
  rw [BitVec.toNat_and, h2, Nat.and_one_is_mod, BitVec.toNat_ofInt, IntKind.wrap_i64]
  omega
/-- The variable's bit. -/
def bitF (b : Int) (v : Nat) : Bool := (b / 2 ^ v) % 2 == 1
def trB (f : Nat → Bool) (c : Nat) : Bool := f (litV c) == litS c
theorem lit_rng {c : Nat} (hc : litB c = true) : 65 ≤ c ∧ c ≤ 122 := by unfold litB at hc; simp at hc; omega
theorem litV_lt {c : Nat} (hc : litB c = true) : litV c < 26 := by unfold litB at hc; unfold litV; simp at hc; split <;> omega

def hasB (s : List UInt8) (c : Nat) : Bool := s.any fun x => x.toNat == c

def clB (c : Nat) : Bool := litB c || c == 59
def lastB (C : List UInt8) : Bool := C.isEmpty || (C.getD (C.length - 1) 0).toNat == 59
/-- What is refused, and why. -/
def rfE (C A : List UInt8) : Nat :=
  if 800 < C.length then 1 else if 800 < A.length then 1
  else if (C.all fun x => clB x.toNat) = false then 8
  else if lastB C = false then 8
  else if (A.all fun x => litB x.toNat) = false then 9
  else 0

/-- Clauses that an assignment meets; s: one of the literals behind the last ';' is met. -/
def mtC (f : Nat → Bool) : Bool → List UInt8 → Bool
  | _, [] => true
  | s, x :: r => if x.toNat = 59 then s && mtC f false r else mtC f (s || trB f x.toNat) r
def mtB (f : Nat → Bool) (C A : List UInt8) : Bool := mtC f false C && A.all fun x => trB f x.toNat

/-- Some of the literals, in order, none twice. -/
def smF (A : List UInt8) : Nat → List UInt8 → Bool
  | _, [] => true
  | p, x :: r => hasB A x.toNat && decide (p < x.toNat) && smF A x.toNat r
/-- The first has none ahead of it. -/
def smB (A : List UInt8) : List UInt8 → Bool
  | [] => true
  | x :: r => hasB A x.toNat && smF A x.toNat r

theorem or_i64_nat (a b : Nat) (ha : a < 9223372036854775808) (hb : b < 9223372036854775808) : bits .or .i64 (a : Int) (b : Int) = ((a ||| b : Nat) : Int) := by
  have hx : a ||| b < 2 ^ 63 := Nat.or_lt_two_pow (by omega) (by omega)
  have h1 : (BitVec.ofInt 64 (a : Int)).toNat = a := by
    rw [BitVec.ofInt_natCast, BitVec.toNat_ofNat]; exact Nat.mod_eq_of_lt (by omega)
  have h2 : (BitVec.ofInt 64 (b : Int)).toNat = b := by
    rw [BitVec.ofInt_natCast, BitVec.toNat_ofNat]; exact Nat.mod_eq_of_lt (by omega)
  show IntKind.i64.wrap ((BitVec.ofInt 64 (a : Int) ||| BitVec.ofInt 64 (b : Int)).toNat : Int) = _
  rw [BitVec.toNat_or, h1, h2, IntKind.wrap_i64]
  omega
theorem wrap64_fit {x : Int} (h0 : 0 ≤ x) (h1 : x < 9223372036854775808) : wrap64 x = x := by
  unfold wrap64
  omega
theorem pow_cast (v : Nat) : (2 : Int) ^ v = ((2 ^ v : Nat) : Int) := (Int.natCast_pow 2 v).symm
/-- A variable occurs. -/
def occB (C A : List UInt8) (v : Nat) : Bool := hasB C (97 + v) || hasB C (65 + v) || hasB A (97 + v) || hasB A (65 + v)
/-- The literals told, one for each variable that occurs: the assignment's bits and how many there are. -/
def mdF (C A S : List UInt8) : Nat → Nat → Nat → Nat → Option (Nat × Nat)
  | 0, _, n, b => some (b, n)
  | f + 1, v, n, b =>
    if occB C A v then
      match S[n]? with
      | none => none
      | some x => if x.toNat = 97 + v then mdF C A S f (v + 1) (n + 1) (b ||| 2 ^ v) else if x.toNat = 65 + v then mdF C A S f (v + 1) (n + 1) b else none
    else mdF C A S f (v + 1) n b
def mdB (C A S : List UInt8) : Bool := match mdF C A S 26 0 0 0 with
  | none => false
  | some (b, n) => mtB (bitF (b : Int)) C A && n == S.length

/-- May Solve answer this? -/
def slB (C A S : List UInt8) (sat : Bool) (e : Nat) (b : Int) : Bool :=
  if rfE C A = 0 ∧ e = 0 then (if sat then mdB C A S else smB A S && !mtB (bitF b) C S)
  else e == rfE C A && S.isEmpty && !sat
theorem rf_ok {C A : List UInt8} (h : rfE C A = 0) : C.length ≤ 800 ∧ A.length ≤ 800 ∧ (∀ x ∈ C, clB x.toNat = true) ∧ lastB C = true ∧ (∀ x ∈ A, litB x.toNat = true) := by
  unfold rfE at h
  split at h
  · cases h
  · split at h
    · cases h
    · split at h
      · cases h
      · split at h
        · cases h
        · split at h
          · cases h
          · rename_i h1 h2 h3 h4 h5
            simp only [Bool.not_eq_false, List.all_eq_true] at h3 h4 h5
            exact ⟨by omega, by omega, h3, h4, h5⟩
theorem rf_le (C A : List UInt8) : rfE C A ≤ 9 := by
  unfold rfE
  repeat' split
  all_goals omega

/-- The literal that an assignment meets. -/
def litT (f : Nat → Bool) (v : Nat) : UInt8 := b8 (if f v then 97 + v else 65 + v)
/-- The literals of the variables that occur, from v on. -/
def mdT (C A : List UInt8) (f : Nat → Bool) : Nat → Nat → List UInt8
  | 0, _ => []
  | k + 1, v => if occB C A v then litT f v :: mdT C A f k (v + 1) else mdT C A f k (v + 1)
theorem litT_val {f : Nat → Bool} {v : Nat} (hv : v < 26) : (litT f v).toNat = if f v then 97 + v else 65 + v := by
  unfold litT
  rw [b8_val (by split <;> omega)]

theorem md_go (C A S : List UInt8) (f : Nat → Bool) : ∀ (k v : Nat), v + k = 26 → ∀ (pre : List UInt8) (b : Nat), S = pre ++ mdT C A f k v → b < 2 ^ v → (∀ u, u < v → occB C A u = true → b.testBit u = f u) →
    ∃ b', mdF C A S k v pre.length b = some (b', S.length) ∧ (∀ u, u < 26 → occB C A u = true → b'.testBit u = f u)
  | 0, v, hk, pre, b, hS, hb, hf => by
    refine ⟨b, ?_, fun u hu => hf u (by omega)⟩
    rw [mdF, hS]
    simp [mdT]
  | k + 1, v, hk, pre, b, hS, hb, hf => by
    rw [mdF]
    rw [mdT] at hS
    have hb' : b < 2 ^ (v + 1) := Nat.lt_of_lt_of_le hb (Nat.pow_le_pow_right (by omega) (by omega))
    have hbv : b.testBit v = false := Nat.testBit_lt_two_pow hb
    cases ho : occB C A v with
    | false =>
      rw [ho] at hS
      simp only [Bool.false_eq_true, if_false] at hS ⊢
      refine md_go C A S f k (v + 1) (by omega) pre b hS hb' (fun u hu hou => ?_)
      rcases Nat.lt_or_ge u v with h | h
      · exact hf u h hou
      · have : u = v := by omega
        rw [this] at hou
        rw [ho] at hou
        cases hou
    | true =>
      rw [ho] at hS
      simp only [if_true] at hS ⊢
      have hget : S[pre.length]? = some (litT f v) := by rw [hS]; simp
      have hS' : S = (pre ++ [litT f v]) ++ mdT C A f k (v + 1) := by rw [hS]; simp
      have hl : (pre ++ [litT f v]).length = pre.length + 1 := by simp
      rw [hget]
      simp only
      rw [litT_val (by omega)]
      cases hfv : f v with
      | true =>
        simp only [if_true]
        rw [← hl]
        refine md_go C A S f k (v + 1) (by omega) _ _ hS' (Nat.or_lt_two_pow hb' (Nat.pow_lt_pow_right (by omega) (by omega))) (fun u hu hou => ?_)
        rw [Nat.testBit_or, Nat.testBit_two_pow]
        rcases Nat.lt_or_ge u v with h | h
        · have : decide (v = u) = false := by simp; omega
          rw [this, Bool.or_false]
          exact hf u h hou
        · have : u = v := by omega
          subst this
          simp [hfv]
      | false =>
        simp only [Bool.false_eq_true, if_false]
        rw [if_neg (by omega), if_pos trivial, ← hl]
        refine md_go C A S f k (v + 1) (by omega) _ _ hS' hb' (fun u hu hou => ?_)
        rcases Nat.lt_or_ge u v with h | h
        · exact hf u h hou
        · have : u = v := by omega
          subst this
          rw [hbv, hfv]

theorem bit_test (b v : Nat) : bitF (b : Int) v = b.testBit v := by
  unfold bitF
  rw [Nat.testBit_eq_decide_div_mod_eq, Bool.eq_iff_iff, beq_iff_eq, decide_eq_true_iff]
  have e : (2 : Int) ^ v = ((2 ^ v : Nat) : Int) := pow_cast v
  rw [e]
  have h : ((b : Int) / ((2 ^ v : Nat) : Int)) % 2 = (((b / 2 ^ v) % 2 : Nat) : Int) := by simp
  rw [h]
  omega

theorem tr_cong {f g : Nat → Bool} {c : Nat} (h : f (litV c) = g (litV c)) : trB f c = trB g c := by unfold trB; rw [h]
theorem mtC_cong {f g : Nat → Bool} : ∀ (C : List UInt8) (s : Bool), (∀ x ∈ C, x.toNat ≠ 59 → f (litV x.toNat) = g (litV x.toNat)) → mtC f s C = mtC g s C
  | [], _, _ => rfl
  | x :: r, s, h => by
    rw [mtC, mtC]
    by_cases h59 : x.toNat = 59
    · rw [if_pos h59, if_pos h59, mtC_cong r false (fun y hy => h y (by simp [hy]))]
    · rw [if_neg h59, if_neg h59, tr_cong (h x (by simp) h59), mtC_cong r _ (fun y hy => h y (by simp [hy]))]
theorem mtB_cong {f g : Nat → Bool} {C A : List UInt8} (hC : ∀ x ∈ C, x.toNat ≠ 59 → f (litV x.toNat) = g (litV x.toNat)) (hA : ∀ x ∈ A, f (litV x.toNat) = g (litV x.toNat)) : mtB f C A = mtB g C A := by
  unfold mtB
  rw [mtC_cong C false hC]
  congr 1
  induction A with
  | nil => rfl
  | cons x r ih =>
    rw [List.all_cons, List.all_cons, tr_cong (hA x (by simp)), ih (fun y hy => hA y (by simp [hy]))]
theorem has_mem {s : List UInt8} {x : UInt8} (h : x ∈ s) : hasB s x.toNat = true := by
  unfold hasB; rw [List.any_eq_true]; exact ⟨x, h, by simp⟩
theorem lit_back {c : Nat} (h : litB c = true) : c = 97 + litV c ∨ c = 65 + litV c := by
  unfold litB at h
  unfold litV
  simp at h
  split <;> omega
theorem occ_C {C A : List UInt8} {x : UInt8} (h : x ∈ C) (hl : litB x.toNat = true) : occB C A (litV x.toNat) = true := by
  have h1 := has_mem h
  unfold occB
  rcases lit_back hl with e | e
  · rw [← e, h1]; simp
  · rw [← e, h1]; simp
theorem occ_A {C A : List UInt8} {x : UInt8} (h : x ∈ A) (hl : litB x.toNat = true) : occB C A (litV x.toNat) = true := by
  have h1 := has_mem h
  unfold occB
  rcases lit_back hl with e | e
  · rw [← e, h1]; simp
  · rw [← e, h1]; simp

/-- The literals of an assignment that meets clauses and literals are taken. -/
theorem model_ok {C A : List UInt8} (f : Nat → Bool) (hC : ∀ x ∈ C, clB x.toNat = true) (hA : ∀ x ∈ A, litB x.toNat = true) (hm : mtB f C A = true) : mdB C A (mdT C A f 26 0) = true := by
  obtain ⟨b, h1, h2⟩ := md_go C A (mdT C A f 26 0) f 26 0 rfl [] 0 rfl (by decide) (fun u hu => by omega)
  unfold mdB
  have h1' : mdF C A (mdT C A f 26 0) 26 0 0 0 = some (b, (mdT C A f 26 0).length) := h1
  rw [h1']
  have hcl : ∀ x ∈ C, x.toNat ≠ 59 → litB x.toNat = true := fun x hx hn => by
    have := hC x hx
    unfold clB at this
    simpa [hn] using this
  have e : mtB (bitF (b : Int)) C A = mtB f C A := mtB_cong
    (fun x hx hn => by rw [bit_test]; exact h2 _ (litV_lt (hcl x hx hn)) (occ_C hx (hcl x hx hn)))
    (fun x hx => by rw [bit_test]; exact h2 _ (litV_lt (hA x hx)) (occ_A hx (hA x hx)))
  simp only
  rw [e, hm]
  simp

/-- What Solve may answer: three ways. -/
theorem sl_err {C A : List UInt8} (b : Int) (h : rfE C A ≠ 0) : slB C A [] false (rfE C A) b = true := by
  unfold slB
  rw [if_neg (fun x => h x.1)]
  simp
theorem sl_sat {C A : List UInt8} (b : Int) (h : rfE C A = 0) (f : Nat → Bool) (hm : mtB f C A = true) : slB C A (mdT C A f 26 0) true 0 b = true := by
  obtain ⟨_, _, h3, _, h5⟩ := rf_ok h
  unfold slB
  rw [if_pos ⟨h, rfl⟩]
  exact model_ok f h3 h5 hm
theorem sl_uns {C A S : List UInt8} (b : Int) (h : rfE C A = 0) (hs : smB A S = true) (hm : ∀ f, mtB f C S = false) : slB C A S false 0 b = true := by
  unfold slB
  rw [if_pos ⟨h, rfl⟩, hs, hm]
  rfl
theorem mdT_lit (C A : List UInt8) (f : Nat → Bool) : ∀ (k v : Nat), v + k = 26 → ∀ x ∈ mdT C A f k v, litB x.toNat = true
  | 0, _, _, x, hx => by simp [mdT] at hx
  | k + 1, v, hk, x, hx => by
    rw [mdT] at hx
    split at hx
    · rcases List.mem_cons.1 hx with rfl | hx
      · rw [litT_val (by omega)]
        unfold litB
        split <;> (simp; omega)
      · exact mdT_lit C A f k (v + 1) (by omega) x hx
    · exact mdT_lit C A f k (v + 1) (by omega) x hx
theorem mdT_len (C A : List UInt8) (f : Nat → Bool) : ∀ (k v : Nat), (mdT C A f k v).length ≤ k
  | 0, _ => by simp [mdT]
  | k + 1, v => by
    rw [mdT]
    have := mdT_len C A f k (v + 1)
    split
    · simp only [List.length_cons]; omega
    · omega

end Go.Proofs.YtenbnmbbfeekpaaDoor

/-
  What P7 says of Solve's answers, and what follows: plain mathematics. Nothing of the dump.
-/
namespace Go.Proofs.YtenbnmbbfeekpaaDoor

/-- Solve's text T and whether the clauses can be met B, as P7 asks. -/
structure SolveP (T : List UInt8 → List UInt8 → List UInt8) (B : List UInt8 → List UInt8 → Bool) : Prop where
  bad : ∀ C A, rfE C A ≠ 0 → T C A = [] ∧ B C A = false
  sat : ∀ C A, rfE C A = 0 → B C A = true → ∃ f, mtB f C A = true ∧ T C A = mdT C A f 26 0
  uns : ∀ C A, rfE C A = 0 → B C A = false → smB A (T C A) = true ∧ ∀ f, mtB f C (T C A) = false

theorem has_iff {s : List UInt8} {c : Nat} : hasB s c = true ↔ ∃ x ∈ s, x.toNat = c := by
  unfold hasB; rw [List.any_eq_true]; simp
theorem smF_props {A : List UInt8} : ∀ (r : List UInt8) (p : Nat), smF A p r = true → (∀ x ∈ r, hasB A x.toNat = true ∧ p < x.toNat) ∧ r.length + p ≤ 255 + (if r = [] then p else 0)
  | [], p, _ => ⟨fun x hx => by simp at hx, by simp⟩
  | x :: r, p, h => by
    rw [smF, Bool.and_eq_true, Bool.and_eq_true, decide_eq_true_eq] at h
    obtain ⟨⟨h1, h2⟩, h3⟩ := h
    obtain ⟨i1, i2⟩ := smF_props r x.toNat h3
    have hx := x.toNat_lt
    refine ⟨fun y hy => ?_, ?_⟩
    · rcases List.mem_cons.1 hy with rfl | hy
      · exact ⟨h1, h2⟩
      · exact ⟨(i1 y hy).1, Nat.lt_trans h2 (i1 y hy).2⟩
    · rw [if_neg (by simp)]
      simp only [List.length_cons]
      split at i2
      · rename_i hr; subst hr; simp; omega
      · omega
theorem smB_props {A S : List UInt8} (h : smB A S = true) : (∀ x ∈ S, hasB A x.toNat = true) ∧ S.length ≤ 256 := by
  match S, h with
  | [], _ => exact ⟨fun x hx => by simp at hx, by simp⟩
  | x :: r, h =>
    rw [smB, Bool.and_eq_true] at h
    obtain ⟨i1, i2⟩ := smF_props r x.toNat h.2
    refine ⟨fun y hy => ?_, ?_⟩
    · rcases List.mem_cons.1 hy with rfl | hy
      · exact h.1
      · exact (i1 y hy).1
    · simp only [List.length_cons]
      split at i2 <;> omega
theorem sm_sub {A S : List UInt8} (h : smB A S = true) : ∀ x ∈ S, x ∈ A := by
  intro x hx
  obtain ⟨y, hy, e⟩ := has_iff.1 ((smB_props h).1 x hx)
  rw [← UInt8.toNat_inj.1 e]
  exact hy
theorem mtB_sub {f : Nat → Bool} {C A S : List UInt8} (hs : ∀ x ∈ S, x ∈ A) (h : mtB f C A = true) : mtB f C S = true := by
  unfold mtB at h ⊢
  rw [Bool.and_eq_true, List.all_eq_true] at h ⊢
  exact ⟨h.1, fun x hx => h.2 x (hs x hx)⟩


/-- It says 'can be met' just if it can. -/
theorem SolveP.iff {T : List UInt8 → List UInt8 → List UInt8} {B : List UInt8 → List UInt8 → Bool} (h : SolveP T B) {C A : List UInt8} (h0 : rfE C A = 0) : B C A = true ↔ ∃ f, mtB f C A = true := by
  constructor
  · intro hb
    obtain ⟨f, hf, _⟩ := h.sat C A h0 hb
    exact ⟨f, hf⟩
  · rintro ⟨f, hf⟩
    cases hb : B C A with
    | true => rfl
    | false =>
      obtain ⟨h1, h2⟩ := h.uns C A h0 hb
      have := mtB_sub (sm_sub h1) hf
      rw [h2 f] at this
      cases this
theorem SolveP.lits {T : List UInt8 → List UInt8 → List UInt8} {B : List UInt8 → List UInt8 → Bool} (h : SolveP T B) (C A : List UInt8) : ∀ x ∈ T C A, litB x.toNat = true := by
  by_cases h0 : rfE C A = 0
  · cases hb : B C A with
    | true =>
      obtain ⟨f, _, e⟩ := h.sat C A h0 hb
      rw [e]
      exact mdT_lit C A f 26 0 rfl
    | false =>
      obtain ⟨h1, _⟩ := h.uns C A h0 hb
      obtain ⟨_, _, _, _, h5⟩ := rf_ok h0
      exact fun x hx => h5 x (sm_sub h1 x hx)
  · rw [(h.bad C A h0).1]
    intro x hx
    simp at hx
theorem SolveP.len {T : List UInt8 → List UInt8 → List UInt8} {B : List UInt8 → List UInt8 → Bool} (h : SolveP T B) (C A : List UInt8) : (T C A).length ≤ 256 := by
  by_cases h0 : rfE C A = 0
  · cases hb : B C A with
    | true =>
      obtain ⟨f, _, e⟩ := h.sat C A h0 hb
      rw [e]
      have := mdT_len C A f 26 0
      omega
    | false => exact (smB_props (h.uns C A h0 hb).1).2
  · rw [(h.bad C A h0).1]; simp
theorem SolveP.solved {T : List UInt8 → List UInt8 → List UInt8} {B : List UInt8 → List UInt8 → Bool} (h : SolveP T B) (C A : List UInt8) (b : Int) : slB C A (T C A) (B C A) (rfE C A) b = true := by
  by_cases h0 : rfE C A = 0
  · cases hb : B C A with
    | true =>
      obtain ⟨f, hf, e⟩ := h.sat C A h0 hb
      rw [e, h0]
      exact sl_sat b h0 f hf
    | false =>
      obtain ⟨h1, h2⟩ := h.uns C A h0 hb
      rw [h0]
      exact sl_uns b h0 h1 h2
  · obtain ⟨e1, e2⟩ := h.bad C A h0
    rw [e1, e2]
    exact sl_err b h0

/-- Met by an assignment: whether it is decided. -/
theorem SolveP.yes {T : List UInt8 → List UInt8 → List UInt8} {B : List UInt8 → List UInt8 → Bool} (h : SolveP T B) {C A : List UInt8} (h0 : rfE C A = 0) (f : Nat → Bool) (hf : mtB f C A = true) : B C A = true := (h.iff h0).2 ⟨f, hf⟩
theorem SolveP.no {T : List UInt8 → List UInt8 → List UInt8} {B : List UInt8 → List UInt8 → Bool} (h : SolveP T B) {C A : List UInt8} (h0 : rfE C A = 0) (hf : ∀ f, mtB f C A = false) : B C A = false := by
  cases hb : B C A with
  | false => rfl
  | true =>
    obtain ⟨f, h1⟩ := (h.iff h0).1 hb
    rw [hf f] at h1
    cases h1

/-- The document's examples: 'ab;Ab;' and 'B'; the empty text and 'aA'; the empty text and 'cA'. -/
def exC : List UInt8 := [97, 98, 59, 65, 98, 59]
theorem ex1_rf : rfE exC [66] = 0 := by decide +kernel
theorem ex2_rf : rfE [] [97, 65] = 0 := by decide +kernel
theorem ex3_rf : rfE [] [99, 65] = 0 := by decide +kernel
theorem ex1_no (f : Nat → Bool) : mtB f exC [66] = false := by
  have : mtB f exC [66] = mtB (fun v => if v = 0 then f 0 else f 1) exC [66] := by
    refine mtB_cong (fun x hx hn => ?_) (fun x hx => ?_)
    · simp [exC] at hx
      rcases hx with rfl | rfl | rfl | rfl | rfl | rfl <;> first | rfl | (exfalso; exact hn rfl)
    · simp at hx
      subst hx
      rfl
  rw [this]
  cases f 0 <;> cases f 1 <;> decide +kernel
theorem ex2_no (f : Nat → Bool) : mtB f [] [97, 65] = false := by
  have : mtB f [] [97, 65] = mtB (fun _ => f 0) [] [97, 65] := by
    refine mtB_cong (fun x hx hn => by simp at hx) (fun x hx => ?_)
    simp at hx
    rcases hx with rfl | rfl <;> rfl
  rw [this]
  cases f 0 <;> decide +kernel
theorem SolveP.ex1 {T : List UInt8 → List UInt8 → List UInt8} {B : List UInt8 → List UInt8 → Bool} (h : SolveP T B) : T exC [66] = [66] ∧ B exC [66] = false := by
  have hb := h.no ex1_rf ex1_no
  refine ⟨?_, hb⟩
  obtain ⟨h1, h2⟩ := h.uns _ _ ex1_rf hb
  have hsub := sm_sub h1
  generalize T exC [66] = S at *
  match S, h1, h2, hsub with
  | [], _, h2, _ => exact absurd (h2 (fun _ => true)) (by decide +kernel)
  | [x], _, _, hs =>
    have := hs x (by simp)
    simp at this
    rw [this]
  | x :: y :: r, h1, _, hs =>
    exfalso
    have e1 := hs x (by simp)
    have e2 := hs y (by simp)
    simp at e1 e2
    subst e1 e2
    rw [smB, smF] at h1
    simp at h1
theorem SolveP.ex2 {T : List UInt8 → List UInt8 → List UInt8} {B : List UInt8 → List UInt8 → Bool} (h : SolveP T B) : T [] [97, 65] = [65, 97] ∧ B [] [97, 65] = false := by
  have hb := h.no ex2_rf ex2_no
  refine ⟨?_, hb⟩
  obtain ⟨h1, h2⟩ := h.uns _ _ ex2_rf hb
  have hsub := sm_sub h1
  generalize T [] [97, 65] = S at *
  match S, h1, h2, hsub with
  | [], _, h2, _ => exact absurd (h2 (fun _ => true)) (by decide +kernel)
  | [x], _, h2, hs =>
    exfalso
    have := hs x (by simp)
    simp at this
    rcases this with rfl | rfl
    · exact absurd (h2 (fun _ => true)) (by decide +kernel)
    · exact absurd (h2 (fun _ => false)) (by decide +kernel)
  | x :: y :: r, h1, _, hs =>
    have e1 := hs x (by simp)
    have e2 := hs y (by simp)
    simp at e1 e2
    rw [smB, smF] at h1
    simp only [Bool.and_eq_true, decide_eq_true_eq] at h1
    rcases e1 with rfl | rfl
    · exfalso
      rcases e2 with rfl | rfl
      · exact absurd h1.2.1.2 (by decide)
      · exact absurd h1.2.1.2 (by decide)
    · rcases e2 with rfl | rfl
      · match r, h1, hs with
        | [], _, _ => rfl
        | z :: r', h1, hs =>
          exfalso
          have e3 := hs z (by simp)
          simp at e3
          have h4 := h1.2.2
          rw [smF] at h4
          simp only [Bool.and_eq_true, decide_eq_true_eq] at h4
          rcases e3 with rfl | rfl
          · exact absurd h4.1.2 (by decide)
          · exact absurd h4.1.2 (by decide)
      · exfalso; exact absurd h1.2.1.2 (by decide)
theorem SolveP.ex3 {T : List UInt8 → List UInt8 → List UInt8} {B : List UInt8 → List UInt8 → Bool} (h : SolveP T B) : T [] [99, 65] = [65, 99] ∧ B [] [99, 65] = true := by
  have hb := h.yes ex3_rf (fun v => decide (v = 2)) (by decide +kernel)
  refine ⟨?_, hb⟩
  obtain ⟨f, hf, e⟩ := h.sat _ _ ex3_rf hb
  rw [e]
  unfold mtB at hf
  simp only [List.all_cons, List.all_nil, Bool.and_true, Bool.and_eq_true] at hf
  have f2 : f 2 = true := by
    have := hf.2.1
    unfold trB at this
    simpa [litV, litS] using this
  have f0 : f 0 = false := by
    have := hf.2.2
    unfold trB at this
    simpa [litV, litS] using this
  have e2 : mdT [] [99, 65] f 26 0 = [litT f 0, litT f 2] := rfl
  rw [e2]
  unfold litT
  rw [f0, f2]
  rfl

end Go.Proofs.YtenbnmbbfeekpaaDoor

/-
  Clauses beside clauses, literals as clauses, the assignment that a model's text is: plain mathematics. Nothing of the dump.
-/
namespace Go.Proofs.YtenbnmbbfeekpaaDoor

theorem rf_intro {C A : List UInt8} (h1 : C.length ≤ 800) (h2 : A.length ≤ 800) (h3 : ∀ x ∈ C, clB x.toNat = true) (h4 : lastB C = true) (h5 : ∀ x ∈ A, litB x.toNat = true) : rfE C A = 0 := by
  have e3 : (C.all fun x => clB x.toNat) = true := List.all_eq_true.2 h3
  have e5 : (A.all fun x => litB x.toNat) = true := List.all_eq_true.2 h5
  unfold rfE
  rw [if_neg (by omega), if_neg (by omega), e3, h4, e5]
  rfl
theorem rf_long {C A : List UInt8} (h : 800 < C.length) : rfE C A = 1 := by unfold rfE; rw [if_pos h]
theorem rf_vals {C A : List UInt8} (h : rfE C A ≠ 0) : rfE C A = 1 ∨ rfE C A = 8 ∨ rfE C A = 9 := by
  unfold rfE at h ⊢
  by_cases h1 : 800 < C.length
  · rw [if_pos h1]; exact Or.inl rfl
  · rw [if_neg h1] at h ⊢
    by_cases h2 : 800 < A.length
    · rw [if_pos h2]; exact Or.inl rfl
    · rw [if_neg h2] at h ⊢
      by_cases h3 : (C.all fun x => clB x.toNat) = false
      · rw [if_pos h3]; exact Or.inr (Or.inl rfl)
      · rw [if_neg h3] at h ⊢
        by_cases h4 : lastB C = false
        · rw [if_pos h4]; exact Or.inr (Or.inl rfl)
        · rw [if_neg h4] at h ⊢
          by_cases h5 : (A.all fun x => litB x.toNat) = false
          · rw [if_pos h5]; exact Or.inr (Or.inr rfl)
          · rw [if_neg h5] at h
            exact absurd rfl h
theorem last_cons {x : UInt8} {r : List UInt8} (h : lastB (x :: r) = true) : (r = [] → x.toNat = 59) ∧ lastB r = true := by
  match r, h with
  | [], h =>
    refine ⟨fun _ => ?_, rfl⟩
    unfold lastB at h
    simpa using h
  | y :: r', h =>
    refine ⟨fun e => by simp at e, ?_⟩
    unfold lastB at h ⊢
    simpa using h
theorem last_app {C D : List UInt8} (hC : lastB C = true) (hD : lastB D = true) : lastB (C ++ D) = true := by
  match D, hD with
  | [], _ => simpa using hC
  | y :: D', hD =>
    unfold lastB at hD ⊢
    have e : (C ++ y :: D').isEmpty = false := by cases C <;> rfl
    have e2 : (y :: D').isEmpty = false := rfl
    rw [e, Bool.false_or]
    rw [e2, Bool.false_or] at hD
    rw [List.getD_eq_getElem?_getD, List.getElem?_append_right (by simp)]
    rw [List.getD_eq_getElem?_getD] at hD
    have : (C ++ y :: D').length - 1 - C.length = (y :: D').length - 1 := by simp
    rw [this]
    exact hD
theorem rf_app {C D A : List UInt8} (hC : rfE C A = 0) (hD : rfE D A = 0) (hl : C.length + D.length ≤ 800) : rfE (C ++ D) A = 0 := by
  obtain ⟨_, a2, a3, a4, a5⟩ := rf_ok hC
  obtain ⟨_, _, b3, b4, _⟩ := rf_ok hD
  refine rf_intro (by simp; omega) a2 (fun x hx => ?_) (last_app a4 b4) a5
  rcases List.mem_append.1 hx with h | h
  · exact a3 x h
  · exact b3 x h
theorem mtC_app (f : Nat → Bool) (D : List UInt8) : ∀ (C : List UInt8) (s : Bool), lastB C = true → (C = [] → s = false) → mtC f s (C ++ D) = (mtC f s C && mtC f false D)
  | [], s, _, hs => by rw [hs rfl]; simp [mtC]
  | x :: r, s, hl, _ => by
    obtain ⟨h1, h2⟩ := last_cons hl
    rw [List.cons_append, mtC, mtC]
    by_cases h59 : x.toNat = 59
    · rw [if_pos h59, if_pos h59, mtC_app f D r false h2 (fun _ => rfl), Bool.and_assoc]
    · rw [if_neg h59, if_neg h59]
      exact mtC_app f D r _ h2 (fun e => absurd (h1 e) h59)
theorem mtB_app {f : Nat → Bool} {C D A : List UInt8} (hC : lastB C = true) : mtB f (C ++ D) A = (mtB f C A && mtB f D A) := by
  unfold mtB
  rw [mtC_app f D C false hC (fun _ => rfl)]
  cases mtC f false C <;> cases mtC f false D <;> cases A.all fun x => trB f x.toNat <;> rfl

/-- Each literal as a clause of its own. -/
def unitsT (A : List UInt8) : List UInt8 := A.flatMap fun x => [x, 59]
theorem units_len (A : List UInt8) : (unitsT A).length = 2 * A.length := by
  unfold unitsT
  induction A with
  | nil => rfl
  | cons x r ih => rw [List.flatMap_cons, List.length_append, ih]; simp; omega
theorem units_cl {A : List UInt8} (h : ∀ x ∈ A, litB x.toNat = true) : ∀ x ∈ unitsT A, clB x.toNat = true := by
  intro x hx
  unfold unitsT at hx
  obtain ⟨y, hy, hxy⟩ := List.mem_flatMap.1 hx
  simp at hxy
  unfold clB
  rcases hxy with rfl | rfl
  · rw [h _ hy]; rfl
  · decide
theorem units_last : ∀ (A : List UInt8), lastB (unitsT A) = true
  | [] => rfl
  | x :: r => by
    have e : unitsT (x :: r) = [x, 59] ++ unitsT r := by simp [unitsT]
    rw [e]
    exact last_app (by unfold lastB; rfl) (units_last r)
theorem mt_units (f : Nat → Bool) : ∀ (A : List UInt8), (∀ x ∈ A, litB x.toNat = true) → mtC f false (unitsT A) = A.all fun x => trB f x.toNat
  | [], _ => rfl
  | x :: r, h => by
    have e : unitsT (x :: r) = x :: 59 :: unitsT r := by simp [unitsT]
    have hx : x.toNat ≠ 59 := fun e => by have := lit_rng (h x (by simp)); omega
    rw [e, mtC, if_neg hx, mtC, if_pos (by decide), mt_units f r (fun y hy => h y (by simp [hy])), List.all_cons, Bool.false_or]
theorem mtB_units {f : Nat → Bool} {C A : List UInt8} (hC : lastB C = true) (hA : ∀ x ∈ A, litB x.toNat = true) : mtB f (C ++ unitsT A) [] = mtB f C A := by
  rw [mtB_app hC]
  unfold mtB
  rw [mt_units f A hA]
  simp
theorem rf_units {C A : List UInt8} (h : rfE C A = 0) (hl : C.length + 2 * A.length ≤ 800) : rfE (C ++ unitsT A) [] = 0 := by
  obtain ⟨_, _, a3, a4, a5⟩ := rf_ok h
  refine rf_intro (by rw [List.length_append, units_len]; exact hl) (by simp) (fun x hx => ?_) (last_app a4 (units_last A)) (fun x hx => by simp at hx)
  rcases List.mem_append.1 hx with h | h
  · exact a3 x h
  · exact units_cl a5 x h
theorem rf_left {C A : List UInt8} (h : rfE C A = 0) : rfE C [] = 0 := by
  obtain ⟨a1, _, a3, a4, _⟩ := rf_ok h
  exact rf_intro a1 (by simp) a3 a4 (fun x hx => by simp at hx)

/-- Fewer clauses are easier. -/
theorem SolveP.app {T : List UInt8 → List UInt8 → List UInt8} {B : List UInt8 → List UInt8 → Bool} (h : SolveP T B) {C D A : List UInt8} (hC : rfE C A = 0) (hD : rfE D A = 0) (hl : C.length + D.length ≤ 800) (hb : B (C ++ D) A = true) : B C A = true ∧ B D A = true := by
  obtain ⟨f, hf⟩ := (h.iff (rf_app hC hD hl)).1 hb
  rw [mtB_app (rf_ok hC).2.2.2.1, Bool.and_eq_true] at hf
  exact ⟨h.yes hC f hf.1, h.yes hD f hf.2⟩
/-- To assume literals is to have them as clauses. -/
theorem SolveP.units {T : List UInt8 → List UInt8 → List UInt8} {B : List UInt8 → List UInt8 → Bool} (h : SolveP T B) {C A : List UInt8} (hC : rfE C A = 0) (hl : C.length + 2 * A.length ≤ 800) : B (C ++ unitsT A) [] = B C A := by
  obtain ⟨_, _, _, a4, a5⟩ := rf_ok hC
  rw [Bool.eq_iff_iff, h.iff (rf_units hC hl), h.iff hC]
  constructor
  · rintro ⟨f, hf⟩; exact ⟨f, by rwa [mtB_units a4 a5] at hf⟩
  · rintro ⟨f, hf⟩; exact ⟨f, by rwa [mtB_units a4 a5]⟩
/-- The literals that are told are refused when they are asked for alone. -/
theorem SolveP.again {T : List UInt8 → List UInt8 → List UInt8} {B : List UInt8 → List UInt8 → Bool} (h : SolveP T B) {C A : List UInt8} (hC : rfE C A = 0) (hb : B C A = false) : rfE C (T C A) = 0 ∧ B C (T C A) = false := by
  obtain ⟨h1, h2⟩ := h.uns C A hC hb
  obtain ⟨a1, _, a3, a4, _⟩ := rf_ok hC
  have h0 : rfE C (T C A) = 0 := rf_intro a1 (by have := h.len C A; omega) a3 a4 (h.lits C A)
  exact ⟨h0, h.no h0 h2⟩

/-- The bits of a model's text. -/
def bitS : List UInt8 → Nat → Nat
  | [], n => n
  | x :: r, n => bitS r (if 97 ≤ x.toNat ∧ x.toNat ≤ 122 then n ||| 2 ^ (x.toNat - 97) else n)
theorem bitS_test : ∀ (s : List UInt8) (n v : Nat), v < 26 → (bitS s n).testBit v = (n.testBit v || hasB s (97 + v))
  | [], n, v, _ => by simp [bitS, hasB]
  | x :: r, n, v, hv => by
    rw [bitS, bitS_test r _ v hv]
    have hc : hasB (x :: r) (97 + v) = (x.toNat == 97 + v || hasB r (97 + v)) := rfl
    rw [hc]
    by_cases h : 97 ≤ x.toNat ∧ x.toNat ≤ 122
    · rw [if_pos h, Nat.testBit_or, Nat.testBit_two_pow]
      have : decide (x.toNat - 97 = v) = (x.toNat == 97 + v) := by rw [Bool.eq_iff_iff, decide_eq_true_iff, beq_iff_eq]; omega
      rw [this, Bool.or_assoc]
    · rw [if_neg h]
      have : (x.toNat == 97 + v) = false := by rw [beq_eq_false_iff_ne]; omega
      rw [this, Bool.false_or]
theorem bitS_lt : ∀ (s : List UInt8) (n : Nat), n < 2 ^ 26 → bitS s n < 2 ^ 26
  | [], n, h => h
  | x :: r, n, h => by
    rw [bitS]
    refine bitS_lt r _ ?_
    split
    · exact Nat.or_lt_two_pow h (Nat.pow_lt_pow_right (by omega) (by omega))
    · exact h
/-- A literal of a model's text: low ones just where the assignment says so. -/
theorem mdT_has (C A : List UInt8) (f : Nat → Bool) : ∀ (k v : Nat), v + k = 26 → ∀ u, u < 26 → hasB (mdT C A f k v) (97 + u) = (decide (v ≤ u) && occB C A u && f u)
  | 0, v, hk, u, hu => by
    have : decide (v ≤ u) = false := by simp; omega
    rw [this]
    rfl
  | k + 1, v, hk, u, hu => by
    rw [mdT]
    have ih := mdT_has C A f k (v + 1) (by omega) u hu
    by_cases huv : u = v
    · subst huv
      have d1 : decide (u + 1 ≤ u) = false := by simp
      have d2 : decide (u ≤ u) = true := by simp
      rw [d1] at ih
      rw [d2]
      cases ho : occB C A u with
      | false => simp only [Bool.false_eq_true, if_false]; rw [ih]; rfl
      | true =>
        simp only [if_true]
        have e : hasB (litT f u :: mdT C A f k (u + 1)) (97 + u) = ((litT f u).toNat == 97 + u || hasB (mdT C A f k (u + 1)) (97 + u)) := rfl
        rw [e, ih, litT_val hu]
        cases f u
        · have : ((if false = true then 97 + u else 65 + u) == 97 + u) = false := by rw [beq_eq_false_iff_ne]; simp
          rw [this]; rfl
        · simp
    · have d : decide (v + 1 ≤ u) = decide (v ≤ u) := by rw [Bool.eq_iff_iff, decide_eq_true_iff, decide_eq_true_iff]; omega
      rw [d] at ih
      split
      · have e : hasB (litT f v :: mdT C A f k (v + 1)) (97 + u) = ((litT f v).toNat == 97 + u || hasB (mdT C A f k (v + 1)) (97 + u)) := rfl
        have : ((litT f v).toNat == 97 + u) = false := by
          rw [beq_eq_false_iff_ne, litT_val (by omega)]
          split <;> omega
        rw [e, this, ih, Bool.false_or]
      · exact ih
theorem mdT_mem (C A : List UInt8) (f : Nat → Bool) : ∀ (k v : Nat), v + k = 26 → ∀ x ∈ mdT C A f k v, trB f x.toNat = true ∧ occB C A (litV x.toNat) = true
  | 0, _, _, x, hx => by simp [mdT] at hx
  | k + 1, v, hk, x, hx => by
    rw [mdT] at hx
    split at hx
    · rename_i ho
      rcases List.mem_cons.1 hx with rfl | hx
      · rw [litT_val (by omega)]
        cases hf : f v
        · have e : litV (65 + v) = v := by unfold litV; rw [if_neg (by omega)]; omega
          have e2 : litS (65 + v) = false := by unfold litS; simp; omega
          simp only [Bool.false_eq_true, if_false]
          unfold trB
          rw [e, e2, hf]
          exact ⟨rfl, ho⟩
        · have e : litV (97 + v) = v := by unfold litV; rw [if_pos (by omega)]; omega
          have e2 : litS (97 + v) = true := by unfold litS; simp
          simp only [if_true]
          unfold trB
          rw [e, e2, hf]
          exact ⟨rfl, ho⟩
      · exact mdT_mem C A f k (v + 1) (by omega) x hx
    · exact mdT_mem C A f k (v + 1) (by omega) x hx
/-- The model's text as an assignment meets clauses, literals and itself. -/
theorem model_bits {C A : List UInt8} {f : Nat → Bool} (hC : ∀ x ∈ C, clB x.toNat = true) (hA : ∀ x ∈ A, litB x.toNat = true) (hm : mtB f C A = true) :
    mtC (bitF ((bitS (mdT C A f 26 0) 0 : Nat) : Int)) false C = true ∧ (A.all fun x => trB (bitF ((bitS (mdT C A f 26 0) 0 : Nat) : Int)) x.toNat) = true ∧ ((mdT C A f 26 0).all fun x => trB (bitF ((bitS (mdT C A f 26 0) 0 : Nat) : Int)) x.toNat) = true := by
  have hb : ∀ v, v < 26 → occB C A v = true → bitF ((bitS (mdT C A f 26 0) 0 : Nat) : Int) v = f v := by
    intro v hv ho
    rw [bit_test, bitS_test _ _ _ hv, mdT_has C A f 26 0 rfl v hv, ho]
    simp
  have hcl : ∀ x ∈ C, x.toNat ≠ 59 → litB x.toNat = true := fun x hx hn => by
    have := hC x hx
    unfold clB at this
    simpa [hn] using this
  unfold mtB at hm
  rw [Bool.and_eq_true] at hm
  refine ⟨?_, ?_, ?_⟩
  · rw [← hm.1]
    exact mtC_cong C false (fun x hx hn => hb _ (litV_lt (hcl x hx hn)) (occ_C hx (hcl x hx hn)))
  · rw [List.all_eq_true]
    intro x hx
    rw [tr_cong (hb _ (litV_lt (hA x hx)) (occ_A hx (hA x hx)))]
    exact (List.all_eq_true.1 hm.2) x hx
  · rw [List.all_eq_true]
    intro x hx
    obtain ⟨h1, h2⟩ := mdT_mem C A f 26 0 rfl x hx
    rw [tr_cong (hb _ (litV_lt (mdT_lit C A f 26 0 rfl x hx)) h2)]
    exact h1

end Go.Proofs.YtenbnmbbfeekpaaDoor
