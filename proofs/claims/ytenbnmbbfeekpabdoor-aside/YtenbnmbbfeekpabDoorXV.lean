import Derived.Test.YtenbnmbbfeekpabDoorXQ

/-
  Sets of literals as bits (A to Z, then a to z): plain mathematics. Nothing of the dump.
-/
namespace Go.Proofs.YtenbnmbbfeekpabDoor
open Go.RowKit

/-- And not. -/
def adN (a b : Nat) : Nat := a ^^^ (a &&& b)
theorem adN_test (a b i : Nat) : (adN a b).testBit i = (a.testBit i && !b.testBit i) := by
  unfold adN
  rw [Nat.testBit_xor, Nat.testBit_and]
  cases a.testBit i <;> cases b.testBit i <;> rfl
theorem adN_lt {a b n : Nat} (h : a < 2 ^ n) : adN a b < 2 ^ n := by
  refine Nat.lt_pow_two_of_testBit _ fun i hi => ?_
  rw [adN_test, Nat.testBit_lt_two_pow (Nat.lt_of_lt_of_le h (Nat.pow_le_pow_right (by omega) hi))]
  rfl
theorem and_lt {a b n : Nat} (h : a < 2 ^ n) : a &&& b < 2 ^ n := Nat.lt_of_le_of_lt Nat.and_le_left h
theorem or_lt {a b n : Nat} (h : a < 2 ^ n) (g : b < 2 ^ n) : a ||| b < 2 ^ n := Nat.or_lt_two_pow h g
theorem bit_lt {s n i : Nat} (h : s < 2 ^ n) (hb : s.testBit i = true) : i < n := by
  rcases Nat.lt_or_ge i n with g | g
  · exact g
  · rw [Nat.testBit_lt_two_pow (Nat.lt_of_lt_of_le h (Nat.pow_le_pow_right (by omega) g))] at hb
    cases hb
theorem ne_zero_bit {s : Nat} (h : s ≠ 0) : ∃ i, s.testBit i = true := by
  apply Classical.byContradiction
  intro g
  apply h
  apply Nat.eq_of_testBit_eq
  intro i
  rw [Nat.zero_testBit]
  cases e : s.testBit i with
  | false => rfl
  | true => exact absurd ⟨i, e⟩ g
theorem bit_ne_zero {s i : Nat} (h : s.testBit i = true) : s ≠ 0 := by
  intro e
  rw [e, Nat.zero_testBit] at h
  cases h
theorem and_zero_iff (a b : Nat) : a &&& b = 0 ↔ ∀ i, a.testBit i = true → b.testBit i = false := by
  constructor
  · intro h i hi
    have : (a &&& b).testBit i = false := by rw [h, Nat.zero_testBit]
    rw [Nat.testBit_and, hi] at this
    simpa using this
  · intro h
    apply Nat.eq_of_testBit_eq
    intro i
    rw [Nat.zero_testBit, Nat.testBit_and]
    cases e : a.testBit i with
    | false => rfl
    | true => rw [h i e]; rfl
theorem and_ne_iff (a b : Nat) : a &&& b ≠ 0 ↔ ∃ i, a.testBit i = true ∧ b.testBit i = true := by
  constructor
  · intro h
    obtain ⟨i, hi⟩ := ne_zero_bit h
    rw [Nat.testBit_and, Bool.and_eq_true] at hi
    exact ⟨i, hi⟩
  · rintro ⟨i, h1, h2⟩
    exact bit_ne_zero (i := i) (by rw [Nat.testBit_and, h1, h2]; rfl)
theorem and_pow_ne (s i : Nat) : s &&& 2 ^ i ≠ 0 ↔ s.testBit i = true := by
  rw [and_ne_iff]
  constructor
  · rintro ⟨j, h1, h2⟩
    rw [Nat.testBit_two_pow, decide_eq_true_eq] at h2
    rw [h2]; exact h1
  · intro h
    exact ⟨i, h, by rw [Nat.testBit_two_pow]; simp⟩

/-- The opposite literal's number. -/
def opI (i : Nat) : Nat := if i < 26 then i + 26 else i - 26
theorem opI_lt {i : Nat} (h : i < 52) : opI i < 52 := by unfold opI; split <;> omega
theorem opI_op {i : Nat} (h : i < 52) : opI (opI i) = i := by unfold opI; split <;> split <;> omega
theorem opI_ne (i : Nat) : opI i ≠ i := by unfold opI; split <;> omega
/-- The opposites. -/
def oppN (s : Nat) : Nat := s / 67108864 ||| (s &&& 67108863) * 67108864
theorem oppN_test {s : Nat} (h : s < 2 ^ 52) (i : Nat) : (oppN s).testBit i = (decide (i < 52) && s.testBit (opI i)) := by
  unfold oppN
  rw [show (67108864 : Nat) = 2 ^ 26 from rfl, show (67108863 : Nat) = 2 ^ 26 - 1 from rfl, Nat.testBit_or, Nat.testBit_div_two_pow, Nat.testBit_mul_two_pow, Nat.testBit_and, Nat.testBit_two_pow_sub_one]
  unfold opI
  have hz : ∀ j, 52 ≤ j → s.testBit j = false := fun j hj => Nat.testBit_lt_two_pow (Nat.lt_of_lt_of_le h (Nat.pow_le_pow_right (by omega) hj))
  by_cases h1 : i < 26
  · rw [if_pos h1]
    have : decide (26 ≤ i) = false := by simp; omega
    have h2 : decide (i < 52) = true := by simp; omega
    rw [this, h2]
    simp
  · rw [if_neg h1, hz (i + 26) (by omega)]
    have : decide (26 ≤ i) = true := by simp; omega
    rw [this]
    have h2 : decide (i - 26 < 26) = decide (i < 52) := by rw [Bool.eq_iff_iff, decide_eq_true_iff, decide_eq_true_iff]; omega
    rw [h2]
    cases decide (i < 52) <;> simp
theorem oppN_lt {s : Nat} (h : s < 2 ^ 52) : oppN s < 2 ^ 52 := by
  refine Nat.lt_pow_two_of_testBit _ fun i hi => ?_
  rw [oppN_test h]
  have : decide (i < 52) = false := by simp; omega
  rw [this]; rfl
theorem oppN_bit {s i : Nat} (h : s < 2 ^ 52) : (oppN s).testBit i = true ↔ i < 52 ∧ s.testBit (opI i) = true := by
  rw [oppN_test h, Bool.and_eq_true, decide_eq_true_eq]
theorem oppN_op {s i : Nat} (h : s < 2 ^ 52) (hi : i < 52) : (oppN s).testBit (opI i) = s.testBit i := by
  rw [oppN_test h, opI_op hi]
  have : decide (opI i < 52) = true := by simpa using opI_lt hi
  rw [this]; rfl
theorem oppN_pow {i : Nat} (h : i < 52) : oppN (2 ^ i) = 2 ^ opI i := by
  have hs : 2 ^ i < 2 ^ 52 := Nat.pow_lt_pow_right (by omega) h
  apply Nat.eq_of_testBit_eq
  intro j
  rw [oppN_test hs, Nat.testBit_two_pow, Nat.testBit_two_pow]
  rw [Bool.eq_iff_iff, Bool.and_eq_true, decide_eq_true_iff, decide_eq_true_iff, decide_eq_true_iff]
  constructor
  · rintro ⟨h1, h2⟩
    rw [h2, opI_op h1]
  · intro h2
    have h1 : j < 52 := by rw [← h2]; exact opI_lt h
    exact ⟨h1, by rw [← h2, opI_op h]⟩

/-- The first alone. -/
def fstN (s : Nat) : Nat := s &&& (18446744073709551616 - s)
theorem low_bit : ∀ (s : Nat), s ≠ 0 → ∃ i, s.testBit i = true ∧ ∀ j, (s.testBit j && !(s - 1).testBit j) = decide (j = i) := by
  intro s
  induction s using Nat.strongRecOn with
  | _ s ih =>
    intro h0
    rcases Nat.mod_two_eq_zero_or_one s with h | h
    · obtain ⟨i, h1, h2⟩ := ih (s / 2) (by omega) (by omega)
      refine ⟨i + 1, by rw [Nat.testBit_succ]; exact h1, fun j => ?_⟩
      cases j with
      | zero =>
        rw [Nat.testBit_zero, h]
        simp
      | succ j =>
        rw [Nat.testBit_succ, Nat.testBit_succ, show (s - 1) / 2 = s / 2 - 1 by omega, h2 j]
        rw [Bool.eq_iff_iff, decide_eq_true_iff, decide_eq_true_iff]; omega
    · refine ⟨0, by rw [Nat.testBit_zero, h]; rfl, fun j => ?_⟩
      cases j with
      | zero =>
        rw [Nat.testBit_zero, Nat.testBit_zero, h, show (s - 1) % 2 = 0 by omega]
        rfl
      | succ j =>
        rw [Nat.testBit_succ, Nat.testBit_succ, show (s - 1) / 2 = s / 2 by omega]
        cases (s / 2).testBit j <;> simp
theorem fstN_pow {s : Nat} (h : s < 2 ^ 52) (h0 : s ≠ 0) : ∃ i, i < 52 ∧ fstN s = 2 ^ i ∧ s.testBit i = true := by
  obtain ⟨i, h1, h2⟩ := low_bit s h0
  refine ⟨i, bit_lt h h1, ?_, h1⟩
  apply Nat.eq_of_testBit_eq
  intro j
  unfold fstN
  rw [Nat.testBit_and, Nat.testBit_two_pow]
  have e : 18446744073709551616 - s = 2 ^ 64 - (s - 1 + 1) := by omega
  rw [e, Nat.testBit_two_pow_sub_succ (by omega)]
  have hj := h2 j
  by_cases hs : s.testBit j = true
  · have : j < 64 := by have := bit_lt h hs; omega
    rw [hs, show decide (j < 64) = true by simpa using this]
    rw [hs] at hj
    simp only [Bool.true_and] at hj ⊢
    rw [hj, Bool.eq_iff_iff, decide_eq_true_iff, decide_eq_true_iff]
    exact eq_comm
  · have hs' : s.testBit j = false := by simpa using hs
    rw [hs']
    rw [hs'] at hj
    simp only [Bool.false_and] at hj ⊢
    symm
    rw [decide_eq_false_iff_not]
    have := hj.symm
    rw [decide_eq_false_iff_not] at this
    exact fun e => this e.symm
theorem fstN_lt {s : Nat} (h : s < 2 ^ 52) : fstN s < 2 ^ 52 := and_lt h

/-- How many, as the loop counts. -/
def szI : Nat → Nat → Int → Int
  | 0, _, n => n
  | k + 1, s, n => if s = 0 then n else szI k (adN s (fstN s)) (wrap64 (n + 1))
theorem szI_dec {s : Nat} (h : s < 2 ^ 52) (h0 : s ≠ 0) : adN s (fstN s) < s := by
  obtain ⟨i, _, e, hb⟩ := fstN_pow h h0
  rw [e]
  have hle : adN s (2 ^ i) ≤ s := by
    refine Nat.le_of_testBit ?_
    intro j hj
    rw [adN_test, Bool.and_eq_true] at hj
    exact hj.1
  refine Nat.lt_of_le_of_ne hle fun g => ?_
  have : (adN s (2 ^ i)).testBit i = false := by rw [adN_test, Nat.testBit_two_pow]; simp
  rw [g, hb] at this
  cases this
def sizeI (s : Nat) : Int := szI s s 0

/-- A letter's literal. -/
def litN (c : Nat) : Nat := if 65 ≤ c ∧ c ≤ 90 then 2 ^ (c - 65) else if 97 ≤ c ∧ c ≤ 122 then 2 ^ (c - 71) else 0
def litI (c : Nat) : Nat := if 97 ≤ c then c - 71 else c - 65
theorem litI_lt {c : Nat} (h : litB c = true) : litI c < 52 := by unfold litB at h; unfold litI; simp at h; split <;> omega
theorem litN_pow {c : Nat} (h : litB c = true) : litN c = 2 ^ litI c := by
  unfold litB at h; unfold litN litI; simp at h
  by_cases h1 : 65 ≤ c ∧ c ≤ 90
  · rw [if_pos h1, if_neg (by omega)]
  · rw [if_neg h1, if_pos (by omega), if_pos (by omega)]
theorem litN_zero {c : Nat} : litN c = 0 ↔ litB c = false := by
  cases h : litB c with
  | true =>
    rw [litN_pow h]
    simp
  | false =>
    unfold litB at h; unfold litN
    simp at h
    rw [if_neg (by omega), if_neg (by omega)]
    simp
theorem litN_lt (c : Nat) : litN c < 2 ^ 52 := by
  cases h : litB c with
  | true => rw [litN_pow h]; exact Nat.pow_lt_pow_right (by omega) (litI_lt h)
  | false => rw [litN_zero.2 h]; decide
theorem litN_test {c : Nat} (i : Nat) (h : litB c = true) : (litN c).testBit i = true ↔ i = litI c := by
  rw [litN_pow h, Nat.testBit_two_pow, decide_eq_true_eq]
  exact eq_comm
theorem and_lit {s c : Nat} (h : litB c = true) : s &&& litN c ≠ 0 ↔ s.testBit (litI c) = true := by
  rw [litN_pow h]; exact and_pow_ne _ _

/-- An assignment meets the literal. -/
def trI (f : Nat → Bool) (i : Nat) : Bool := if i < 26 then !f i else f (i - 26)
theorem trI_op {f : Nat → Bool} {i : Nat} (h : i < 52) : trI f (opI i) = !trI f i := by
  unfold trI opI
  by_cases h1 : i < 26
  · rw [if_pos h1, if_neg (by omega), if_pos h1]
    simp
  · rw [if_neg h1, if_pos (by omega), if_neg h1]
theorem trI_lit {f : Nat → Bool} {c : Nat} (h : litB c = true) : trI f (litI c) = trB f c := by
  unfold litB at h; unfold trI litI trB litV litS; simp at h
  by_cases h1 : 97 ≤ c
  · rw [if_pos h1, if_neg (by omega), if_pos h1, show c - 71 - 26 = c - 97 by omega]
    simp [h1]
  · rw [if_neg h1, if_pos (by omega), if_neg h1]
    have : decide (97 ≤ c) = false := by simp; omega
    rw [this]
    cases f (c - 65) <;> rfl
def MetL (f : Nat → Bool) (S : Nat) : Prop := ∀ i, S.testBit i = true → trI f i = true
def MetC (f : Nat → Bool) (c : Nat) : Prop := ∃ i, c.testBit i = true ∧ trI f i = true
/-- No two opposites. -/
def Cons (s : Nat) : Prop := ∀ i, i < 52 → s.testBit i = true → s.testBit (opI i) = false

end Go.Proofs.YtenbnmbbfeekpabDoor

/-
  The search, as plain mathematics. Nothing of the dump.
-/
namespace Go.Proofs.YtenbnmbbfeekpabDoor
open Go.RowKit

/-- A clause that needs no more care. -/
def skB (met c : Nat) : Bool := decide (c &&& met ≠ 0) || decide (c &&& oppN c ≠ 0)
/-- The tightest: how many there are, the rest, its number, what is found, how few. -/
def tgN (met len : Nat) : List Nat → Nat → Nat → Int → Nat
  | [], _, fd, _ => fd
  | c :: r, i, fd, fw =>
    if skB met c then tgN met len r (i + 1) fd fw
    else if fd = len ∨ sizeI (adN c (oppN met)) < fw then tgN met len r (i + 1) i (sizeI (adN c (oppN met)))
    else tgN met len r (i + 1) fd fw
def tight (cs : List Nat) (met : Nat) : Nat := tgN met cs.length cs 0 cs.length 0
theorem tg_ok (met : Nat) (cs : List Nat) : ∀ (r pre : List Nat) (fd : Nat) (fw : Int), cs = pre ++ r →
    (fd = cs.length → ∀ c ∈ pre, skB met c = true) → (fd ≠ cs.length → fd < pre.length ∧ skB met (cs.getD fd 0) = false) →
    (tgN met cs.length r pre.length fd fw = cs.length → ∀ c ∈ cs, skB met c = true) ∧
    (tgN met cs.length r pre.length fd fw ≠ cs.length → tgN met cs.length r pre.length fd fw < cs.length ∧ skB met (cs.getD (tgN met cs.length r pre.length fd fw) 0) = false)
  | [], pre, fd, fw, hcs, h1, h2 => by
    rw [tgN]
    have e : pre = cs := by rw [hcs]; simp
    subst e
    exact ⟨h1, h2⟩
  | c :: r, pre, fd, fw, hcs, h1, h2 => by
    rw [tgN]
    have hcs' : cs = (pre ++ [c]) ++ r := by rw [hcs]; simp
    have hl : (pre ++ [c]).length = pre.length + 1 := by simp
    have hlen : pre.length < cs.length := by rw [hcs]; simp
    have hget : cs.getD pre.length 0 = c := by rw [hcs]; simp [List.getD_eq_getElem?_getD]
    cases hk : skB met c with
    | true =>
      simp only [if_true]
      rw [← hl]
      refine tg_ok met cs r (pre ++ [c]) fd fw hcs' (fun e x hx => ?_) (fun e => ⟨by have := (h2 e).1; omega, (h2 e).2⟩)
      rcases List.mem_append.1 hx with hx | hx
      · exact h1 e x hx
      · rw [List.mem_singleton.1 hx]; exact hk
    | false =>
      simp only [Bool.false_eq_true, if_false]
      by_cases hc : fd = cs.length ∨ sizeI (adN c (oppN met)) < fw
      · rw [if_pos hc, ← hl]
        refine tg_ok met cs r (pre ++ [c]) pre.length _ hcs' (fun e => by omega) (fun _ => ⟨by omega, ?_⟩)
        rw [hget]; exact hk
      · rw [if_neg hc, ← hl]
        exact tg_ok met cs r (pre ++ [c]) fd fw hcs' (fun e => absurd (Or.inl e) hc) (fun e => ⟨by have := (h2 e).1; omega, (h2 e).2⟩)
theorem tight_all {cs : List Nat} {met : Nat} (h : cs.length ≤ tight cs met) : ∀ c ∈ cs, skB met c = true := by
  obtain ⟨h1, h2⟩ := tg_ok met cs cs [] cs.length 0 rfl (fun _ c hc => by simp at hc) (fun e => absurd rfl e)
  refine h1 (Classical.byContradiction fun e => ?_)
  have := (h2 e).1
  exact absurd this (Nat.not_lt.2 h)
theorem tight_one {cs : List Nat} {met : Nat} (h : tight cs met < cs.length) : skB met (cs.getD (tight cs met) 0) = false :=
  ((tg_ok met cs cs [] cs.length 0 rfl (fun _ c hc => by simp at hc) (fun e => absurd rfl e)).2 (Nat.ne_of_lt h)).2

/-- The search: steps left, clauses, what is met. -/
def srch : Nat → List Nat → Nat → Bool × Nat
  | 0, _, met => (true, met)
  | k + 1, cs, met =>
    if cs.length ≤ tight cs met then (true, met)
    else if adN (cs.getD (tight cs met) 0) (oppN met) = 0 then (false, oppN (cs.getD (tight cs met) 0))
    else if (srch k cs (met ||| fstN (adN (cs.getD (tight cs met) 0) (oppN met)))).1 = true ∨ (srch k cs (met ||| fstN (adN (cs.getD (tight cs met) 0) (oppN met)))).2 &&& fstN (adN (cs.getD (tight cs met) 0) (oppN met)) = 0
      then srch k cs (met ||| fstN (adN (cs.getD (tight cs met) 0) (oppN met)))
    else if (srch k cs (met ||| oppN (fstN (adN (cs.getD (tight cs met) 0) (oppN met))))).1 = true ∨ (srch k cs (met ||| oppN (fstN (adN (cs.getD (tight cs met) 0) (oppN met))))).2 &&& oppN (fstN (adN (cs.getD (tight cs met) 0) (oppN met))) = 0
      then srch k cs (met ||| oppN (fstN (adN (cs.getD (tight cs met) 0) (oppN met))))
    else (false, adN ((srch k cs (met ||| fstN (adN (cs.getD (tight cs met) 0) (oppN met)))).2 ||| (srch k cs (met ||| oppN (fstN (adN (cs.getD (tight cs met) 0) (oppN met))))).2) (fstN (adN (cs.getD (tight cs met) 0) (oppN met)) ||| oppN (fstN (adN (cs.getD (tight cs met) 0) (oppN met)))))

theorem or_grow {s i : Nat} (h : s.testBit i = false) : s < s ||| 2 ^ i := by
  refine Nat.lt_of_le_of_ne Nat.left_le_or fun e => ?_
  have : (s ||| 2 ^ i).testBit i = true := by rw [Nat.testBit_or, Nat.testBit_two_pow]; simp
  rw [← e, h] at this
  cases this
theorem or_pow_test (s i j : Nat) : (s ||| 2 ^ i).testBit j = true ↔ s.testBit j = true ∨ j = i := by
  rw [Nat.testBit_or, Nat.testBit_two_pow, Bool.or_eq_true, decide_eq_true_eq]
  exact or_congr Iff.rfl eq_comm

/-- The step's literal: in the clause, not said, nor its opposite. -/
theorem step_lit {cs : List Nat} {met : Nat} (hcs : ∀ c ∈ cs, c < 2 ^ 52) (hm : met < 2 ^ 52) (ht : tight cs met < cs.length) (ho : adN (cs.getD (tight cs met) 0) (oppN met) ≠ 0) :
    ∃ i, i < 52 ∧ fstN (adN (cs.getD (tight cs met) 0) (oppN met)) = 2 ^ i ∧ (cs.getD (tight cs met) 0).testBit i = true ∧ met.testBit i = false ∧ met.testBit (opI i) = false ∧ cs.getD (tight cs met) 0 ∈ cs := by
  have hmem : cs.getD (tight cs met) 0 ∈ cs := by
    rw [List.getD_eq_getElem?_getD, List.getElem?_eq_getElem ht]
    exact List.getElem_mem ht
  have hlt := hcs _ hmem
  obtain ⟨i, h1, h2, h3⟩ := fstN_pow (adN_lt hlt) ho
  rw [adN_test, Bool.and_eq_true] at h3
  refine ⟨i, h1, h2, h3.1, ?_, ?_, hmem⟩
  · have hs := tight_one ht
    unfold skB at hs
    rw [Bool.or_eq_false_iff, decide_eq_false_iff_not] at hs
    have hz : cs.getD (tight cs met) 0 &&& met = 0 := Classical.byContradiction hs.1
    exact (and_zero_iff _ _).1 hz i h3.1
  · have h4 : (oppN met).testBit i = false := by simpa using h3.2
    rw [oppN_test hm] at h4
    have : decide (i < 52) = true := by simpa using h1
    rw [this, Bool.true_and] at h4
    exact h4
theorem cons_add {s i : Nat} (hi : i < 52) (h : Cons s) (h2 : s.testBit (opI i) = false) : Cons (s ||| 2 ^ i) := by
  intro j hj hb
  rw [or_pow_test] at hb
  rw [Nat.testBit_or, Nat.testBit_two_pow]
  have hne : decide (i = opI j) = false ∨ j = opI i := by
    by_cases e : i = opI j
    · right; rw [e, opI_op hj]
    · left; simpa using e
  rcases hb with hb | rfl
  · rw [h j hj hb]
    rcases hne with e | e
    · rw [e]; rfl
    · rw [e, h2] at hb; cases hb
  · rw [h2]
    have : decide (j = opI j) = false := by simpa using (opI_ne j).symm
    rw [this]; rfl

/-- What the search finds. -/
structure Found (cs : List Nat) (met : Nat) (r : Bool × Nat) : Prop where
  lt : r.2 < 2 ^ 52
  yes : r.1 = true → (∀ i, met.testBit i = true → r.2.testBit i = true) ∧ Cons r.2 ∧
    (∀ c ∈ cs, (∃ i, c.testBit i = true ∧ r.2.testBit i = true) ∨ ∃ i, i < 52 ∧ c.testBit i = true ∧ c.testBit (opI i) = true) ∧
    ∀ i, r.2.testBit i = true → met.testBit i = true ∨ ∃ c ∈ cs, c.testBit i = true ∨ c.testBit (opI i) = true
  no : r.1 = false → (∀ i, r.2.testBit i = true → met.testBit i = true) ∧ ∀ f, (∀ c ∈ cs, MetC f c) → ¬ MetL f r.2

theorem found_more {cs : List Nat} {met i : Nat} {r : Bool × Nat} (hc : ∃ c ∈ cs, c.testBit i = true ∨ c.testBit (opI i) = true) (h : Found cs (met ||| 2 ^ i) r) (ha : r.1 = true ∨ r.2 &&& 2 ^ i = 0) : Found cs met r := by
  refine ⟨h.lt, fun hy => ?_, fun hn => ?_⟩
  · obtain ⟨h1, h2, h3, h4⟩ := h.yes hy
    refine ⟨fun j hj => h1 j ((or_pow_test _ _ _).2 (Or.inl hj)), h2, h3, fun j hj => ?_⟩
    rcases h4 j hj with h | h
    · rcases (or_pow_test _ _ _).1 h with h | rfl
      · exact Or.inl h
      · exact Or.inr hc
    · exact Or.inr h
  · obtain ⟨h1, h2⟩ := h.no hn
    refine ⟨fun j hj => ?_, h2⟩
    rcases (or_pow_test _ _ _).1 (h1 j hj) with h | rfl
    · exact h
    · rcases ha with ha | ha
      · rw [hn] at ha; cases ha
      · have := (and_pow_ne r.2 j).2 hj
        exact absurd ha this

theorem srch_ok (cs : List Nat) (hcs : ∀ c ∈ cs, c < 2 ^ 52) : ∀ (k met : Nat), met < 2 ^ 52 → 2 ^ 52 ≤ met + k → Cons met → Found cs met (srch k cs met)
  | 0, met, hm, hk, _ => by omega
  | k + 1, met, hm, hk, hcn => by
    rw [srch]
    by_cases ht : cs.length ≤ tight cs met
    · rw [if_pos ht]
      refine ⟨hm, fun _ => ⟨fun i h => h, hcn, fun c hc => ?_, fun i h => Or.inl h⟩, fun e => by cases e⟩
      have hs := tight_all ht c hc
      unfold skB at hs
      rw [Bool.or_eq_true, decide_eq_true_eq, decide_eq_true_eq] at hs
      rcases hs with hs | hs
      · exact Or.inl ((and_ne_iff _ _).1 hs)
      · obtain ⟨i, h1, h2⟩ := (and_ne_iff _ _).1 hs
        rw [oppN_bit (hcs c hc)] at h2
        exact Or.inr ⟨i, h2.1, h1, h2.2⟩
    · rw [if_neg ht]
      have ht' : tight cs met < cs.length := Nat.not_le.1 ht
      by_cases ho : adN (cs.getD (tight cs met) 0) (oppN met) = 0
      · rw [if_pos ho]
        have hmem : cs.getD (tight cs met) 0 ∈ cs := by
          rw [List.getD_eq_getElem?_getD, List.getElem?_eq_getElem ht']
          exact List.getElem_mem ht'
        generalize hc : cs.getD (tight cs met) 0 = c at ho hmem
        have hlt := hcs c hmem
        refine ⟨oppN_lt hlt, fun e => (by cases e), fun _ => ⟨fun i hi => ?_, fun f hf hl => ?_⟩⟩
        · rw [oppN_bit hlt] at hi
          have : (adN c (oppN met)).testBit (opI i) = false := by rw [ho, Nat.zero_testBit]
          rw [adN_test, hi.2, oppN_op hm hi.1] at this
          simpa using this
        · obtain ⟨i, h1, h2⟩ := hf c hmem
          have hi := bit_lt hlt h1
          have := hl (opI i) (by rw [oppN_op hlt hi]; exact h1)
          rw [trI_op hi, h2] at this
          cases this
      · rw [if_neg ho]
        obtain ⟨i, hi, ea, hb, hm1, hm2, hmem⟩ := step_lit hcs hm ht' ho
        have hoi := opI_lt hi
        rw [ea, oppN_pow hi]
        have hw : Found cs (met ||| 2 ^ i) (srch k cs (met ||| 2 ^ i)) := srch_ok cs hcs k _ (or_lt hm (Nat.pow_lt_pow_right (by omega) hi)) (by have := or_grow hm1; omega) (cons_add hi hcn hm2)
        have hg : Found cs (met ||| 2 ^ opI i) (srch k cs (met ||| 2 ^ opI i)) := srch_ok cs hcs k _ (or_lt hm (Nat.pow_lt_pow_right (by omega) hoi)) (by have := or_grow hm2; omega) (cons_add hoi hcn (by rw [opI_op hi]; exact hm1))
        generalize srch k cs (met ||| 2 ^ i) = W at hw
        generalize srch k cs (met ||| 2 ^ opI i) = G at hg
        by_cases h1 : W.1 = true ∨ W.2 &&& 2 ^ i = 0
        · rw [if_pos h1]
          exact found_more ⟨_, hmem, Or.inl hb⟩ hw h1
        · rw [if_neg h1]
          by_cases h2 : G.1 = true ∨ G.2 &&& 2 ^ opI i = 0
          · rw [if_pos h2]
            exact found_more ⟨_, hmem, Or.inr (by rw [opI_op hi]; exact hb)⟩ hg h2
          · rw [if_neg h2]
            have w1 : W.1 = false := by cases e : W.1 with
              | false => rfl
              | true => exact absurd (Or.inl e) h1
            have g1 : G.1 = false := by cases e : G.1 with
              | false => rfl
              | true => exact absurd (Or.inl e) h2
            obtain ⟨wa, wb⟩ := hw.no w1
            obtain ⟨ga, gb⟩ := hg.no g1
            have key : ∀ j, (adN (W.2 ||| G.2) (2 ^ i ||| 2 ^ opI i)).testBit j = true ↔ (W.2.testBit j = true ∨ G.2.testBit j = true) ∧ j ≠ i ∧ j ≠ opI i := by
              intro j
              rw [adN_test, Bool.and_eq_true, Nat.testBit_or, Bool.or_eq_true, Nat.testBit_or, Nat.testBit_two_pow, Nat.testBit_two_pow]
              refine and_congr Iff.rfl ?_
              simp only [Bool.not_eq_true', Bool.or_eq_false_iff, decide_eq_false_iff_not, ne_eq]
              exact and_congr (not_congr eq_comm) (not_congr eq_comm)
            refine ⟨adN_lt (or_lt hw.lt hg.lt), fun e => (by cases e), fun _ => ⟨fun j hj => ?_, fun f hf hl => ?_⟩⟩
            · obtain ⟨h, n1, n2⟩ := (key j).1 hj
              rcases h with h | h
              · rcases (or_pow_test _ _ _).1 (wa j h) with h | h
                · exact h
                · exact absurd h n1
              · rcases (or_pow_test _ _ _).1 (ga j h) with h | h
                · exact h
                · exact absurd h n2
            · cases hv : trI f i with
              | true =>
                refine wb f hf fun j hj => ?_
                by_cases n1 : j = i
                · rw [n1]; exact hv
                · have n2 : j ≠ opI i := by
                    intro e
                    rcases (or_pow_test _ _ _).1 (wa j hj) with h | h
                    · rw [e, hm2] at h; cases h
                    · exact n1 h
                  exact hl j ((key j).2 ⟨Or.inl hj, n1, n2⟩)
              | false =>
                refine gb f hf fun j hj => ?_
                by_cases n2 : j = opI i
                · rw [n2, trI_op hi, hv]; rfl
                · have n1 : j ≠ i := by
                    intro e
                    rcases (or_pow_test _ _ _).1 (ga j hj) with h | h
                    · rw [e, hm1] at h; cases h
                    · exact n2 h
                  exact hl j ((key j).2 ⟨Or.inr hj, n1, n2⟩)

end Go.Proofs.YtenbnmbbfeekpabDoor

/-
  Reading clauses and literals into sets, the decision, its texts: what P7 asks. Plain mathematics, nothing of the dump.
-/
namespace Go.Proofs.YtenbnmbbfeekpabDoor
open Go.RowKit

/-- Clauses read: the set behind the last ';'. -/
def clR : Nat → List UInt8 → List Nat
  | _, [] => []
  | a, x :: r => if x.toNat = 59 then a :: clR 0 r else clR (a ||| litN x.toNat) r
def ltR : Nat → List UInt8 → Nat
  | a, [] => a
  | a, x :: r => ltR (a ||| litN x.toNat) r
def orL : Nat → List Nat → Nat
  | a, [] => a
  | a, c :: r => orL (a ||| c) r
def unsd (lits said : Nat) : Nat := adN ((lits ||| oppN lits) &&& 67108863) (said ||| oppN said)
/-- The decision. -/
def dcdN (cs : List Nat) (a : Nat) : Bool × Nat :=
  if a &&& oppN a ≠ 0 then (false, a &&& oppN a)
  else ((srch (2 ^ 52) cs a).1, if (srch (2 ^ 52) cs a).1 then (srch (2 ^ 52) cs a).2 ||| unsd (orL a cs) (srch (2 ^ 52) cs a).2 else (srch (2 ^ 52) cs a).2)
/-- The literals by the variables. -/
def bvT (S : Nat) : Nat → Nat → List UInt8
  | 0, _ => []
  | k + 1, v => (if S &&& litN (65 + v) ≠ 0 then [b8 (65 + v)] else []) ++ ((if S &&& litN (97 + v) ≠ 0 then [b8 (97 + v)] else []) ++ bvT S k (v + 1))
/-- By the bytes. -/
def bbT (S : Nat) : Nat → Nat → List UInt8
  | 0, _ => []
  | k + 1, c => (if S &&& litN c ≠ 0 then [b8 c] else []) ++ bbT S k (c + 1)
def slvB (C A : List UInt8) : Bool := if rfE C A = 0 then (dcdN (clR 0 C) (ltR 0 A)).1 else false
def slvT (C A : List UInt8) : List UInt8 :=
  if rfE C A = 0 then (if (dcdN (clR 0 C) (ltR 0 A)).1 then bvT (dcdN (clR 0 C) (ltR 0 A)).2 26 0 else bbT (dcdN (clR 0 C) (ltR 0 A)).2 58 65) else []

theorem clR_lt : ∀ (C : List UInt8) (a : Nat), a < 2 ^ 52 → ∀ c ∈ clR a C, c < 2 ^ 52
  | [], _, _, c, hc => by simp [clR] at hc
  | x :: r, a, ha, c, hc => by
    rw [clR] at hc
    split at hc
    · rcases List.mem_cons.1 hc with rfl | hc
      · exact ha
      · exact clR_lt r 0 (by decide) c hc
    · exact clR_lt r _ (or_lt ha (litN_lt _)) c hc
theorem ltR_lt : ∀ (A : List UInt8) (a : Nat), a < 2 ^ 52 → ltR a A < 2 ^ 52
  | [], _, h => h
  | x :: r, a, h => by rw [ltR]; exact ltR_lt r _ (or_lt h (litN_lt _))
theorem orL_lt : ∀ (cs : List Nat) (a : Nat), a < 2 ^ 52 → (∀ c ∈ cs, c < 2 ^ 52) → orL a cs < 2 ^ 52
  | [], _, h, _ => h
  | c :: r, a, h, hc => by rw [orL]; exact orL_lt r _ (or_lt h (hc c (by simp))) (fun x hx => hc x (by simp [hx]))
theorem ltR_test : ∀ (A : List UInt8) (a i : Nat), (∀ x ∈ A, litB x.toNat = true) → ((ltR a A).testBit i = true ↔ a.testBit i = true ∨ ∃ x ∈ A, litI x.toNat = i)
  | [], a, i, _ => by simp [ltR]
  | x :: r, a, i, h => by
    rw [ltR, ltR_test r _ i (fun y hy => h y (by simp [hy])), Nat.testBit_or, Bool.or_eq_true, litN_test i (h x (by simp))]
    constructor
    · rintro ((h1 | h1) | ⟨y, h1, h2⟩)
      · exact Or.inl h1
      · exact Or.inr ⟨x, by simp, h1.symm⟩
      · exact Or.inr ⟨y, by simp [h1], h2⟩
    · rintro (h1 | ⟨y, h1, h2⟩)
      · exact Or.inl (Or.inl h1)
      · rcases List.mem_cons.1 h1 with rfl | h1
        · exact Or.inl (Or.inr h2.symm)
        · exact Or.inr ⟨y, h1, h2⟩
theorem orL_test : ∀ (cs : List Nat) (a i : Nat), (orL a cs).testBit i = true ↔ a.testBit i = true ∨ ∃ c ∈ cs, c.testBit i = true
  | [], a, i => by simp [orL]
  | c :: r, a, i => by
    rw [orL, orL_test r, Nat.testBit_or, Bool.or_eq_true]
    constructor
    · rintro ((h1 | h1) | ⟨y, h1, h2⟩)
      · exact Or.inl h1
      · exact Or.inr ⟨c, by simp, h1⟩
      · exact Or.inr ⟨y, by simp [h1], h2⟩
    · rintro (h1 | ⟨y, h1, h2⟩)
      · exact Or.inl (Or.inl h1)
      · rcases List.mem_cons.1 h1 with rfl | h1
        · exact Or.inl (Or.inr h2)
        · exact Or.inr ⟨y, h1, h2⟩
theorem cl_lit {x : UInt8} (h : clB x.toNat = true) (hn : x.toNat ≠ 59) : litB x.toNat = true := by
  unfold clB at h
  simpa [hn] using h
theorem clR_test : ∀ (C : List UInt8) (a i : Nat), (∀ x ∈ C, clB x.toNat = true) → lastB C = true → (C = [] → a = 0) →
    ((∃ c ∈ clR a C, c.testBit i = true) ↔ a.testBit i = true ∨ ∃ x ∈ C, x.toNat ≠ 59 ∧ litI x.toNat = i)
  | [], a, i, _, _, h0 => by rw [h0 rfl]; simp [clR]
  | x :: r, a, i, h, hl, _ => by
    obtain ⟨l1, l2⟩ := last_cons hl
    have hr : ∀ y ∈ r, clB y.toNat = true := fun y hy => h y (by simp [hy])
    rw [clR]
    by_cases h59 : x.toNat = 59
    · rw [if_pos h59]
      have ih := clR_test r 0 i hr l2 (fun _ => rfl)
      rw [Nat.zero_testBit] at ih
      constructor
      · rintro ⟨c, hc, hb⟩
        rcases List.mem_cons.1 hc with rfl | hc
        · exact Or.inl hb
        · rcases ih.1 ⟨c, hc, hb⟩ with e | ⟨y, h1, h2⟩
          · cases e
          · exact Or.inr ⟨y, by simp [h1], h2⟩
      · rintro (h1 | ⟨y, h1, h2, h3⟩)
        · exact ⟨a, by simp, h1⟩
        · rcases List.mem_cons.1 h1 with rfl | h1
          · exact absurd h59 h2
          · obtain ⟨c, hc, hb⟩ := ih.2 (Or.inr ⟨y, h1, h2, h3⟩)
            exact ⟨c, by simp [hc], hb⟩
    · rw [if_neg h59, clR_test r _ i hr l2 (fun e => absurd (l1 e) h59), Nat.testBit_or, Bool.or_eq_true, litN_test i (cl_lit (h x (by simp)) h59)]
      constructor
      · rintro ((h1 | h1) | ⟨y, h1, h2⟩)
        · exact Or.inl h1
        · exact Or.inr ⟨x, by simp, h59, h1.symm⟩
        · exact Or.inr ⟨y, by simp [h1], h2⟩
      · rintro (h1 | ⟨y, h1, h2, h3⟩)
        · exact Or.inl (Or.inl h1)
        · rcases List.mem_cons.1 h1 with rfl | h1
          · exact Or.inl (Or.inr h3.symm)
          · exact Or.inr ⟨y, h1, h2, h3⟩
theorem met_zero (f : Nat → Bool) : (false = true ↔ MetC f 0) := ⟨fun e => (by cases e), fun ⟨i, hi, _⟩ => by rw [Nat.zero_testBit] at hi; cases hi⟩
/-- Clauses met, by the sets. -/
theorem clR_met (f : Nat → Bool) : ∀ (C : List UInt8) (a : Nat) (s : Bool), (∀ x ∈ C, clB x.toNat = true) → (s = true ↔ MetC f a) → (mtC f s C = true ↔ ∀ c ∈ clR a C, MetC f c)
  | [], a, s, _, _ => by simp [mtC, clR]
  | x :: r, a, s, h, hs => by
    have hr : ∀ y ∈ r, clB y.toNat = true := fun y hy => h y (by simp [hy])
    rw [mtC, clR]
    by_cases h59 : x.toNat = 59
    · rw [if_pos h59, if_pos h59, Bool.and_eq_true, hs, clR_met f r 0 false hr (met_zero f)]
      simp
    · rw [if_neg h59, if_neg h59]
      refine clR_met f r _ _ hr ?_
      have hx := cl_lit (h x (by simp)) h59
      rw [Bool.or_eq_true, hs]
      constructor
      · rintro (⟨i, h1, h2⟩ | h1)
        · exact ⟨i, by rw [Nat.testBit_or, h1]; rfl, h2⟩
        · exact ⟨litI x.toNat, by rw [Nat.testBit_or, (litN_test _ hx).2 rfl]; simp, by rw [trI_lit hx]; exact h1⟩
      · rintro ⟨i, h1, h2⟩
        rw [Nat.testBit_or, Bool.or_eq_true, litN_test i hx] at h1
        rcases h1 with h1 | rfl
        · exact Or.inl ⟨i, h1, h2⟩
        · rw [trI_lit hx] at h2; exact Or.inr h2
/-- Literals met, by the set. -/
theorem all_met {f : Nat → Bool} {A : List UInt8} (h : ∀ x ∈ A, litB x.toNat = true) {S : Nat} (hS : ∀ x ∈ A, S.testBit (litI x.toNat) = true) (hm : MetL f S) : (A.all fun x => trB f x.toNat) = true := by
  rw [List.all_eq_true]
  intro x hx
  have := hm _ (hS x hx)
  rw [trI_lit (h x hx)] at this
  exact this

/-- The literals by the bytes: which they are, and in order. -/
theorem bb_mem (S : Nat) : ∀ (k c : Nat), c + k ≤ 256 → ∀ x, x ∈ bbT S k c ↔ (c ≤ x.toNat ∧ x.toNat < c + k) ∧ S &&& litN x.toNat ≠ 0
  | 0, c, _, x => by simp [bbT]; omega
  | k + 1, c, hc, x => by
    rw [bbT, List.mem_append, bb_mem S k (c + 1) (by omega)]
    have hb : (b8 c).toNat = c := b8_val (by omega)
    have hx : x = b8 c ↔ x.toNat = c := ⟨fun e => by rw [e, hb], fun e => UInt8.toNat_inj.1 (by rw [hb, e])⟩
    by_cases h : S &&& litN c ≠ 0
    · rw [if_pos h, List.mem_singleton, hx]
      constructor
      · rintro (e | ⟨h1, h2⟩)
        · exact ⟨by omega, by rw [e]; exact h⟩
        · exact ⟨by omega, h2⟩
      · rintro ⟨h1, h2⟩
        by_cases e : x.toNat = c
        · exact Or.inl e
        · exact Or.inr ⟨by omega, h2⟩
    · rw [if_neg h]
      constructor
      · rintro (e | ⟨h1, h2⟩)
        · simp at e
        · exact ⟨by omega, h2⟩
      · rintro ⟨h1, h2⟩
        refine Or.inr ⟨?_, h2⟩
        have : x.toNat ≠ c := fun e => h (by rw [← e]; exact h2)
        omega
theorem bb_sm (A : List UInt8) (S : Nat) : ∀ (k c p : Nat), c + k ≤ 256 → p < c → (∀ x ∈ bbT S k c, hasB A x.toNat = true) → smF A p (bbT S k c) = true
  | 0, c, p, _, _, _ => rfl
  | k + 1, c, p, hc, hp, h => by
    rw [bbT] at h ⊢
    have hb : (b8 c).toNat = c := b8_val (by omega)
    by_cases g : S &&& litN c ≠ 0
    · rw [if_pos g] at h ⊢
      rw [List.singleton_append, smF, h (b8 c) (by simp), hb, bb_sm A S k (c + 1) c (by omega) (by omega) (fun x hx => h x (by simp [hx]))]
      simp [hp]
    · rw [if_neg g] at h ⊢
      rw [List.nil_append] at h ⊢
      exact bb_sm A S k (c + 1) p (by omega) (by omega) h
theorem sm_of_smF {A S : List UInt8} {p : Nat} (h : smF A p S = true) : smB A S = true := by
  cases S with
  | nil => rfl
  | cons x r =>
    rw [smF, Bool.and_eq_true, Bool.and_eq_true] at h
    rw [smB, h.1.1, h.2]; rfl

/-- The literals by the variables: those of an assignment. -/
theorem bv_md (C A : List UInt8) (S : Nat) (h1 : ∀ v, v < 26 → (occB C A v = true ↔ (S.testBit v = true ∨ S.testBit (26 + v) = true))) (h2 : ∀ v, v < 26 → S.testBit (26 + v) = true → S.testBit v = false) :
    ∀ (k v : Nat), v + k = 26 → bvT S k v = mdT C A (fun u => S.testBit (26 + u)) k v
  | 0, v, _ => rfl
  | k + 1, v, hk => by
    rw [bvT, mdT, bv_md C A S h1 h2 k (v + 1) (by omega)]
    have l1 : litB (65 + v) = true := by unfold litB; simp; omega
    have l2 : litB (97 + v) = true := by unfold litB; simp; omega
    have i1 : litI (65 + v) = v := by unfold litI; rw [if_neg (by omega)]; omega
    have i2 : litI (97 + v) = 26 + v := by unfold litI; rw [if_pos (by omega)]; omega
    have e1 := and_lit (s := S) l1
    have e2 := and_lit (s := S) l2
    rw [i1] at e1
    rw [i2] at e2
    have ho := h1 v (by omega)
    have hn := h2 v (by omega)
    cases ha : S.testBit (26 + v) with
    | true =>
      have hb := hn ha
      rw [if_neg (fun g => by have := e1.1 g; rw [hb] at this; cases this), if_pos (e2.2 ha), if_pos (ho.2 (Or.inr ha))]
      show _ = b8 (if S.testBit (26 + v) = true then 97 + v else 65 + v) :: _
      rw [ha]
      rfl
    | false =>
      rw [if_neg (c := S &&& litN (97 + v) ≠ 0) (fun g => by have := e2.1 g; rw [ha] at this; cases this)]
      cases hb : S.testBit v with
      | true =>
        rw [if_pos (e1.2 hb), if_pos (ho.2 (Or.inl hb))]
        show _ = b8 (if S.testBit (26 + v) = true then 97 + v else 65 + v) :: _
        rw [ha]
        rfl
      | false =>
        rw [if_neg (fun g => by have := e1.1 g; rw [hb] at this; cases this), if_neg (fun g => by rcases ho.1 g with h | h <;> simp_all)]
        rfl

/-- A variable occurs: by the set of all literals. -/
theorem occ_set {C A : List UInt8} (h : rfE C A = 0) {v : Nat} (hv : v < 26) : occB C A v = true ↔ (orL (ltR 0 A) (clR 0 C)).testBit v = true ∨ (orL (ltR 0 A) (clR 0 C)).testBit (26 + v) = true := by
  obtain ⟨_, _, h3, h4, h5⟩ := rf_ok h
  have i1 : litI (65 + v) = v := by unfold litI; rw [if_neg (by omega)]; omega
  have i2 : litI (97 + v) = 26 + v := by unfold litI; rw [if_pos (by omega)]; omega
  have hinj : ∀ x : UInt8, litB x.toNat = true → (litI x.toNat = v ↔ x.toNat = 65 + v) ∧ (litI x.toNat = 26 + v ↔ x.toNat = 97 + v) := by
    intro x hx
    unfold litB at hx; unfold litI; simp at hx
    by_cases g : 97 ≤ x.toNat
    · rw [if_pos g]; omega
    · rw [if_neg g]; omega
  have key : ∀ i c, (∀ x : UInt8, litB x.toNat = true → (litI x.toNat = i ↔ x.toNat = c)) → c ≠ 59 → ((orL (ltR 0 A) (clR 0 C)).testBit i = true ↔ hasB A c = true ∨ hasB C c = true) := by
    intro i c hic hc
    rw [orL_test, ltR_test A 0 i h5, clR_test C 0 i h3 h4 (fun _ => rfl), Nat.zero_testBit, has_iff, has_iff]
    constructor
    · rintro ((e | ⟨x, h1, h2⟩) | (e | ⟨x, h1, h2, h3'⟩))
      · cases e
      · exact Or.inl ⟨x, h1, (hic x (h5 x h1)).1 h2⟩
      · cases e
      · exact Or.inr ⟨x, h1, (hic x (cl_lit (h3 x h1) h2)).1 h3'⟩
    · rintro (⟨x, h1, h2⟩ | ⟨x, h1, h2⟩)
      · exact Or.inl (Or.inr ⟨x, h1, (hic x (h5 x h1)).2 h2⟩)
      · have hn : x.toNat ≠ 59 := by rw [h2]; exact hc
        exact Or.inr (Or.inr ⟨x, h1, hn, (hic x (cl_lit (h3 x h1) hn)).2 h2⟩)
  rw [key v (65 + v) (fun x hx => (hinj x hx).1) (by omega), key (26 + v) (97 + v) (fun x hx => (hinj x hx).2) (by omega)]
  unfold occB
  rw [Bool.or_eq_true, Bool.or_eq_true, Bool.or_eq_true]
  constructor
  · rintro (((h | h) | h) | h)
    · exact Or.inr (Or.inr h)
    · exact Or.inl (Or.inr h)
    · exact Or.inr (Or.inl h)
    · exact Or.inl (Or.inl h)
  · rintro ((h | h) | (h | h))
    · exact Or.inr h
    · exact Or.inl (Or.inl (Or.inr h))
    · exact Or.inl (Or.inr h)
    · exact Or.inl (Or.inl (Or.inl h))

theorem unsd_test {lits said : Nat} (hl : lits < 2 ^ 52) (hs : said < 2 ^ 52) (i : Nat) : (unsd lits said).testBit i = true ↔ i < 26 ∧ (lits.testBit i = true ∨ lits.testBit (26 + i) = true) ∧ said.testBit i = false ∧ said.testBit (26 + i) = false := by
  unfold unsd
  rw [show (67108863 : Nat) = 2 ^ 26 - 1 from rfl, adN_test, Nat.testBit_and, Nat.testBit_two_pow_sub_one, Nat.testBit_or, Nat.testBit_or, oppN_test hl, oppN_test hs]
  by_cases h : i < 26
  · have e1 : decide (i < 26) = true := by simpa using h
    have e2 : decide (i < 52) = true := by simp; omega
    have e3 : opI i = 26 + i := by unfold opI; rw [if_pos h]; omega
    rw [e1, e2, e3]
    cases lits.testBit i <;> cases lits.testBit (26 + i) <;> cases said.testBit i <;> cases said.testBit (26 + i) <;> simp [h]
  · have e1 : decide (i < 26) = false := by simpa using h
    rw [e1]
    simp [h]

theorem no_clash {a : Nat} (ha : a < 2 ^ 52) (h : ¬ (a &&& oppN a ≠ 0)) : Cons a := by
  have hz : a &&& oppN a = 0 := Classical.byContradiction h
  intro i hi hb
  have := (and_zero_iff _ _).1 hz i hb
  rw [oppN_test ha] at this
  have e : decide (i < 52) = true := by simpa using hi
  rw [e] at this
  simpa using this
theorem dcd_lt {cs : List Nat} {a : Nat} (ha : a < 2 ^ 52) (hcs : ∀ c ∈ cs, c < 2 ^ 52) : (dcdN cs a).2 < 2 ^ 52 := by
  unfold dcdN
  by_cases hz : a &&& oppN a ≠ 0
  · rw [if_pos hz]; exact and_lt ha
  · rw [if_neg hz]
    have hf := srch_ok cs hcs (2 ^ 52) a ha (by omega) (no_clash ha hz)
    generalize srch (2 ^ 52) cs a = R at hf
    show (if R.1 = true then _ else _) < _
    split
    · refine or_lt hf.lt ?_
      unfold unsd
      exact adN_lt (and_lt (or_lt (orL_lt cs a ha hcs) (oppN_lt (orL_lt cs a ha hcs))))
    · exact hf.lt

/-- What P7 asks. -/
theorem sv_P : SolveP slvT slvB := by
  refine ⟨fun C A h => ?_, fun C A h hb => ?_, fun C A h hb => ?_⟩
  · unfold slvT slvB
    rw [if_neg h, if_neg h]
    exact ⟨rfl, rfl⟩
  · obtain ⟨_, _, h3, h4, h5⟩ := rf_ok h
    have ha : ltR 0 A < 2 ^ 52 := ltR_lt A 0 (by decide)
    have hcs := clR_lt C 0 (by decide)
    unfold slvB at hb
    rw [if_pos h] at hb
    unfold slvT
    rw [if_pos h, if_pos hb]
    have hoc := fun v (hv : v < 26) => occ_set h hv
    have hA := fun x (hx : x ∈ A) => (ltR_test A 0 (litI x.toNat) h5).2 (Or.inr ⟨x, hx, rfl⟩)
    have hC := fun f => clR_met f C 0 false h3 (met_zero f)
    generalize ltR 0 A = a at ha hb hoc hA
    generalize clR 0 C = cs at hcs hb hoc hC
    unfold dcdN at hb ⊢
    by_cases hz : a &&& oppN a ≠ 0
    · rw [if_pos hz] at hb; cases hb
    · rw [if_neg hz] at hb ⊢
      have hf := srch_ok cs hcs (2 ^ 52) a ha (by omega) (no_clash ha hz)
      generalize srch (2 ^ 52) cs a = R at hf hb
      have hR : R.1 = true := hb
      obtain ⟨y1, y2, y3, y4⟩ := hf.yes hR
      have hl := orL_lt cs a ha hcs
      have hot := orL_test cs a
      generalize orL a cs = lits at hl hot hoc
      show ∃ f, mtB f C A = true ∧ bvT (if R.1 = true then R.2 ||| unsd lits R.2 else R.2) 26 0 = mdT C A f 26 0
      rw [if_pos hR]
      have ut := unsd_test hl hf.lt
      have hS : ∀ i, (R.2 ||| unsd lits R.2).testBit i = true ↔ R.2.testBit i = true ∨ (unsd lits R.2).testBit i = true := fun i => by rw [Nat.testBit_or, Bool.or_eq_true]
      generalize hSe : R.2 ||| unsd lits R.2 = S at hS
      -- what is said is of a variable that occurs
      have hin : ∀ v, v < 26 → R.2.testBit v = true ∨ R.2.testBit (26 + v) = true → lits.testBit v = true ∨ lits.testBit (26 + v) = true := by
        intro v hv g
        have hov : opI v = 26 + v := by unfold opI; rw [if_pos hv]; omega
        have hov' : opI (26 + v) = v := by unfold opI; rw [if_neg (by omega)]; omega
        rcases g with g | g
        · rcases y4 v g with g | ⟨c, hc, g | g⟩
          · exact Or.inl ((hot v).2 (Or.inl g))
          · exact Or.inl ((hot v).2 (Or.inr ⟨c, hc, g⟩))
          · rw [hov] at g; exact Or.inr ((hot _).2 (Or.inr ⟨c, hc, g⟩))
        · rcases y4 _ g with g | ⟨c, hc, g | g⟩
          · exact Or.inr ((hot _).2 (Or.inl g))
          · exact Or.inr ((hot _).2 (Or.inr ⟨c, hc, g⟩))
          · rw [hov'] at g; exact Or.inl ((hot _).2 (Or.inr ⟨c, hc, g⟩))
      have hhigh : ∀ v, v < 26 → (S.testBit (26 + v) = true ↔ R.2.testBit (26 + v) = true) := by
        intro v hv
        rw [hS, ut]
        constructor
        · rintro (g | ⟨g, _⟩)
          · exact g
          · omega
        · exact Or.inl
      have hcons : ∀ v, v < 26 → S.testBit (26 + v) = true → S.testBit v = false := by
        intro v hv g
        rw [hhigh v hv] at g
        cases e : S.testBit v with
        | false => rfl
        | true =>
          rcases (hS v).1 e with e | e
          · have := y2 v (by omega) e
            rw [show opI v = 26 + v by unfold opI; rw [if_pos hv]; omega, g] at this
            cases this
          · have := ((ut v).1 e).2.2.2
            rw [g] at this
            cases this
      refine ⟨fun u => S.testBit (26 + u), ?_, ?_⟩
      · have hml : MetL (fun u => S.testBit (26 + u)) R.2 := by
          intro i hi
          have hi52 := bit_lt hf.lt hi
          unfold trI
          by_cases g : i < 26
          · rw [if_pos g]
            show (!S.testBit (26 + i)) = true
            cases e : S.testBit (26 + i) with
            | false => rfl
            | true =>
              have := hcons i g e
              rw [(hS i).2 (Or.inl hi)] at this
              cases this
          · rw [if_neg g]
            exact (hS _).2 (Or.inl (by rw [show 26 + (i - 26) = i by omega]; exact hi))
        unfold mtB
        rw [Bool.and_eq_true]
        refine ⟨?_, all_met h5 hA fun i hi => hml i (y1 i hi)⟩
        rw [hC]
        intro c hc
        rcases y3 c hc with ⟨i, g1, g2⟩ | ⟨i, g1, g2, g3⟩
        · exact ⟨i, g1, hml i g2⟩
        · cases e : trI (fun u => S.testBit (26 + u)) i with
          | true => exact ⟨i, g2, e⟩
          | false => exact ⟨opI i, g3, by rw [trI_op g1, e]; rfl⟩
      · refine bv_md C A S (fun v hv => ?_) hcons 26 0 rfl
        rw [hoc v hv, hhigh v hv, hS v, ut v]
        constructor
        · intro g
          cases e1 : R.2.testBit v with
          | true => exact Or.inl (Or.inl rfl)
          | false =>
            cases e2 : R.2.testBit (26 + v) with
            | true => exact Or.inr rfl
            | false => exact Or.inl (Or.inr ⟨hv, g, rfl, rfl⟩)
        · rintro ((g | ⟨_, g, _⟩) | g)
          · exact hin v hv (Or.inl g)
          · exact g
          · exact hin v hv (Or.inr g)
  · obtain ⟨_, _, h3, h4, h5⟩ := rf_ok h
    have ha : ltR 0 A < 2 ^ 52 := ltR_lt A 0 (by decide)
    have hcs := clR_lt C 0 (by decide)
    unfold slvB at hb
    rw [if_pos h] at hb
    unfold slvT
    rw [if_pos h, if_neg (by rw [hb]; simp)]
    have hlt := dcd_lt ha hcs
    have hA := fun i => ltR_test A 0 i h5
    have hC := fun f => clR_met f C 0 false h3 (met_zero f)
    generalize ltR 0 A = a at ha hb hA hlt
    generalize clR 0 C = cs at hcs hb hC hlt
    have main : (∀ i, (dcdN cs a).2.testBit i = true → a.testBit i = true) ∧ ∀ f, (∀ c ∈ cs, MetC f c) → ¬ MetL f (dcdN cs a).2 := by
      unfold dcdN at hb ⊢
      by_cases hz : a &&& oppN a ≠ 0
      · rw [if_pos hz]
        refine ⟨fun i hi => ?_, fun f _ hm => ?_⟩
        · rw [Nat.testBit_and, Bool.and_eq_true] at hi; exact hi.1
        · obtain ⟨i, g1, g2⟩ := (and_ne_iff _ _).1 hz
          have g3 := (oppN_bit ha).1 g2
          have m1 := hm i (by rw [Nat.testBit_and, g1, g2]; rfl)
          have m2 := hm (opI i) (by rw [Nat.testBit_and, g3.2, oppN_op ha g3.1, g1]; rfl)
          rw [trI_op g3.1, m1] at m2
          cases m2
      · rw [if_neg hz] at hb ⊢
        have hf := srch_ok cs hcs (2 ^ 52) a ha (by omega) (no_clash ha hz)
        generalize srch (2 ^ 52) cs a = R at hf hb
        have hR : R.1 = false := hb
        show (∀ i, (if R.1 = true then R.2 ||| unsd (orL a cs) R.2 else R.2).testBit i = true → _) ∧ ∀ f, _ → ¬ MetL f (if R.1 = true then R.2 ||| unsd (orL a cs) R.2 else R.2)
        rw [if_neg (by rw [hR]; simp)]
        exact hf.no hR
    generalize (dcdN cs a).2 = S at main hlt
    have mem : ∀ x, x ∈ bbT S 58 65 ↔ litB x.toNat = true ∧ S.testBit (litI x.toNat) = true := by
      intro x
      rw [bb_mem S 58 65 (by omega)]
      cases hx : litB x.toNat with
      | true =>
        rw [and_lit hx]
        have := lit_rng hx
        constructor
        · exact fun g => ⟨rfl, g.2⟩
        · exact fun g => ⟨by omega, g.2⟩
      | false =>
        rw [litN_zero.2 hx]
        simp
    constructor
    · refine sm_of_smF (p := 0) (bb_sm A S 58 65 0 (by omega) (by omega) fun x hx => ?_)
      obtain ⟨g1, g2⟩ := (mem x).1 hx
      rcases (hA _).1 (main.1 _ g2) with e | ⟨y, hy, e⟩
      · rw [Nat.zero_testBit] at e; cases e
      · rw [has_iff]
        refine ⟨y, hy, ?_⟩
        have l := h5 y hy
        unfold litB at l g1
        unfold litI at e
        simp at l g1
        split at e <;> split at e <;> omega
    · intro f
      cases e : mtB f C (bbT S 58 65) with
      | false => rfl
      | true =>
        exfalso
        unfold mtB at e
        rw [Bool.and_eq_true, List.all_eq_true] at e
        refine main.2 f ((hC f).1 e.1) fun i hi => ?_
        have hi52 := bit_lt hlt hi
        -- the letter of this number
        have hc : ∃ x : UInt8, litB x.toNat = true ∧ litI x.toNat = i := by
          by_cases g : i < 26
          · refine ⟨b8 (65 + i), ?_⟩
            rw [b8_val (by omega)]
            unfold litB litI
            rw [if_neg (by omega)]
            simp; omega
          · refine ⟨b8 (71 + i), ?_⟩
            rw [b8_val (by omega)]
            unfold litB litI
            rw [if_pos (by omega)]
            simp; omega
        obtain ⟨x, hx1, hx2⟩ := hc
        have := e.2 x ((mem x).2 ⟨hx1, by rw [hx2]; exact hi⟩)
        rw [← hx2, trI_lit hx1]
        exact this

end Go.Proofs.YtenbnmbbfeekpabDoor
