/-
  The reader against the table, on: lists, needs, names, packages, documents. Plain mathematics.
-/
import Derived.Test.YtdfnnpakdbhhpaaGreatDoorPlM
namespace Go.Proofs.YtdfnnpakdbhhpaaGreatDoor

def joinT (x : UInt8) : List (List UInt8) → List UInt8
  | [] => []
  | [a] => a
  | a :: b :: l => a ++ x :: joinT x (b :: l)
theorem joinT_cons {x : UInt8} {a : List UInt8} {l : List (List UInt8)} (h : l ≠ []) : joinT x (a :: l) = a ++ x :: joinT x l := by
  cases l with
  | nil => exact absurd rfl h
  | cons b l => rfl

theorem PL_halt {t : List UInt8} {q : Int} {i : Nat} {c : UInt8} (h : t[i]? = some c) (hs : stepF q c.toNat = -1) : PL t q i = i := by
  unfold PL; rw [drop_at h, plF, hs]; simp

/-- The list is at its end, and only y may come, which leads to n. -/
structure Cl (t : List UInt8) (q : Int) (j y : Nat) (n : Int) (f : Bool) : Prop where
  f : fin q = f
  s : ∀ c, t[j]? = some c → stepF q c.toNat = if c.toNat = y then n else -1

theorem ex_run {t : List UInt8} {q n : Int} {j y : Nat} (hc : Cl t q j y n false) (hy : y ≠ 0) (hn : n ≠ -1) :
    ((exS t y (j, false)).2 = false → PL t q j = PL t n (exS t y (j, false)).1 ∧ t.drop j = b8 y :: t.drop (exS t y (j, false)).1) ∧
    ((exS t y (j, false)).2 = true → PL t q j = (exS t y (j, false)).1) := by
  unfold exS
  cases h : acB t y j false with
  | false =>
    obtain ⟨h1, h2⟩ := ac_no hy h
    simp only [exBad, h, h2]
    refine ⟨fun h => by simp at h, fun _ => PL_stop hc.f fun c hcc => ?_⟩
    rw [hc.s c hcc, if_neg (h1 c hcc)]
  | true =>
    obtain ⟨c, h1, h2, h3⟩ := ac_yes h
    simp only [exBad, h, h3]
    refine ⟨fun _ => ⟨PL_go h1 (by rw [hc.s c h1, if_pos h2]) hn, ?_⟩, fun h => by simp at h⟩
    rw [drop_at h1, ← h2, b8_toNat]

theorem ap_run {t : List UInt8} {qp qs qv qe : Int} (F : Four qp qs qv qe) (x : Nat) (hx : x ≠ 0) (hq : stepF qe x = qp) : ∀ (f i : Nat), t.length - i < f →
    ((apF t x f (i, false)).2.2 = false → PL t qp i = PL t qe (apF t x f (i, false)).2.1 ∧ (∀ c, t[(apF t x f (i, false)).2.1]? = some c → c.toNat ≠ x) ∧
      t.drop i = joinT (b8 x) ((apF t x f (i, false)).1.map cnT) ++ t.drop (apF t x f (i, false)).2.1 ∧ (apF t x f (i, false)).1 ≠ [] ∧ ∀ c ∈ (apF t x f (i, false)).1, CnOk c) ∧
    ((apF t x f (i, false)).2.2 = true → PL t qp i = (apF t x f (i, false)).2.1)
  | 0, i, hf => by omega
  | f + 1, i, hf => by
    obtain ⟨c1, c2⟩ := cn_run (t := t) F i
    have hge := cnS_ge t (i, false)
    rcases hj : cnS t (i, false) with ⟨j, bad⟩
    rw [hj] at c1 c2 hge
    cases bad with
    | true =>
      rw [apF_no (by rw [hj]; exact (ac_bad t x j).1), hj, acS_bad]
      exact ⟨fun h => (by cases h), fun _ => c2 rfl⟩
    | false =>
      obtain ⟨k1, k2, k3⟩ := c1 rfl
      cases ha : acB t x j false with
      | false =>
        obtain ⟨a1, a2⟩ := ac_no hx ha
        rw [apF_no (by rw [hj]; exact ha), hj]
        have : acS t x (j, false) = (j, false) := by unfold acS; simp [a2]
        rw [this]
        refine ⟨fun _ => ⟨k1, a1, by simpa [joinT] using k2, by simp, fun c hc => ?_⟩, fun h => (by cases h)⟩
        simp at hc; subst hc; exact k3
      | true =>
        obtain ⟨c, a1, a2, a3⟩ := ac_yes ha
        have hlt : j < t.length := (List.getElem?_eq_some_iff.1 a1).1
        have : acS t x (j, false) = (j + 1, false) := by unfold acS; simp [a3]
        rw [apF_yes (by rw [hj]; exact ha), hj, this]
        obtain ⟨r1, r2⟩ := ap_run (t := t) F x hx hq f (j + 1) (by have h9 : i ≤ j := hge; omega)
        have hgo : PL t qp i = PL t qp (j + 1) := k1.trans (PL_go a1 (by rw [a2]; exact hq) F.np)
        refine ⟨fun h => ?_, fun h => hgo.trans (r2 h)⟩
        obtain ⟨e1, e2, e3, e4, e5⟩ := r1 h
        refine ⟨hgo.trans e1, e2, ?_, by simp, fun d hd => ?_⟩
        · simp only [List.map_cons]
          rw [joinT_cons (by simpa using e4), k2, drop_at a1, e3, ← a2, b8_toNat]
          simp
        · rcases List.mem_cons.1 hd with rfl | hd
          · exact k3
          · exact e5 d hd

theorem ap_run' {t : List UInt8} {qp qs qv qe : Int} (F : Four qp qs qv qe) (x : Nat) (hx : x ≠ 0) (hq : stepF qe x = qp) (i : Nat) :
    ((apT t x (i, false)).2.2 = false → PL t qp i = PL t qe (apT t x (i, false)).2.1 ∧ (∀ c, t[(apT t x (i, false)).2.1]? = some c → c.toNat ≠ x) ∧
      t.drop i = joinT (b8 x) ((apT t x (i, false)).1.map cnT) ++ t.drop (apT t x (i, false)).2.1 ∧ (apT t x (i, false)).1 ≠ [] ∧ ∀ c ∈ (apT t x (i, false)).1, CnOk c) ∧
    ((apT t x (i, false)).2.2 = true → PL t qp i = (apT t x (i, false)).2.1) := ap_run F x hx hq (t.length + 2) i (by omega)

/-- A list of constraints, with the states round it. -/
structure Lst (qb qp qs qv qe : Int) (y : Nat) (n : Int) (f : Bool) : Prop where
  four : Four qp qs qv qe
  sep : stepF qe 44 = qp
  b1 : ∀ c : Int, nmB c = true → stepF qb c = qs
  b0 : ∀ c : Nat, c < 256 → nmB c = false → stepF qb c = if c = y then n else -1
  e0 : ∀ c : Nat, c < 256 → c ≠ 44 → stepF qe c = if c = y then n else -1
  bf : fin qb = f
  ef : fin qe = f

def lsT (l : List Cn) : List UInt8 := joinT 44 (l.map cnT)

theorem PL_begin {t : List UInt8} {qb qp qs : Int} {i : Nat} (h : naB t i false = true) (hb : ∀ c : Int, nmB c = true → stepF qb c = qs) (hp : ∀ c : Int, nmB c = true → stepF qp c = qs) (hs : qs ≠ -1) : PL t qb i = PL t qp i := by
  obtain ⟨c, hc, h1, _⟩ := na_yes h
  exact (PL_go hc (hb _ h1) hs).trans (PL_go hc (hp _ h1) hs).symm

theorem cs_run {t : List UInt8} {qb qp qs qv qe : Int} {y : Nat} {n : Int} {f : Bool} (L : Lst qb qp qs qv qe y n f) (i : Nat) :
    ((csF t (i, false)).2.2 = false → ∃ q, PL t qb i = PL t q (csF t (i, false)).2.1 ∧ Cl t q (csF t (i, false)).2.1 y n f ∧ t.drop i = lsT (csF t (i, false)).1 ++ t.drop (csF t (i, false)).2.1 ∧ ∀ c ∈ (csF t (i, false)).1, CnOk c) ∧
    ((csF t (i, false)).2.2 = true → PL t qb i = (csF t (i, false)).2.1) := by
  cases h : naB t i false with
  | false =>
    obtain ⟨h1, _⟩ := na_no h
    have hcs : csF t (i, false) = ([], (i, false)) := by unfold csF; simp [h]
    rw [hcs]
    exact ⟨fun _ => ⟨qb, rfl, ⟨L.bf, fun c hc => L.b0 _ (UInt8.toNat_lt c) (h1 c hc)⟩, by simp [lsT, joinT], by simp⟩, fun h => by simp at h⟩
  | true =>
    have hP := PL_begin h L.b1 L.four.p1 L.four.ns
    have hcs : csF t (i, false) = apT t 44 (i, false) := by unfold csF; simp [h]
    rw [hcs]
    obtain ⟨r1, r2⟩ := ap_run' (t := t) L.four 44 (by decide) L.sep i
    refine ⟨fun h => ?_, fun h => hP.trans (r2 h)⟩
    obtain ⟨e1, e2, e3, e4, e5⟩ := r1 h
    exact ⟨qe, hP.trans e1, ⟨L.ef, fun c hc => L.e0 _ (UInt8.toNat_lt c) (e2 c hc)⟩, e3, e5⟩

/-- A list of constraints and the byte behind it. -/
theorem cs_ex {t : List UInt8} {qb qp qs qv qe : Int} {y : Nat} {n : Int} (L : Lst qb qp qs qv qe y n false) (hy : y ≠ 0) (hn : n ≠ -1) (i : Nat) :
    ((exS t y (csF t (i, false)).2).2 = false → PL t qb i = PL t n (exS t y (csF t (i, false)).2).1 ∧ t.drop i = lsT (csF t (i, false)).1 ++ b8 y :: t.drop (exS t y (csF t (i, false)).2).1 ∧ ∀ c ∈ (csF t (i, false)).1, CnOk c) ∧
    ((exS t y (csF t (i, false)).2).2 = true → PL t qb i = (exS t y (csF t (i, false)).2).1) := by
  obtain ⟨r1, r2⟩ := cs_run (t := t) L i
  generalize hr : csF t (i, false) = r at *
  obtain ⟨l, j, bad⟩ := r
  cases bad with
  | true => simp only [ex_bad]; exact ⟨fun h => (by cases h), fun _ => r2 rfl⟩
  | false =>
    obtain ⟨q, e1, e2, e3, e4⟩ := r1 rfl
    obtain ⟨x1, x2⟩ := ex_run e2 hy hn
    refine ⟨fun h => ?_, fun h => e1.trans (x2 h)⟩
    obtain ⟨k1, k2⟩ := x1 h
    exact ⟨e1.trans k1, by rw [e3]; simp only; rw [k2], e4⟩

theorem sg_ne {c : Int} (h : sgB c = true) : c = 61 ∨ c = 60 ∨ c = 62 := by unfold sgB at h; simp at h; omega
theorem nm_rng {c : Int} (h : nmB c = true) : 97 ≤ c ∧ c ≤ 122 := by unfold nmB at h; simp at h; exact h
theorem vr_rng {c : Int} (h : vrB c = true) : 49 ≤ c ∧ c ≤ 57 := by unfold vrB at h; simp at h; exact h

theorem lst_of (k : Int) (y : Nat) (n : Int) (f : Bool) (hk : k = 0 ∧ y = 58 ∧ n = 10 ∧ f = false ∨ k = 1 ∧ y = 47 ∧ n = 23 ∧ f = false ∨ k = 2 ∧ y = 47 ∧ n = 28 ∧ f = false ∨ k = 3 ∧ y = 1000 ∧ n = 99 ∧ f = true) :
    Lst (13 + 5 * k) (13 + 5 * k + 1) (13 + 5 * k + 2) (13 + 5 * k + 3) (13 + 5 * k + 4) y n f := by
  have hst : ∀ (r c : Int), 0 ≤ r → r < 5 → stepF (13 + 5 * k + r) c = listF k r c := by
    intro r c h0 h1
    unfold stepF
    rw [if_neg (by omega), if_neg (by omega), show (13 + 5 * k + r - 13) / 5 = k by omega, show (13 + 5 * k + r - 13) % 5 = r by omega]
  have hs0 : ∀ c : Int, stepF (13 + 5 * k) c = listF k 0 c := fun c => by have := hst 0 c (by omega) (by omega); simpa using this
  refine ⟨⟨fun c h => ?_, fun c h => ?_, ?_, fun c h => ?_, fun c h => ?_, ?_, fun c h => ?_, fun c h => ?_, ?_, by omega, by omega, by omega, by omega⟩, ?_, fun c h => ?_, fun c hc h => ?_, fun c hc h => ?_, ?_, ?_⟩
  · rw [hst 1 c (by omega) (by omega)]; simp [listF, h]
  · rw [hst 1 c (by omega) (by omega)]; simp [listF, h]
  · unfold fin; simp; omega
  · rw [hst 2 c (by omega) (by omega)]; simp [listF, h]
  · rw [hst 2 c (by omega) (by omega), hst 4 c (by omega) (by omega)]; simp [listF, h]
  · unfold fin; rcases hk with ⟨rfl, _⟩ | ⟨rfl, _⟩ | ⟨rfl, _⟩ | ⟨rfl, _⟩ <;> decide
  · rw [hst 3 c (by omega) (by omega)]; simp [listF, h]
  · rw [hst 3 c (by omega) (by omega)]; simp [listF, h]
  · unfold fin; rcases hk with ⟨rfl, _⟩ | ⟨rfl, _⟩ | ⟨rfl, _⟩ | ⟨rfl, _⟩ <;> decide
  · rw [hst 4 44 (by omega) (by omega)]; simp [listF]
  · rw [hs0]; simp [listF, h]
  · rw [hs0]
    rcases hk with ⟨rfl, rfl, rfl, rfl⟩ | ⟨rfl, rfl, rfl, rfl⟩ | ⟨rfl, rfl, rfl, rfl⟩ | ⟨rfl, rfl, rfl, rfl⟩
    all_goals simp [listF, h]
    all_goals first | omega | (split <;> split <;> omega)
  · rw [hst 4 c (by omega) (by omega)]
    rcases hk with ⟨rfl, rfl, rfl, rfl⟩ | ⟨rfl, rfl, rfl, rfl⟩ | ⟨rfl, rfl, rfl, rfl⟩ | ⟨rfl, rfl, rfl, rfl⟩
    all_goals have h' : ((c : Int) == 44) = false := by rw [beq_eq_false_iff_ne]; omega
    all_goals simp [listF, h']
    all_goals first | omega | (split <;> split <;> omega)
  · unfold fin; rcases hk with ⟨rfl, rfl, rfl, rfl⟩ | ⟨rfl, rfl, rfl, rfl⟩ | ⟨rfl, rfl, rfl, rfl⟩ | ⟨rfl, rfl, rfl, rfl⟩ <;> decide
  · unfold fin; rcases hk with ⟨rfl, rfl, rfl, rfl⟩ | ⟨rfl, rfl, rfl, rfl⟩ | ⟨rfl, rfl, rfl, rfl⟩ | ⟨rfl, rfl, rfl, rfl⟩ <;> decide

theorem lc : Lst 13 14 15 16 17 58 10 false := lst_of 0 58 10 false (Or.inl ⟨rfl, rfl, rfl, rfl⟩)
theorem l1 : Lst 18 19 20 21 22 47 23 false := lst_of 1 47 23 false (Or.inr (Or.inl ⟨rfl, rfl, rfl, rfl⟩))
theorem l2 : Lst 23 24 25 26 27 47 28 false := lst_of 2 47 28 false (Or.inr (Or.inr (Or.inl ⟨rfl, rfl, rfl, rfl⟩)))
theorem l3 : Lst 28 29 30 31 32 1000 99 true := lst_of 3 1000 99 true (Or.inr (Or.inr (Or.inr ⟨rfl, rfl, rfl, rfl⟩)))

theorem st_need (q c : Int) (h0 : 5 ≤ q) (h1 : q < 13) : stepF q c = needF q c := by unfold stepF; rw [if_neg (by omega), if_pos h1]
theorem st_head (q c : Int) (h1 : q < 5) : stepF q c = headF q c := by unfold stepF; rw [if_pos h1]

theorem fn : Four 6 7 8 9 := by
  refine ⟨fun c h => ?_, fun c h => ?_, by decide, fun c h => ?_, fun c h => ?_, by decide, fun c h => ?_, fun c h => ?_, by decide, by decide, by decide, by decide, by decide⟩
  · rw [st_need _ _ (by omega) (by omega)]; simp [needF, h]
  · rw [st_need _ _ (by omega) (by omega)]; simp [needF, h]
  · rw [st_need _ _ (by omega) (by omega)]; simp [needF, h]
  · rw [st_need _ _ (by omega) (by omega), st_need _ _ (by omega) (by omega)]; simp [needF, h]
  · rw [st_need _ _ (by omega) (by omega)]; simp [needF, h]
  · rw [st_need _ _ (by omega) (by omega)]; simp [needF, h]

def ndT (l : List Cn) : List UInt8 := joinT 124 (l.map cnT)
def nsT (l : List (List Cn)) : List UInt8 := joinT 44 (l.map ndT)
def NdOk (l : List Cn) : Prop := l ≠ [] ∧ ∀ c ∈ l, CnOk c

theorem nd_run {t : List UInt8} : ∀ (f i : Nat), t.length - i < f →
    ((ndF t f true (i, false)).2.2 = false → ∃ q, PL t 6 i = PL t q (ndF t f true (i, false)).2.1 ∧ Cl t q (ndF t f true (i, false)).2.1 58 13 false ∧
      t.drop i = nsT (ndF t f true (i, false)).1 ++ t.drop (ndF t f true (i, false)).2.1 ∧ (ndF t f true (i, false)).1 ≠ [] ∧ ∀ l ∈ (ndF t f true (i, false)).1, NdOk l) ∧
    ((ndF t f true (i, false)).2.2 = true → PL t 6 i = (ndF t f true (i, false)).2.1)
  | 0, i, hf => by omega
  | f + 1, i, hf => by
    obtain ⟨c1, c2⟩ := ap_run' (t := t) fn 124 (by decide) (by decide) i
    have hge := apT_ge t 124 (i, false)
    rw [ndF_yes]
    rcases hj : apT t 124 (i, false) with ⟨l, j, bad⟩
    rw [hj] at c1 c2 hge
    simp only at c1 c2 hge ⊢
    cases bad with
    | true =>
      rw [(ac_bad t 44 j).1, acS_bad, ndF_no]
      exact ⟨fun h => (by cases h), fun _ => c2 rfl⟩
    | false =>
      obtain ⟨k1, k2, k3, k4, k5⟩ := c1 rfl
      cases ha : acB t 44 j false with
      | false =>
        obtain ⟨a1, a2⟩ := ac_no (by decide) ha
        have : acS t 44 (j, false) = (j, false) := by unfold acS; simp [a2]
        rw [this, ndF_no]
        refine ⟨fun _ => ⟨9, k1, ⟨by decide, fun c hc => ?_⟩, by simpa [nsT, joinT, ndT, b8] using k3, by simp, fun d hd => ?_⟩, fun h => (by cases h)⟩
        · have g1 := a1 c hc
          have g2 := k2 c hc
          have g1' : ((c.toNat : Int) == 44) = false := by rw [beq_eq_false_iff_ne]; omega
          have g2' : ((c.toNat : Int) == 124) = false := by rw [beq_eq_false_iff_ne]; omega
          rw [st_need _ _ (by omega) (by omega)]; simp [needF, g1', g2']
          split <;> split <;> omega
        · simp at hd; subst hd; exact ⟨k4, k5⟩
      | true =>
        obtain ⟨c, a1, a2, a3⟩ := ac_yes ha
        have hlt : j < t.length := (List.getElem?_eq_some_iff.1 a1).1
        have : acS t 44 (j, false) = (j + 1, false) := by unfold acS; simp [a3]
        rw [this]
        obtain ⟨r1, r2⟩ := nd_run (t := t) f (j + 1) (by omega)
        have hgo : PL t 6 i = PL t 6 (j + 1) := k1.trans (PL_go a1 (by rw [a2]; decide) (by decide))
        refine ⟨fun h => ?_, fun h => hgo.trans (r2 h)⟩
        obtain ⟨q, e1, e2, e3, e4, e5⟩ := r1 h
        refine ⟨q, hgo.trans e1, e2, ?_, by simp, fun d hd => ?_⟩
        · unfold nsT
          simp only [List.map_cons]
          rw [joinT_cons (by simpa using e4), k3, drop_at a1, e3, show c = 44 from UInt8.toNat.inj a2]
          simp [nsT, ndT, b8]
        · rcases List.mem_cons.1 hd with rfl | hd
          · exact ⟨k4, k5⟩
          · exact e5 d hd

theorem ne_ex {t : List UInt8} (i : Nat) :
    ((exS t 58 (neF t (i, false)).2).2 = false → PL t 5 i = PL t 13 (exS t 58 (neF t (i, false)).2).1 ∧ t.drop i = nsT (neF t (i, false)).1 ++ b8 58 :: t.drop (exS t 58 (neF t (i, false)).2).1 ∧ ∀ l ∈ (neF t (i, false)).1, NdOk l) ∧
    ((exS t 58 (neF t (i, false)).2).2 = true → PL t 5 i = (exS t 58 (neF t (i, false)).2).1) := by
  unfold neF
  cases h : naB t i false with
  | false =>
    obtain ⟨h1, _⟩ := na_no h
    rw [ndF_no]
    have hC : Cl t 5 i 58 13 false := ⟨by decide, fun c hc => by
      have g := h1 c hc
      rw [st_need _ _ (by omega) (by omega)]; simp [needF, g]
      split <;> split <;> omega⟩
    obtain ⟨x1, x2⟩ := ex_run hC (by decide) (by decide)
    exact ⟨fun h => ⟨(x1 h).1, by simpa [nsT, joinT] using (x1 h).2, by simp⟩, x2⟩
  | true =>
    have hP : PL t 5 i = PL t 6 i := PL_begin h (fun c h => by rw [st_need _ _ (by omega) (by omega)]; simp [needF, h]) fn.p1 fn.ns
    obtain ⟨r1, r2⟩ := nd_run (t := t) (t.length + 2) i (by omega)
    generalize ndF t (t.length + 2) true (i, false) = r at *
    obtain ⟨l, j, bad⟩ := r
    cases bad with
    | true => simp only [ex_bad]; exact ⟨fun h => (by cases h), fun _ => hP.trans (r2 rfl)⟩
    | false =>
      obtain ⟨q, e1, e2, e3, e4, e5⟩ := r1 rfl
      obtain ⟨x1, x2⟩ := ex_run e2 (by decide) (by decide)
      refine ⟨fun h => ?_, fun h => hP.trans (e1.trans (x2 h))⟩
      obtain ⟨k1, k2⟩ := x1 h
      exact ⟨hP.trans (e1.trans k1), by rw [e3]; simp only; rw [k2], e5⟩

def nmT (l : List Nat) : List UInt8 := joinT 44 (l.map fun c => [b8 c])
theorem ns_run {t : List UInt8} : ∀ (f i : Nat), t.length - i < f →
    ((nsF t f true (i, false)).2.2 = false → ∃ q, PL t 11 i = PL t q (nsF t f true (i, false)).2.1 ∧ Cl t q (nsF t f true (i, false)).2.1 59 0 false ∧
      t.drop i = nmT (nsF t f true (i, false)).1 ++ t.drop (nsF t f true (i, false)).2.1 ∧ (nsF t f true (i, false)).1 ≠ [] ∧ ∀ c ∈ (nsF t f true (i, false)).1, nmB (c : Nat) = true) ∧
    ((nsF t f true (i, false)).2.2 = true → PL t 11 i = (nsF t f true (i, false)).2.1)
  | 0, i, hf => by omega
  | f + 1, i, hf => by
    rw [nsF_yes]
    cases hn : naB t i false with
    | false =>
      obtain ⟨h1, h2, h3⟩ := na_no hn
      have hS : naS t (i, false) = (i, true) := by unfold naS; simp [h2, h3]
      rw [hS, (ac_bad t 44 i).1, acS_bad, nsF_no]
      refine ⟨fun h => (by cases h), fun _ => PL_stop (by decide) fun c hc => ?_⟩
      rw [st_need _ _ (by omega) (by omega)]; simp [needF, h1 c hc]
    | true =>
      obtain ⟨c, hc, h1, h2, h3, h4⟩ := na_yes hn
      have hS : naS t (i, false) = (i + 1, false) := by unfold naS; simp [h3, h4]
      have hlt0 : i < t.length := (List.getElem?_eq_some_iff.1 hc).1
      have k1 : PL t 11 i = PL t 12 (i + 1) := PL_go hc (by rw [st_need _ _ (by omega) (by omega)]; simp [needF, h1]) (by decide)
      rw [hS]
      simp only [h2]
      cases ha : acB t 44 (i + 1) false with
      | false =>
        obtain ⟨a1, a2⟩ := ac_no (by decide) ha
        have : acS t 44 (i + 1, false) = (i + 1, false) := by unfold acS; simp [a2]
        rw [this, nsF_no]
        refine ⟨fun _ => ⟨12, k1, ⟨by decide, fun d hd => ?_⟩, ?_, by simp, fun d hd => ?_⟩, fun h => (by cases h)⟩
        · have g1 := a1 d hd
          have g1' : ((d.toNat : Int) == 44) = false := by rw [beq_eq_false_iff_ne]; omega
          rw [st_need _ _ (by omega) (by omega)]; simp [needF, g1']
          split <;> split <;> omega
        · rw [drop_at hc]; simp [nmT, joinT, b8_toNat]
        · simp at hd; subst hd; exact h1
      | true =>
        obtain ⟨d, a1, a2, a3⟩ := ac_yes ha
        have hlt : i + 1 < t.length := (List.getElem?_eq_some_iff.1 a1).1
        have : acS t 44 (i + 1, false) = (i + 1 + 1, false) := by unfold acS; simp [a3]
        rw [this]
        obtain ⟨r1, r2⟩ := ns_run (t := t) f (i + 1 + 1) (by omega)
        have hgo : PL t 11 i = PL t 11 (i + 1 + 1) := k1.trans (PL_go a1 (by rw [a2]; decide) (by decide))
        refine ⟨fun h => ?_, fun h => hgo.trans (r2 h)⟩
        obtain ⟨q, e1, e2, e3, e4, e5⟩ := r1 h
        refine ⟨q, hgo.trans e1, e2, ?_, by simp, fun u hu => ?_⟩
        · unfold nmT
          simp only [List.map_cons]
          rw [joinT_cons (by simpa using e4), drop_at hc, drop_at a1, e3, show d = 44 from UInt8.toNat.inj a2]
          simp [nmT, b8_toNat]
        · rcases List.mem_cons.1 hu with rfl | hu
          · exact h1
          · exact e5 u hu

theorem nms_ex {t : List UInt8} (i : Nat) :
    ((exS t 59 (nmsF t (i, false)).2).2 = false → PL t 10 i = PL t 0 (exS t 59 (nmsF t (i, false)).2).1 ∧ t.drop i = nmT (nmsF t (i, false)).1 ++ b8 59 :: t.drop (exS t 59 (nmsF t (i, false)).2).1 ∧ ∀ c ∈ (nmsF t (i, false)).1, nmB (c : Nat) = true) ∧
    ((exS t 59 (nmsF t (i, false)).2).2 = true → PL t 10 i = (exS t 59 (nmsF t (i, false)).2).1) := by
  unfold nmsF
  cases h : naB t i false with
  | false =>
    obtain ⟨h1, _⟩ := na_no h
    rw [nsF_no]
    have hC : Cl t 10 i 59 0 false := ⟨by decide, fun c hc => by
      have g := h1 c hc
      rw [st_need _ _ (by omega) (by omega)]; simp [needF, g]
      split <;> split <;> omega⟩
    obtain ⟨x1, x2⟩ := ex_run hC (by decide) (by decide)
    exact ⟨fun h => ⟨(x1 h).1, by simpa [nmT, joinT] using (x1 h).2, by simp⟩, x2⟩
  | true =>
    have hP : PL t 10 i = PL t 11 i := PL_begin (qs := 12) h (fun c h => by rw [st_need _ _ (by omega) (by omega)]; simp [needF, h]) (fun c h => by rw [st_need _ _ (by omega) (by omega)]; simp [needF, h]) (by decide)
    obtain ⟨r1, r2⟩ := ns_run (t := t) (t.length + 2) i (by omega)
    generalize nsF t (t.length + 2) true (i, false) = r at *
    obtain ⟨l, j, bad⟩ := r
    cases bad with
    | true => simp only [ex_bad]; exact ⟨fun h => (by cases h), fun _ => hP.trans (r2 rfl)⟩
    | false =>
      obtain ⟨q, e1, e2, e3, e4, e5⟩ := r1 rfl
      obtain ⟨x1, x2⟩ := ex_run e2 (by decide) (by decide)
      refine ⟨fun h => ?_, fun h => hP.trans (e1.trans (x2 h))⟩
      obtain ⟨k1, k2⟩ := x1 h
      exact ⟨hP.trans (e1.trans k1), by rw [e3]; simp only; rw [k2], e5⟩

end Go.Proofs.YtdfnnpakdbhhpaaGreatDoor
