/-
  The reader against the table of what may come next: plain mathematics, nothing of the dump.
-/
import Derived.Test.YtdfnnpakdbhhpaaGreatDoorRepP
namespace Go.Proofs.YtdfnnpakdbhhpaaGreatDoor

def fin (q : Int) : Bool := q == 28 || (q == 30 || q == 32)
/-- The place of the fault, told from state q at place i. -/
def PL (t : List UInt8) (q : Int) (i : Nat) : Int := plF q (t.drop i) i

theorem drop_at {t : List UInt8} {i : Nat} {c : UInt8} (h : t[i]? = some c) : t.drop i = c :: t.drop (i + 1) := by
  obtain ⟨hi, rfl⟩ := List.getElem?_eq_some_iff.1 h
  exact List.drop_eq_getElem_cons hi
theorem drop_none {t : List UInt8} {i : Nat} (h : t[i]? = none) : t.drop i = [] := List.drop_of_length_le (List.getElem?_eq_none_iff.1 h)
theorem PL_go {t : List UInt8} {q q' : Int} {i : Nat} {c : UInt8} (h : t[i]? = some c) (hs : stepF q c.toNat = q') (hq : q' ≠ -1) : PL t q i = PL t q' (i + 1) := by
  unfold PL
  rw [drop_at h, plF, hs, if_neg (by simpa using hq)]
theorem PL_stop {t : List UInt8} {q : Int} {i : Nat} (hf : fin q = false) (h : ∀ c, t[i]? = some c → stepF q c.toNat = -1) : PL t q i = i := by
  unfold PL
  cases hc : t[i]? with
  | none => rw [drop_none hc, plF]; unfold fin at hf; rw [hf]; simp
  | some c => rw [drop_at hc, plF, h c hc]; simp
theorem PL_end {t : List UInt8} {q : Int} {i : Nat} (hf : fin q = true) (h : t[i]? = none) : PL t q i = -1 := by
  unfold PL
  rw [drop_none h, plF]; unfold fin at hf; rw [hf]; simp
theorem PL_same {t : List UInt8} {q q' : Int} {i : Nat} (hf : fin q = fin q') (h : ∀ c, t[i]? = some c → stepF q c.toNat = stepF q' c.toNat) : PL t q i = PL t q' i := by
  unfold PL
  cases hc : t[i]? with
  | none => rw [drop_none hc, plF, plF]; unfold fin at hf; rw [hf]
  | some c => rw [drop_at hc, plF, plF, h c hc]

theorem ahF_some {t : List UInt8} {i : Nat} {c : UInt8} (h : t[i]? = some c) : ahF t i false = c.toNat := by unfold ahF; rw [h]; rfl
theorem ahF_none {t : List UInt8} {i : Nat} (h : t[i]? = none) : ahF t i false = 0 := by unfold ahF; rw [h]; rfl

theorem na_yes {t : List UInt8} {i : Nat} (h : naB t i false = true) : ∃ c, t[i]? = some c ∧ nmB c.toNat = true ∧ naV t i false = c.toNat ∧ naI t i false = i + 1 ∧ naBad t i false = false := by
  cases hc : t[i]? with
  | none => unfold naB at h; rw [ahF_none hc] at h; exact absurd h (by decide)
  | some c => exact ⟨c, rfl, by unfold naB at h; rwa [ahF_some hc] at h, by unfold naV; rw [if_pos h, ahF_some hc], by unfold naI; rw [if_pos h], by unfold naBad; rw [if_pos h]⟩
theorem na_no {t : List UInt8} {i : Nat} (h : naB t i false = false) : (∀ c, t[i]? = some c → nmB c.toNat = false) ∧ naI t i false = i ∧ naBad t i false = true :=
  ⟨fun c hc => by unfold naB at h; rwa [ahF_some hc] at h, by unfold naI; rw [h]; rfl, by unfold naBad; rw [h]; rfl⟩
theorem ve_yes {t : List UInt8} {i : Nat} (h : veB t i false = true) : ∃ c, t[i]? = some c ∧ vrB c.toNat = true ∧ veV t i false = c.toNat ∧ veI t i false = i + 1 ∧ veBad t i false = false := by
  cases hc : t[i]? with
  | none => unfold veB at h; rw [ahF_none hc] at h; exact absurd h (by decide)
  | some c => exact ⟨c, rfl, by unfold veB at h; rwa [ahF_some hc] at h, by unfold veV; rw [if_pos h, ahF_some hc], by unfold veI; rw [if_pos h], by unfold veBad; rw [if_pos h]⟩
theorem ve_no {t : List UInt8} {i : Nat} (h : veB t i false = false) : (∀ c, t[i]? = some c → vrB c.toNat = false) ∧ veI t i false = i ∧ veBad t i false = true :=
  ⟨fun c hc => by unfold veB at h; rwa [ahF_some hc] at h, by unfold veI; rw [h]; rfl, by unfold veBad; rw [h]; rfl⟩
theorem si_yes {t : List UInt8} {i : Nat} (h : siB t i false = true) : ∃ c, t[i]? = some c ∧ sgB c.toNat = true ∧ siV t i false = c.toNat ∧ siI t i false = i + 1 ∧ c.toNat ≠ 0 := by
  cases hc : t[i]? with
  | none => unfold siB at h; rw [ahF_none hc] at h; exact absurd h (by decide)
  | some c =>
    have h' : sgB c.toNat = true := by unfold siB at h; rwa [ahF_some hc] at h
    exact ⟨c, rfl, h', by unfold siV; rw [if_pos h, ahF_some hc], by unfold siI; rw [if_pos h], fun e => by rw [e] at h'; revert h'; decide⟩
theorem si_no {t : List UInt8} {i : Nat} (h : siB t i false = false) : (∀ c, t[i]? = some c → sgB c.toNat = false) ∧ siI t i false = i ∧ siV t i false = 0 :=
  ⟨fun c hc => by unfold siB at h; rwa [ahF_some hc] at h, by unfold siI; rw [h]; rfl, by unfold siV; rw [h]; rfl⟩
theorem ac_yes {t : List UInt8} {x i : Nat} (h : acB t x i false = true) : ∃ c, t[i]? = some c ∧ c.toNat = x ∧ acI t x i false = i + 1 := by
  have h' := h
  unfold acB at h'
  cases hc : t[i]? with
  | none => rw [ahF_none hc] at h'; simp at h'
  | some c => rw [ahF_some hc] at h'; simp at h'; exact ⟨c, rfl, h'.2, acI_yes h⟩
theorem ac_no {t : List UInt8} {x i : Nat} (hx : x ≠ 0) (h : acB t x i false = false) : (∀ c, t[i]? = some c → c.toNat ≠ x) ∧ acI t x i false = i := by
  refine ⟨fun c hc e => ?_, acI_no h⟩
  unfold acB at h
  rw [ahF_some hc, e] at h
  simp at h
  exact hx h

/-- A reader that has stopped stays where it is. -/
theorem ac_bad (t : List UInt8) (x i : Nat) : acB t x i true = false ∧ acI t x i true = i ∧ exBad t x i true = true := by
  have h : acB t x i true = false := by unfold acB; rw [ahF_bad]; rfl
  exact ⟨h, acI_no h, by unfold exBad; rw [h]; rfl⟩
theorem na_bad (t : List UInt8) (i : Nat) : naB t i true = false ∧ naS t (i, true) = (i, true) := by
  have h : naB t i true = false := by unfold naB; rw [ahF_bad]; decide
  refine ⟨h, ?_⟩
  unfold naS naI naBad
  simp [h]
theorem ve_bad (t : List UInt8) (i : Nat) : veS t (i, true) = (i, true) := by
  have h : veB t i true = false := by unfold veB; rw [ahF_bad]; decide
  unfold veS veI veBad
  simp [h]
theorem si_bad (t : List UInt8) (i : Nat) : siS t (i, true) = (i, true) := by
  have h : siB t i true = false := by unfold siB; rw [ahF_bad]; decide
  unfold siS siI
  simp [h]
theorem ex_bad (t : List UInt8) (x i : Nat) : exS t x (i, true) = (i, true) := by
  unfold exS; simp [(ac_bad t x i).2.1, (ac_bad t x i).2.2]
theorem acS_bad (t : List UInt8) (x i : Nat) : acS t x (i, true) = (i, true) := by
  unfold acS; simp [(ac_bad t x i).2.1]
theorem cn_bad (t : List UInt8) (i : Nat) : cnS t (i, true) = (i, true) := by
  unfold cnS; rw [(na_bad t i).2, si_bad, ve_bad]; split <;> rfl
theorem mk_bad (t : List UInt8) (i : Nat) : mkS t (i, true) = (i, true) := by
  unfold mkS; simp [(ac_bad t 43 i).1, acS_bad]
theorem ap_bad (t : List UInt8) (x : Nat) (f i : Nat) : (apF t x f (i, true)).2 = (i, true) := by
  cases f with
  | zero => rfl
  | succ f => rw [apF_no (by rw [cn_bad]; exact (ac_bad t x i).1), cn_bad, acS_bad]
theorem cs_bad (t : List UInt8) (i : Nat) : (csF t (i, true)).2 = (i, true) := by
  unfold csF; simp [(na_bad t i).1]
theorem nd_bad (t : List UInt8) (i : Nat) : (neF t (i, true)).2 = (i, true) := by
  unfold neF; rw [show naB t (i, true).1 (i, true).2 = false from (na_bad t i).1, ndF_no]
theorem nms_bad (t : List UInt8) (i : Nat) : (nmsF t (i, true)).2 = (i, true) := by
  unfold nmsF; rw [show naB t (i, true).1 (i, true).2 = false from (na_bad t i).1, nsF_no]

/-- The text of a constraint. -/
def b8 (n : Nat) : UInt8 := UInt8.ofNat n
theorem b8_toNat (c : UInt8) : b8 c.toNat = c := by unfold b8; simp
def cnT (c : Cn) : List UInt8 := if c.s = 0 then [b8 c.n] else [b8 c.n, b8 c.s, b8 c.v]
structure CnOk (c : Cn) : Prop where
  n : nmB c.n = true
  sv : c.s = 0 ∧ c.v = 0 ∨ sgB c.s = true ∧ vrB c.v = true

/-- Four states of a list of constraints. -/
structure Four (qp qs qv qe : Int) : Prop where
  p1 : ∀ c : Int, nmB c = true → stepF qp c = qs
  p0 : ∀ c : Int, nmB c = false → stepF qp c = -1
  pf : fin qp = false
  s1 : ∀ c : Int, sgB c = true → stepF qs c = qv
  s0 : ∀ c : Int, sgB c = false → stepF qs c = stepF qe c
  sf : fin qs = fin qe
  v1 : ∀ c : Int, vrB c = true → stepF qv c = qe
  v0 : ∀ c : Int, vrB c = false → stepF qv c = -1
  vf : fin qv = false
  ns : qs ≠ -1
  nv : qv ≠ -1
  ne : qe ≠ -1
  np : qp ≠ -1

theorem cn_run {t : List UInt8} {qp qs qv qe : Int} (F : Four qp qs qv qe) (i : Nat) :
    ((cnS t (i, false)).2 = false → PL t qp i = PL t qe (cnS t (i, false)).1 ∧ t.drop i = cnT (cnV t (i, false)) ++ t.drop (cnS t (i, false)).1 ∧ CnOk (cnV t (i, false))) ∧
    ((cnS t (i, false)).2 = true → PL t qp i = (cnS t (i, false)).1) := by
  cases hn : naB t i false with
  | false =>
    obtain ⟨h1, h2, h3⟩ := na_no hn
    have hS : naS t (i, false) = (i, true) := by unfold naS; simp [h2, h3]
    have hc : cnS t (i, false) = (i, true) := by unfold cnS; rw [hS, si_bad, ve_bad]; split <;> rfl
    rw [hc]
    exact ⟨fun h => (by cases h), fun _ => PL_stop F.pf fun c hc => F.p0 _ (h1 c hc)⟩
  | true =>
    obtain ⟨c, hc, h1, h2, h3, h4⟩ := na_yes hn
    have hS : naS t (i, false) = (i + 1, false) := by unfold naS; simp [h3, h4]
    have hgo : PL t qp i = PL t qs (i + 1) := PL_go hc (F.p1 _ h1) F.ns
    cases hs : siB t (i + 1) false with
    | false =>
      obtain ⟨g1, g2, g3⟩ := si_no hs
      have hSS : siS t (i + 1, false) = (i + 1, false) := by unfold siS; simp [g2]
      have e1 : cnS t (i, false) = (i + 1, false) := by unfold cnS; rw [hS]; simp [g3, hSS]
      have e2 : cnV t (i, false) = { n := c.toNat, s := 0, v := 0 } := by unfold cnV; rw [hS]; simp [g3, h2]
      rw [e1, e2]
      refine ⟨fun _ => ⟨hgo.trans (PL_same F.sf fun d hd => F.s0 _ (g1 d hd)), ?_, ⟨h1, Or.inl ⟨rfl, rfl⟩⟩⟩, fun h => (by cases h)⟩
      rw [drop_at hc]; simp [cnT, b8_toNat]
    | true =>
      obtain ⟨d, hd, g1, g2, g3, g4⟩ := si_yes hs
      have hSS : siS t (i + 1, false) = (i + 1 + 1, false) := by unfold siS; simp [g3]
      have hgo2 : PL t qp i = PL t qv (i + 1 + 1) := hgo.trans (PL_go hd (F.s1 _ g1) F.nv)
      have e1 : cnS t (i, false) = veS t (i + 1 + 1, false) := by unfold cnS; rw [hS]; simp [g2, g4, hSS]
      cases hv : veB t (i + 1 + 1) false with
      | false =>
        obtain ⟨k1, k2, k3⟩ := ve_no hv
        have e2 : veS t (i + 1 + 1, false) = (i + 1 + 1, true) := by unfold veS; simp [k2, k3]
        rw [e1, e2]
        exact ⟨fun h => (by cases h), fun _ => hgo2.trans (PL_stop F.vf fun c hc => F.v0 _ (k1 c hc))⟩
      | true =>
        obtain ⟨v, hv', k1, k2, k3, k4⟩ := ve_yes hv
        have e2 : veS t (i + 1 + 1, false) = (i + 1 + 1 + 1, false) := by unfold veS; simp [k3, k4]
        have e3 : cnV t (i, false) = { n := c.toNat, s := d.toNat, v := v.toNat } := by unfold cnV; rw [hS]; simp [g2, g4, h2, hSS, k2]
        rw [e1, e2, e3]
        refine ⟨fun _ => ⟨hgo2.trans (PL_go hv' (F.v1 _ k1) F.ne), ?_, ⟨h1, Or.inr ⟨g1, k1⟩⟩⟩, fun h => (by cases h)⟩
        rw [drop_at hc, drop_at hd, drop_at hv']; simp [cnT, b8_toNat, g4]

end Go.Proofs.YtdfnnpakdbhhpaaGreatDoor
