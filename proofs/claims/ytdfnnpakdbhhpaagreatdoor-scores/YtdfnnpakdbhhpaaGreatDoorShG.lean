/-
  The two ways of writing a document in its usual form are one: plain mathematics.
-/
import Derived.Test.YtdfnnpakdbhhpaaGreatDoorRfC
namespace Go.Proofs.YtdfnnpakdbhhpaaGreatDoor

theorem ft_ge (ps : List Pk) : ∀ (f k : Nat), k ≤ ftF ps f k
  | 0, k => Nat.le_refl _
  | f + 1, k => by
    rw [ftF]
    split
    · exact Nat.le_refl _
    · split
      · exact Nat.le_refl _
      · exact Nat.le_trans (Nat.le_succ k) (ft_ge ps f (k + 1))
theorem ft_none (ps : List Pk) : ∀ (f k : Nat), ps.length < f + k → ps.length ≤ ftF ps f k → ∀ i (h : i < ps.length), k ≤ i → amB (ps.take i) ps[i].n ps[i].v = false
  | 0, k, hf, _, i, h, hk => by omega
  | f + 1, k, hf, hl, i, h, hk => by
    have hkl : k < ps.length := by omega
    rw [ftF, List.getElem?_eq_getElem hkl] at hl
    simp only at hl
    cases ha : amB (ps.take k) ps[k].n ps[k].v with
    | true => rw [ha] at hl; simp at hl; omega
    | false =>
      rw [ha] at hl
      simp only [Bool.false_eq_true, if_false] at hl
      rcases Nat.lt_or_ge k i with h1 | h1
      · exact ft_none ps f (k + 1) (by omega) hl i h h1
      · have : i = k := by omega
        subst this
        exact ha
theorem ft_apart {ps : List Pk} (h : ¬ ftT ps < ps.length) {p q : Pk} (hp : p ∈ ps) (hq : q ∈ ps) (hn : p.n = q.n) (hv : p.v = q.v) : p = q := by
  obtain ⟨i, hi, rfl⟩ := List.getElem_of_mem hp
  obtain ⟨j, hj, rfl⟩ := List.getElem_of_mem hq
  have key : ∀ a b (ha : a < ps.length) (hb : b < ps.length), a < b → ¬ (ps[a].n = ps[b].n ∧ ps[a].v = ps[b].v) := by
    intro a b ha hb hab ⟨e1, e2⟩
    have h0 := ft_none ps (ps.length + 1) 0 (by omega) (by unfold ftT at h; omega) b hb (Nat.zero_le _)
    have h1 : amB (ps.take b) ps[b].n ps[b].v = true := by
      unfold amB
      rw [List.any_eq_true]
      exact ⟨ps[a], by rw [List.mem_iff_getElem]; exact ⟨a, by simp; omega, by simp⟩, by simp [e1, e2]⟩
    rw [h0] at h1
    cases h1
  rcases Nat.lt_trichotomy i j with h1 | h1 | h1
  · exact absurd ⟨hn, hv⟩ (key i j hi hj h1)
  · subst h1; rfl
  · exact absurd ⟨hn.symm, hv.symm⟩ (key j i hj hi h1)

theorem less_self : ∀ (a : List UInt8), Op.bytesLess a a = false
  | [] => rfl
  | x :: a => by simp [Op.bytesLess, less_self a]
theorem less_two {a b a' b' : UInt8} (h : ¬ (a = a' ∧ b = b')) (x y x' y' : List UInt8) : Op.bytesLess (a :: b :: x) (a' :: b' :: y) = Op.bytesLess (a :: b :: x') (a' :: b' :: y') := by
  simp only [Op.bytesLess]
  by_cases h1 : a = a'
  · have h2 : b ≠ b' := fun e => h ⟨h1, e⟩
    have h3 : (b == b') = false := by simpa using h2
    simp [h3]
  · have h3 : (a == a') = false := by simpa using h1
    simp [h3]

theorem pkS0_form (p : Pk) : ∃ r, pkS0 p = b8 p.n :: b8 p.v :: r ∧ pkS p = b8 p.n :: b8 p.v :: (r ++ [59]) :=
  ⟨mkT p.m ++ [58] ++ ordT [44] (p.needs.map ndS) ++ [58] ++ ordT [44] (p.conf.map cnT) ++ [58] ++ ordT [44] (p.prov.map fun c => [b8 c]), by simp [pkS0], by simp [pkS, pkS0]⟩

theorem pk_same {ps : List Pk} (hok : ∀ p ∈ ps, PkOk p) (h : ¬ ftT ps < ps.length) : Same ps pkS pkS0 := by
  have key : ∀ p ∈ ps, ∀ q ∈ ps, p = q ∨ ¬ (b8 p.n = b8 q.n ∧ b8 p.v = b8 q.v) := by
    intro p hp q hq
    by_cases e : b8 p.n = b8 q.n ∧ b8 p.v = b8 q.v
    · left
      have a1 := nm_rng (hok p hp).n
      have a2 := nm_rng (hok q hq).n
      have a3 := vr_rng (hok p hp).v
      have a4 := vr_rng (hok q hq).v
      have e1 := congrArg UInt8.toNat e.1
      have e2 := congrArg UInt8.toNat e.2
      rw [b8_val (by omega), b8_val (by omega)] at e1 e2
      exact ft_apart h hp hq e1 e2
    · exact Or.inr e
  refine ⟨fun p hp q hq => ?_, fun p hp q hq => ?_, fun p _ => ?_, fun p _ => ?_⟩
  · rcases key p hp q hq with rfl | hn
    · rw [less_self, less_self]
    · obtain ⟨r, e1, e2⟩ := pkS0_form p
      obtain ⟨r', e3, e4⟩ := pkS0_form q
      rw [e1, e2, e3, e4]
      exact less_two hn _ _ _ _
  · rcases key p hp q hq with rfl | hn
    · simp
    · obtain ⟨r, e1, e2⟩ := pkS0_form p
      obtain ⟨r', e3, e4⟩ := pkS0_form q
      rw [e1, e2, e3, e4]
      have f1 : (b8 p.n :: b8 p.v :: (r ++ [59]) == b8 q.n :: b8 q.v :: (r' ++ [59])) = false := by
        rw [beq_eq_false_iff_ne]; intro e; injection e with e1 e; injection e with e2 _; exact hn ⟨e1, e2⟩
      have f2 : (b8 p.n :: b8 p.v :: r == b8 q.n :: b8 q.v :: r') = false := by
        rw [beq_eq_false_iff_ne]; intro e; injection e with e1 e; injection e with e2 _; exact hn ⟨e1, e2⟩
      rw [f1, f2]
  · obtain ⟨r, e1, e2⟩ := pkS0_form p; rw [e2]; rfl
  · obtain ⟨r, e1, e2⟩ := pkS0_form p; rw [e1]; rfl

theorem show_same (t : List UInt8) : shT t = rshT t := by
  unfold shT rshT
  by_cases h : rdE t = 0
  · rw [if_pos h, if_pos h]
    obtain ⟨_, hok, _, _, hft⟩ := rd_ok h
    unfold dcS rdcS
    cases hp : (dcV t).packs with
    | nil => rfl
    | cons p ps =>
      have hne : (dcV t).packs ≠ [] := by rw [hp]; simp
      have := ord_first (pk_same hok.packs hft) [59] (fun p _ => rfl) hne
      rw [hp] at this
      rw [this]
      rfl
  · rw [if_neg h, if_neg h]

end Go.Proofs.YtdfnnpakdbhhpaaGreatDoor
