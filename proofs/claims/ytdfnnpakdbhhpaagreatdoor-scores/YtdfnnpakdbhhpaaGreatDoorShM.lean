/-
  A list in its usual order, each part once: plain mathematics.
-/
import Derived.Test.YtdfnnpakdbhhpaaGreatDoorSpM
namespace Go.Proofs.YtdfnnpakdbhhpaaGreatDoor

def gtB (a b : List UInt8) : Bool := !(Op.bytesLess a b || a == b)
def selStep (fl le x : List UInt8) : List UInt8 := if gtB x fl && (le.isEmpty || Op.bytesLess x le) then x else le
/-- The least part above the floor, or the empty text. -/
def sel (l : List (List UInt8)) (fl : List UInt8) : List UInt8 := l.foldl (selStep fl) []
def ordGo (sep : List UInt8) (l : List (List UInt8)) : Nat → List UInt8 → List UInt8 → List UInt8
  | 0, t, _ => t
  | f + 1, t, last => if (sel l last).isEmpty then t else ordGo sep l f (t ++ (if last.isEmpty then [] else sep) ++ sel l last) (sel l last)
def ordT (sep : List UInt8) (l : List (List UInt8)) : List UInt8 := ordGo sep l l.length [] []

theorem sel_snoc (l : List (List UInt8)) (x fl : List UInt8) : sel (l ++ [x]) fl = selStep fl (sel l fl) x := by simp [sel]

/-- What is selected is one of the parts, or nothing. -/
theorem sel_mem (fl : List UInt8) : ∀ (l : List (List UInt8)) (le : List UInt8), l.foldl (selStep fl) le = le ∨ l.foldl (selStep fl) le ∈ l
  | [], le => Or.inl rfl
  | x :: l, le => by
    rw [List.foldl_cons]
    rcases sel_mem fl l (selStep fl le x) with h | h
    · rw [h]
      unfold selStep
      split
      · right; simp
      · left; rfl
    · right; simp [h]

/-- Two ways of writing the same things, in the same order. -/
structure Same {α : Type} (ps : List α) (f g : α → List UInt8) : Prop where
  lt : ∀ p ∈ ps, ∀ q ∈ ps, Op.bytesLess (f p) (f q) = Op.bytesLess (g p) (g q)
  eq : ∀ p ∈ ps, ∀ q ∈ ps, (f p == f q) = (g p == g q)
  nf : ∀ p ∈ ps, (f p).isEmpty = false
  ng : ∀ p ∈ ps, (g p).isEmpty = false

def optT {α : Type} (f : α → List UInt8) : Option α → List UInt8
  | none => []
  | some p => f p

theorem gt_nil {a : List UInt8} (h : a.isEmpty = false) : gtB a [] = true := by
  cases a with
  | nil => cases h
  | cons x a => simp [gtB, Op.bytesLess]

theorem sel_same {α : Type} {ps : List α} {f g : α → List UInt8} (S : Same ps f g) : ∀ (qs : List α), (∀ q ∈ qs, q ∈ ps) → ∀ (fl le : Option α), (∀ p, fl = some p → p ∈ ps) → (∀ p, le = some p → p ∈ ps) →
    ∃ r : Option α, (∀ p, r = some p → p ∈ ps) ∧ (qs.map f).foldl (selStep (optT f fl)) (optT f le) = optT f r ∧ (qs.map g).foldl (selStep (optT g fl)) (optT g le) = optT g r
  | [], _, fl, le, _, hle => ⟨le, hle, rfl, rfl⟩
  | q :: qs, hq, fl, le, hfl, hle => by
    have hqp : q ∈ ps := hq q (by simp)
    have hgt : gtB (f q) (optT f fl) = gtB (g q) (optT g fl) := by
      cases fl with
      | none => simp only [optT]; rw [gt_nil (S.nf q hqp), gt_nil (S.ng q hqp)]
      | some p => simp only [optT, gtB]; rw [S.lt q hqp p (hfl p rfl), S.eq q hqp p (hfl p rfl)]
    have hor : ((optT f le).isEmpty || Op.bytesLess (f q) (optT f le)) = ((optT g le).isEmpty || Op.bytesLess (g q) (optT g le)) := by
      cases le with
      | none => rfl
      | some p => simp only [optT]; rw [S.nf p (hle p rfl), S.ng p (hle p rfl), S.lt q hqp p (hle p rfl)]
    simp only [List.map_cons, List.foldl_cons]
    by_cases h : (gtB (f q) (optT f fl) && ((optT f le).isEmpty || Op.bytesLess (f q) (optT f le))) = true
    · have e1 : selStep (optT f fl) (optT f le) (f q) = optT f (some q) := by unfold selStep; rw [if_pos h]; rfl
      have e2 : selStep (optT g fl) (optT g le) (g q) = optT g (some q) := by unfold selStep; rw [if_pos (by rw [← hgt, ← hor]; exact h)]; rfl
      rw [e1, e2]
      exact sel_same S qs (fun x hx => hq x (by simp [hx])) fl (some q) hfl (fun p hp => by injection hp with hp; rw [← hp]; exact hqp)
    · have e1 : selStep (optT f fl) (optT f le) (f q) = optT f le := by unfold selStep; rw [if_neg h]
      have e2 : selStep (optT g fl) (optT g le) (g q) = optT g le := by unfold selStep; rw [if_neg (by rw [← hgt, ← hor]; exact h)]
      rw [e1, e2]
      exact sel_same S qs (fun x hx => hq x (by simp [hx])) fl le hfl hle

theorem opt_empty {α : Type} {ps : List α} {f g : α → List UInt8} (S : Same ps f g) {r : Option α} (h : ∀ p, r = some p → p ∈ ps) : (optT f r).isEmpty = r.isNone ∧ (optT g r).isEmpty = r.isNone := by
  cases r with
  | none => exact ⟨rfl, rfl⟩
  | some p => exact ⟨S.nf p (h p rfl), S.ng p (h p rfl)⟩

/-- The parts with their sign behind each, or the sign between: but for the last one the same. -/
theorem ord_same {α : Type} {ps : List α} {f g : α → List UInt8} (S : Same ps f g) (x : List UInt8) (hfg : ∀ p ∈ ps, f p = g p ++ x) : ∀ (n : Nat) (u : List UInt8) (last : α), last ∈ ps →
    ordGo [] (ps.map f) n (u ++ x) (f last) = ordGo x (ps.map g) n u (g last) ++ x
  | 0, u, last, hl => rfl
  | n + 1, u, last, hl => by
    obtain ⟨r, hr, e1, e2⟩ := sel_same S ps (fun q hq => hq) (some last) none (fun p hp => by injection hp with hp; rw [← hp]; exact hl) (fun p hp => by cases hp)
    have e1' : sel (ps.map f) (f last) = optT f r := e1
    have e2' : sel (ps.map g) (g last) = optT g r := e2
    obtain ⟨m1, m2⟩ := opt_empty S hr
    rw [ordGo, ordGo, e1', e2', m1, m2, S.nf last hl, S.ng last hl]
    cases r with
    | none => rfl
    | some p =>
      have hp := hr p rfl
      simp only [optT, Option.isNone_some, Bool.false_eq_true, if_false]
      have ih := ord_same S x hfg n (u ++ x ++ g p) p hp
      rw [hfg p hp] at ih ⊢
      rw [← ih]
      simp
theorem ord_first {α : Type} {ps : List α} {f g : α → List UInt8} (S : Same ps f g) (x : List UInt8) (hfg : ∀ p ∈ ps, f p = g p ++ x) (hne : ps ≠ []) : ordT [] (ps.map f) = ordT x (ps.map g) ++ x := by
  unfold ordT
  obtain ⟨n, hn⟩ : ∃ n, ps.length = n + 1 := ⟨ps.length - 1, by have := List.length_pos_iff.2 hne; omega⟩
  rw [List.length_map, List.length_map, hn]
  obtain ⟨r, hr, e1, e2⟩ := sel_same S ps (fun q hq => hq) none none (fun p hp => by cases hp) (fun p hp => by cases hp)
  have e1' : sel (ps.map f) [] = optT f r := e1
  have e2' : sel (ps.map g) [] = optT g r := e2
  obtain ⟨m1, m2⟩ := opt_empty S hr
  rw [ordGo, ordGo, e1', e2', m1, m2]
  cases r with
  | some p =>
    have hp := hr p rfl
    simp only [optT, Option.isNone_some, Bool.false_eq_true, if_false, List.isEmpty_nil, if_true, List.nil_append]
    have ih := ord_same S x hfg n (g p) p hp
    rw [← hfg p hp] at ih
    exact ih
  | none =>
    -- the first of all parts is above the empty text: something is selected
    exfalso
    obtain ⟨q, qs, rfl⟩ : ∃ q qs, ps = q :: qs := by cases ps with | nil => exact absurd rfl hne | cons q qs => exact ⟨q, qs, rfl⟩
    have hq : (f q).isEmpty = false := S.nf q (by simp)
    have key : ∀ (l : List (List UInt8)) (le : List UInt8), (∀ a ∈ l, a.isEmpty = false) → le.isEmpty = false → (l.foldl (selStep []) le).isEmpty = false := by
      intro l
      induction l with
      | nil => intro le _ h; exact h
      | cons a l ih =>
        intro le hl h
        rw [List.foldl_cons]
        refine ih _ (fun b hb => hl b (by simp [hb])) ?_
        unfold selStep
        split
        · exact hl a (by simp)
        · exact h
    have h1 := key (qs.map f) (f q) (fun a ha => by obtain ⟨p, hp, rfl⟩ := List.mem_map.1 ha; exact S.nf p (by simp [hp])) hq
    have h2 : sel ((q :: qs).map f) [] = (qs.map f).foldl (selStep []) (f q) := by
      unfold sel
      rw [List.map_cons, List.foldl_cons]
      congr 1
      unfold selStep
      rw [gt_nil hq]
      simp
    rw [e1'] at h2
    rw [← h2] at h1
    simp [optT] at h1

end Go.Proofs.YtdfnnpakdbhhpaaGreatDoor
