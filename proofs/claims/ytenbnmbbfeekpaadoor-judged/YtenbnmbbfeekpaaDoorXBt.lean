import Derived.Test.YtenbnmbbfeekpaaDoorXV
import Derived.Test.YtenbnmbbfeekpaaDoorXH
import Derived.Test.YtenbnmbbfeekpaaDoorXO

/-
  Sets of packages as bits, and what the program makes of them: plain mathematics. Nothing of the dump.
-/
namespace Go.Proofs.YtenbnmbbfeekpaaDoor
open Go.RowKit

/-- The bit of a number. -/
def oneN (i : Nat) : Nat := if i < 20 then 2 ^ i else 0
theorem oneN_lt (i : Nat) : oneN i < 2 ^ 20 := by
  unfold oneN
  split
  · exact Nat.pow_lt_pow_right (by omega) (by assumption)
  · decide
theorem oneN_test (i j : Nat) : (oneN i).testBit j = true ↔ i < 20 ∧ i = j := by
  unfold oneN
  split
  · rw [Nat.testBit_two_pow, decide_eq_true_eq]
    constructor
    · intro h; exact ⟨by assumption, h⟩
    · intro h; exact h.2
  · rw [Nat.zero_testBit]
    constructor
    · intro h; cases h
    · intro h; omega
def hasN (s i : Nat) : Bool := (s &&& oneN i) != 0
theorem hasN_iff (s i : Nat) : hasN s i = true ↔ i < 20 ∧ s.testBit i = true := by
  unfold hasN
  rw [bne_iff_ne, and_ne_iff]
  constructor
  · rintro ⟨j, h1, h2⟩
    obtain ⟨h3, rfl⟩ := (oneN_test i j).1 h2
    exact ⟨h3, h1⟩
  · rintro ⟨h1, h2⟩
    exact ⟨i, h2, (oneN_test i i).2 ⟨h1, rfl⟩⟩
/-- The numbers below k for which g holds. -/
def mskN (g : Nat → Bool) : Nat → Nat
  | 0 => 0
  | k + 1 => if g k then mskN g k ||| oneN k else mskN g k
theorem mskN_lt (g : Nat → Bool) : ∀ k, mskN g k < 2 ^ 20
  | 0 => by simp [mskN]
  | k + 1 => by
    rw [mskN]
    split
    · exact or_lt (mskN_lt g k) (oneN_lt k)
    · exact mskN_lt g k
theorem mskN_test (g : Nat → Bool) (i : Nat) : ∀ k, (mskN g k).testBit i = true ↔ i < k ∧ i < 20 ∧ g i = true
  | 0 => by simp [mskN]
  | k + 1 => by
    have ih := mskN_test g i k
    rw [mskN]
    split
    · rename_i hg
      rw [Nat.testBit_or, Bool.or_eq_true, ih, oneN_test]
      constructor
      · rintro (h | ⟨h, rfl⟩)
        · exact ⟨by omega, h.2⟩
        · exact ⟨by omega, h, hg⟩
      · rintro ⟨h1, h2, h3⟩
        by_cases e : k = i
        · exact Or.inr ⟨by omega, e⟩
        · exact Or.inl ⟨by omega, h2, h3⟩
    · rename_i hg
      rw [ih]
      constructor
      · rintro ⟨h1, h2⟩; exact ⟨by omega, h2⟩
      · rintro ⟨h1, h2, h3⟩
        refine ⟨?_, h2, h3⟩
        rcases Nat.lt_or_ge i k with h | h
        · exact h
        · have : i = k := by omega
          subst this
          exact absurd h3 hg
def atB (f : Pk → Bool) (ps : List Pk) (i : Nat) : Bool := match ps[i]? with | some p => f p | none => false
theorem atB_at {f : Pk → Bool} {ps : List Pk} {i : Nat} (h : i < ps.length) : atB f ps i = f ps[i] := by unfold atB; rw [List.getElem?_eq_getElem h]
theorem atB_iff {f : Pk → Bool} {ps : List Pk} {i : Nat} : atB f ps i = true ↔ ∃ h : i < ps.length, f ps[i] = true := by
  unfold atB
  rcases Nat.lt_or_ge i ps.length with h | h
  · rw [List.getElem?_eq_getElem h]
    exact ⟨fun g => ⟨h, g⟩, fun ⟨_, g⟩ => g⟩
  · rw [List.getElem?_eq_none h]
    exact ⟨fun g => (by cases g), fun ⟨g, _⟩ => (by omega)⟩
def fitM (ps : List Pk) (c : Cn) : Nat := mskN (atB (fun p => fitB p c) ps) ps.length
def nowM (ps : List Pk) : Nat := mskN (atB (fun p => p.m != 0) ps) ps.length
def wnM (ps : List Pk) (a : Nat) : Nat := mskN (atB (fun p => p.n == a) ps) ps.length
def allM (ps : List Pk) : Nat := mskN (fun _ => true) ps.length
def nbM (ps : List Pk) (S v : Nat) : Nat := mskN (fun i => hasN S i && atB (fun p => decide (v ≤ p.v)) ps i) ps.length
def vAt (ps : List Pk) (i : Nat) : Nat := match ps[i]? with | some p => p.v | none => 0
/-- The greatest version among the first k that are in the set. -/
def grN (ps : List Pk) (S : Nat) : Nat → Nat
  | 0 => 0
  | k + 1 => if hasN S k && decide (grN ps S k < vAt ps k) then vAt ps k else grN ps S k
def faM (ps : List Pk) (l : List Cn) : Nat := l.foldl (fun a c => a ||| fitM ps c) 0
theorem faM_snoc (ps : List Pk) (l : List Cn) (c : Cn) : faM ps (l ++ [c]) = faM ps l ||| fitM ps c := by unfold faM; rw [List.foldl_append]; rfl
theorem fa_go (ps : List Pk) (i : Nat) : ∀ (l : List Cn) (a : Nat), (l.foldl (fun a c => a ||| fitM ps c) a).testBit i = true ↔ a.testBit i = true ∨ ∃ c ∈ l, (fitM ps c).testBit i = true
  | [], a => by simp
  | c :: l, a => by
    rw [List.foldl_cons, fa_go ps i l, Nat.testBit_or, Bool.or_eq_true]
    simp only [List.mem_cons, exists_eq_or_imp]
    rw [or_assoc]
theorem faM_test (ps : List Pk) (l : List Cn) (i : Nat) : (faM ps l).testBit i = true ↔ ∃ c ∈ l, (fitM ps c).testBit i = true := by
  unfold faM
  rw [fa_go]
  simp
theorem fa_lt (ps : List Pk) : ∀ (l : List Cn) (a : Nat), a < 2 ^ 20 → l.foldl (fun a c => a ||| fitM ps c) a < 2 ^ 20
  | [], _, h => h
  | _ :: l, _, h => fa_lt ps l _ (or_lt h (mskN_lt _ _))
theorem faM_lt (ps : List Pk) (l : List Cn) : faM ps l < 2 ^ 20 := fa_lt ps l 0 (by decide)
/-- One bit more, if one of them is so. -/
def inn (A o : Nat) (f : Cn → Bool) (l : List Cn) : Nat := if l.any f then A ||| o else A
theorem inn_snoc (A o : Nat) (f : Cn → Bool) (l : List Cn) (c : Cn) : inn A o f (l ++ [c]) = if f c then inn A o f l ||| o else inn A o f l := by
  unfold inn
  rw [List.any_append]
  cases h1 : l.any f <;> cases h2 : f c <;> simp [h2, Nat.or_assoc]
theorem inn_lt {A o : Nat} (f : Cn → Bool) (l : List Cn) (h : A < 2 ^ 20) (g : o < 2 ^ 20) : inn A o f l < 2 ^ 20 := by
  unfold inn
  split
  · exact or_lt h g
  · exact h
def cnAt (ps : List Pk) (i : Nat) : List Cn := match ps[i]? with | some p => p.conf | none => []
/-- The packages that cannot stand beside p. -/
def opF (ps : List Pk) (p : Pk) : Nat → Nat
  | 0 => faM ps p.conf
  | k + 1 => inn (opF ps p k) (oneN k) (fitB p) (cnAt ps k)
theorem opF_lt (ps : List Pk) (p : Pk) : ∀ k, opF ps p k < 2 ^ 20
  | 0 => faM_lt ps p.conf
  | k + 1 => inn_lt _ _ (opF_lt ps p k) (oneN_lt k)
theorem opF_test (ps : List Pk) (p : Pk) (i : Nat) : ∀ k, (opF ps p k).testBit i = true ↔ (faM ps p.conf).testBit i = true ∨ (i < k ∧ i < 20 ∧ (cnAt ps i).any (fitB p) = true)
  | 0 => by simp [opF]
  | k + 1 => by
    have ih := opF_test ps p i k
    rw [opF, inn]
    split
    · rename_i hg
      rw [Nat.testBit_or, Bool.or_eq_true, ih, oneN_test]
      constructor
      · rintro ((h | ⟨h1, h2⟩) | ⟨h, rfl⟩)
        · exact Or.inl h
        · exact Or.inr ⟨by omega, h2⟩
        · exact Or.inr ⟨by omega, h, hg⟩
      · rintro (h | ⟨h1, h2, h3⟩)
        · exact Or.inl (Or.inl h)
        · by_cases e : k = i
          · exact Or.inr ⟨by omega, e⟩
          · exact Or.inl (Or.inr ⟨by omega, h2, h3⟩)
    · rename_i hg
      rw [ih]
      constructor
      · rintro (h | ⟨h1, h2⟩)
        · exact Or.inl h
        · exact Or.inr ⟨by omega, h2⟩
      · rintro (h | ⟨h1, h2, h3⟩)
        · exact Or.inl h
        · refine Or.inr ⟨?_, h2, h3⟩
          rcases Nat.lt_or_ge i k with h | h
          · exact h
          · have : i = k := by omega
            subst this
            exact absurd h3 hg
def foeM (ps : List Pk) (i : Nat) (p : Pk) : Nat := adN (opF ps p ps.length) (oneN i)
theorem foeM_lt (ps : List Pk) (i : Nat) (p : Pk) : foeM ps i p < 2 ^ 20 := adN_lt (opF_lt _ _ _)
def neM (ps : List Pk) (p : Pk) : List Nat := p.needs.map (faM ps)
abbrev Rp := List Nat × Nat
def rpL (ps : List Pk) : Nat → List Rp
  | 0 => []
  | k + 1 => match ps[k]? with | some p => rpL ps k ++ [(neM ps p, foeM ps k p)] | none => rpL ps k
theorem rpL_at (ps : List Pk) : ∀ k, k ≤ ps.length → (rpL ps k).length = k ∧ ∀ i (h : i < ps.length), i < k → (rpL ps k)[i]? = some (neM ps ps[i], foeM ps i ps[i])
  | 0, _ => ⟨rfl, fun i _ h => by omega⟩
  | k + 1, hk => by
    obtain ⟨h1, h2⟩ := rpL_at ps k (by omega)
    rw [rpL, List.getElem?_eq_getElem (show k < ps.length by omega)]
    refine ⟨by simp [h1], fun i h hi => ?_⟩
    simp only
    by_cases e : i < k
    · rw [List.getElem?_append_left (by omega)]; exact h2 i h e
    · have : i = k := by omega
      subst this
      rw [List.getElem?_append_right (by omega), h1]
      simp
def stL (ps : List Pk) : Nat → List Nat
  | 0 => []
  | k + 1 => match ps[k]? with
    | some p => if p.m = 2 then stL ps k ++ [oneN k] else if p.m = 3 then stL ps k ++ [wnM ps p.n] else stL ps k
    | none => stL ps k
theorem stL_len (ps : List Pk) : ∀ k, (stL ps k).length ≤ k
  | 0 => by simp [stL]
  | k + 1 => by
    have := stL_len ps k
    rw [stL]
    repeat' split
    all_goals simp
    all_goals omega
theorem stL_lt (ps : List Pk) : ∀ k, ∀ x ∈ stL ps k, x < 2 ^ 20
  | 0 => by simp [stL]
  | k + 1 => by
    have ih := stL_lt ps k
    intro x hx
    rw [stL] at hx
    split at hx
    · split at hx
      · rcases List.mem_append.1 hx with h | h
        · exact ih x h
        · rw [List.mem_singleton.1 h]; exact oneN_lt k
      · split at hx
        · rcases List.mem_append.1 hx with h | h
          · exact ih x h
          · rw [List.mem_singleton.1 h]; exact mskN_lt _ _
        · exact ih x hx
    · exact ih x hx
def goodM (ps : List Pk) (c : Cn) : Nat := nbM ps (wnM ps c.n) (grN ps (wnM ps c.n &&& nowM ps) ps.length) &&& fitM ps c
def upP (ps : List Pk) (c : Cn) : Nat × Nat := (wnM ps c.n, goodM ps c)
/-- What the rules ask, in sets. -/
structure Ru where
  packs : List Rp
  stay : List Nat
  ins : List Nat
  rem : Nat
  upg : List (Nat × Nat)
def ruM (d : Dc) : Ru := ⟨rpL d.packs d.packs.length, stL d.packs d.packs.length, d.ins.map (fitM d.packs), faM d.packs d.rem, d.upg.map (upP d.packs)⟩

def emB (l : List Nat) (p : Nat) : Bool := l.all fun x => (x &&& p) != 0
/-- From k on, f of them: all. -/
def alF (g : Nat → Bool) : Nat → Nat → Bool
  | 0, _ => true
  | f + 1, k => g k && alF g f (k + 1)
theorem alF_iff (g : Nat → Bool) : ∀ f k, alF g f k = true ↔ ∀ i, k ≤ i → i < k + f → g i = true
  | 0, k => by simp [alF]; intro i h1 h2; omega
  | f + 1, k => by
    rw [alF, Bool.and_eq_true, alF_iff g f (k + 1)]
    constructor
    · rintro ⟨h1, h2⟩ i hk hi
      by_cases e : i = k
      · rw [e]; exact h1
      · exact h2 i (by omega) (by omega)
    · intro h
      exact ⟨h k (Nat.le_refl _) (by omega), fun i h1 h2 => h i (by omega) (by omega)⟩
def neAt (l : List Rp) (i : Nat) : List Nat := match l[i]? with | some q => q.1 | none => []
def foAt (l : List Rp) (i : Nat) : Nat := match l[i]? with | some q => q.2 | none => 0
def nm1 (l : List Rp) (s p i : Nat) : Bool := !(hasN s i && !emB (neAt l i) p)
def nx1 (l : List Rp) (s i : Nat) : Bool := !(hasN s i && ((foAt l i &&& s) != 0))
def nmM (l : List Rp) (s p : Nat) : Bool := alF (nm1 l s p) l.length 0
def ncM (l : List Rp) (s : Nat) : Bool := alF (nx1 l s) l.length 0
/-- Two or more. -/
def sevB (x : Nat) : Bool := (x &&& ((x + 4294967295) % 4294967296)) != 0
def ug1 (s p : Nat) (u : Nat × Nat) : Bool := !(sevB (u.1 &&& s) || (adN (u.1 &&& s) u.2 != 0) || ((u.2 &&& p) == 0))
def fm6 (R : Ru) (s p : Nat) : Nat := if R.upg.all (ug1 s p) then 0 else 6
def fm5 (R : Ru) (s p : Nat) : Nat := if (R.rem &&& s) = 0 then fm6 R s p else 5
def fm4 (R : Ru) (s p : Nat) : Nat := if emB R.ins p then fm5 R s p else 4
def fm3 (R : Ru) (s p : Nat) : Nat := if emB R.stay p then fm4 R s p else 3
def fm2 (R : Ru) (s p : Nat) : Nat := if ncM R.packs s then fm3 R s p else 2
def fbM (R : Ru) (s p : Nat) : Nat := if nmM R.packs s p then fm2 R s p else 1

/-- What is asked for, and the next to decide on. -/
def fuN : List Nat → Nat → Nat
  | [], _ => 0
  | x :: l, s => if (x &&& s) = 0 then x else fuN l s
def nedF (l : List Rp) (s : Nat) : Nat → Nat → Nat
  | 0, _ => 0
  | f + 1, k => if hasN s k then (if fuN (neAt l k) s ≠ 0 then fuN (neAt l k) s else nedF l s f (k + 1)) else nedF l s f (k + 1)
def ugN : List (Nat × Nat) → Nat → Nat
  | [], _ => 0
  | u :: l, s => if (u.2 &&& s) = 0 then u.2 else ugN l s
def asN (R : Ru) (s : Nat) : Nat :=
  if nedF R.packs s R.packs.length 0 ≠ 0 then nedF R.packs s R.packs.length 0
  else if fuN R.stay s ≠ 0 then fuN R.stay s
  else if fuN R.ins s ≠ 0 then fuN R.ins s
  else ugN R.upg s
def fiF (o : Nat) : Nat → Nat → Nat
  | 0, k => k
  | f + 1, k => if hasN o k then k else fiF o f (k + 1)
def opnM (R : Ru) (s p : Nat) : Nat := if (asN R s &&& p) = 0 then adN p s else asN R s &&& p
def nxM (R : Ru) (s p : Nat) : Nat := fiF (opnM R s p) R.packs.length 0

/-- What the criteria look at of a name: all, those of now, the latest. -/
structure Nm where
  a : Nat
  w : Nat
  l : Nat
def nm0 (ps : List Pk) (b : Nat) : Nm := ⟨wnM ps b, wnM ps b &&& nowM ps, nbM ps (wnM ps b) (grN ps (wnM ps b) ps.length)⟩
def nmL (ps : List Pk) : Nat → List Nm
  | 0 => []
  | k + 1 => if wnM ps (97 + k) = 0 then nmL ps k else nmL ps k ++ [nm0 ps (97 + k)]
theorem nmL_len (ps : List Pk) : ∀ k, (nmL ps k).length ≤ k
  | 0 => by simp [nmL]
  | k + 1 => by
    have := nmL_len ps k
    rw [nmL]
    split
    · omega
    · simp; omega
def alwB (c s p : Nat) (n : Nm) : Bool :=
  if c = 114 then (n.w != 0) && ((n.a &&& p) == 0)
  else if c = 110 then (n.w == 0) && ((n.a &&& s) != 0)
  else if c = 99 then (adN (n.a &&& s) n.w != 0) || (adN n.w (n.a &&& p) != 0)
  else if c = 117 then ((n.a &&& s) != 0) && (((n.a &&& p) &&& n.l) == 0)
  else false
def somB (c s p : Nat) (n : Nm) : Bool :=
  if c = 114 then (n.w != 0) && ((n.a &&& s) == 0)
  else if c = 110 then (n.w == 0) && ((n.a &&& p) != 0)
  else if c = 99 then ((n.a &&& s) != n.w) || ((n.a &&& p) != n.w)
  else if c = 117 then (((n.a &&& s) &&& n.l) == 0) && (adN (n.a &&& p) n.l != 0)
  else false
def fewN (c : Nat) (ns : List Nm) (s p : Nat) : Nat := ns.countP (alwB c s p)
def mostN (c : Nat) (ns : List Nm) (s p : Nat) : Nat := ns.countP (somB c s p)
/-- A criterion: whether many are wished for, and its letter. -/
abbrev Cr := Bool × Nat
def hlB (l : List Cr) (c : Nat) : Bool := l.any fun x => x.2 == c
def tl1 (a : List Cr) (c : Cr) : List Cr := if hlB a c.2 then a else a ++ [c]
def tlL (l : List Cr) : List Cr := l.foldl tl1 []
def cs1 (ns : List Nm) (s p : Nat) (a : Int) (c : Cr) : Int := if c.1 then a * 21 - (mostN c.2 ns s p : Nat) else a * 21 + (fewN c.2 ns s p : Nat)
def csN (cs : List Cr) (ns : List Nm) (s p : Nat) : Int := cs.foldl (cs1 ns s p) 0
/-- What came of a search. -/
structure An where
  f : Bool
  p : Nat
  c : Int
def srcM (R : Ru) (ns : List Nm) (cs : List Cr) : Nat → Nat → Nat → An → An
  | 0, _, _, b => b
  | f + 1, s, p, b =>
    if fbM R s p ≠ 0 then b
    else if b.f = true ∧ b.c ≤ csN cs ns s p then b
    else if R.packs.length ≤ nxM R s p then ⟨true, s, csN cs ns s p⟩
    else srcM R ns cs f s (adN p (oneN (nxM R s p))) (srcM R ns cs f (s ||| oneN (nxM R s p)) (adN p (foAt R.packs (nxM R s p))) b)
/-- The criteria of a text. -/
def rdK : List UInt8 → Option (List Cr)
  | a :: b :: r => if sgnB a.toNat && letB b.toNat then (rdK r).map ((a.toNat == 43, b.toNat) :: ·) else none
  | _ => some []
def crK (C : List UInt8) : Option (List Cr) := if C.length = 0 then none else if 8 < C.length then none else if C.length % 2 = 0 then rdK C else none
/-- The set of a text. -/
def rdS (ps : List Pk) : Nat → List UInt8 → List UInt8 → Option Nat
  | acc, last, a :: b :: r => if nbT ps a.toNat b.toNat < ps.length ∧ gtB [a, b] last = true then rdS ps (acc ||| oneN (nbT ps a.toNat b.toNat)) [a, b] r else none
  | acc, _, _ => some acc
def prS (ps : List Pk) (P : List UInt8) : Option Nat := if 800 < P.length then none else if P.length % 2 = 0 then rdS ps 0 [] P else none
/-- The text of a set. -/
def tx1 (ps : List Pk) (S a v : Nat) : List UInt8 := if hasN S (nbT ps a v) then [b8 a, b8 v] else []
def txV (ps : List Pk) (S a : Nat) : Nat → List UInt8
  | 0 => []
  | k + 1 => txV ps S a k ++ tx1 ps S a (49 + k)
def txN (ps : List Pk) (S : Nat) : Nat → List UInt8
  | 0 => []
  | k + 1 => txN ps S k ++ txV ps S (97 + k) 9
def anM (d : Dc) (cs : List Cr) : An := srcM (ruM d) (nmL d.packs 26) (tlL cs) (allM d.packs + 1048577) 0 (allM d.packs) ⟨false, 0, 0⟩
def chE (t C : List UInt8) : Nat := if rdE t = 0 then (match crK C with | some cs => if (anM (dcV t) cs).f then 0 else 7 | none => 6) else rdE t
def chT (t C : List UInt8) : List UInt8 := if rdE t = 0 then (match crK C with | some cs => if (anM (dcV t) cs).f then txN (dcV t).packs (anM (dcV t) cs).p 26 else [] | none => []) else []

end Go.Proofs.YtenbnmbbfeekpaaDoor

/-
  What the sets say of a pick is what its packages say: the rules. Plain mathematics.
-/
namespace Go.Proofs.YtenbnmbbfeekpaaDoor

/-- The set of a list of packages. -/
def Mk (ps L : List Pk) (S : Nat) : Prop := ∀ i, S.testBit i = true ↔ ∃ h : i < ps.length, ps[i] ∈ L

theorem nd_idx {ps : List Pk} (hn : ps.Nodup) {i j : Nat} (hi : i < ps.length) (hj : j < ps.length) (e : ps[i] = ps[j]) : i = j := by
  have hp := List.pairwise_iff_getElem.1 hn
  rcases Nat.lt_trichotomy i j with h | h | h
  · exact absurd e (hp i j hi hj h)
  · exact h
  · exact absurd e.symm (hp j i hj hi h)
theorem fit_test {ps : List Pk} (hl : ps.length ≤ 20) (f : Pk → Bool) (i : Nat) : (mskN (atB f ps) ps.length).testBit i = true ↔ ∃ h : i < ps.length, f ps[i] = true := by
  rw [mskN_test, atB_iff]
  constructor
  · rintro ⟨_, _, h⟩; exact h
  · rintro ⟨h, g⟩; exact ⟨h, by omega, h, g⟩
theorem msk_any {ps L : List Pk} {S : Nat} (hl : ps.length ≤ 20) (hm : Mk ps L S) (hs : ∀ p ∈ L, p ∈ ps) (f : Pk → Bool) : ((mskN (atB f ps) ps.length &&& S) != 0) = L.any f := by
  rw [Bool.eq_iff_iff, bne_iff_ne, and_ne_iff, List.any_eq_true]
  constructor
  · rintro ⟨i, h1, h2⟩
    obtain ⟨hi, hf⟩ := (fit_test hl f i).1 h1
    obtain ⟨_, hL⟩ := (hm i).1 h2
    exact ⟨ps[i], hL, hf⟩
  · rintro ⟨p, hp, hf⟩
    obtain ⟨i, hi, rfl⟩ := List.getElem_of_mem (hs p hp)
    exact ⟨i, (fit_test hl f i).2 ⟨hi, hf⟩, (hm i).2 ⟨hi, hp⟩⟩
theorem fit_any {ps L : List Pk} {S : Nat} (hl : ps.length ≤ 20) (hm : Mk ps L S) (hs : ∀ p ∈ L, p ∈ ps) (c : Cn) : ((fitM ps c &&& S) != 0) = fdB L c := msk_any hl hm hs _
theorem fa_any {ps L : List Pk} {S : Nat} (hl : ps.length ≤ 20) (hm : Mk ps L S) (hs : ∀ p ∈ L, p ∈ ps) (l : List Cn) : ((faM ps l &&& S) != 0) = ndB L l := by
  unfold ndB
  rw [Bool.eq_iff_iff, bne_iff_ne, and_ne_iff, List.any_eq_true]
  constructor
  · rintro ⟨i, h1, h2⟩
    obtain ⟨c, hc, h3⟩ := (faM_test ps l i).1 h1
    refine ⟨c, hc, ?_⟩
    rw [← fit_any hl hm hs c, bne_iff_ne, and_ne_iff]
    exact ⟨i, h3, h2⟩
  · rintro ⟨c, hc, h⟩
    rw [← fit_any hl hm hs c, bne_iff_ne, and_ne_iff] at h
    obtain ⟨i, h1, h2⟩ := h
    exact ⟨i, (faM_test ps l i).2 ⟨c, hc, h1⟩, h2⟩
theorem has_mk {ps L : List Pk} {S : Nat} (hl : ps.length ≤ 20) (hm : Mk ps L S) (i : Nat) : hasN S i = true ↔ ∃ h : i < ps.length, ps[i] ∈ L := by
  rw [hasN_iff, hm i]
  constructor
  · rintro ⟨_, h⟩; exact h
  · rintro ⟨h, g⟩; exact ⟨by omega, h, g⟩
theorem ne_at {ps : List Pk} {i : Nat} (h : i < ps.length) : neAt (rpL ps ps.length) i = neM ps ps[i] := by
  unfold neAt
  rw [(rpL_at ps ps.length (Nat.le_refl _)).2 i h h]
theorem fo_at {ps : List Pk} {i : Nat} (h : i < ps.length) : foAt (rpL ps ps.length) i = foeM ps i ps[i] := by
  unfold foAt
  rw [(rpL_at ps ps.length (Nat.le_refl _)).2 i h h]
theorem rp_len (ps : List Pk) : (rpL ps ps.length).length = ps.length := (rpL_at ps ps.length (Nat.le_refl _)).1
theorem em_ne {ps L : List Pk} {S : Nat} (hl : ps.length ≤ 20) (hm : Mk ps L S) (hs : ∀ p ∈ L, p ∈ ps) (p : Pk) : emB (neM ps p) S = nmetB L p.needs := by
  unfold emB neM nmetB
  rw [List.all_map]
  refine all_cong fun n _ => ?_
  exact fa_any hl hm hs n
theorem rule1_same {ps L : List Pk} {S : Nat} (hl : ps.length ≤ 20) (hm : Mk ps L S) (hs : ∀ p ∈ L, p ∈ ps) : nmM (rpL ps ps.length) S S = L.all (fun p => nmetB L p.needs) := by
  unfold nmM
  rw [Bool.eq_iff_iff, alF_iff, List.all_eq_true, rp_len]
  constructor
  · intro h p hp
    obtain ⟨i, hi, rfl⟩ := List.getElem_of_mem (hs p hp)
    have := h i (Nat.zero_le _) (by omega)
    unfold nm1 at this
    rw [ne_at hi, em_ne hl hm hs, (has_mk hl hm i).2 ⟨hi, hp⟩] at this
    simpa using this
  · intro h i _ hi
    have hi' : i < ps.length := by omega
    unfold nm1
    rw [ne_at hi', em_ne hl hm hs]
    cases hh : hasN S i with
    | false => rfl
    | true =>
      obtain ⟨_, hL⟩ := (has_mk hl hm i).1 hh
      rw [h _ hL]
      rfl
theorem foe_test {ps : List Pk} (hl : ps.length ≤ 20) {i j : Nat} (hi : i < ps.length) : (foeM ps i ps[i]).testBit j = true ↔ j ≠ i ∧ ∃ h : j < ps.length, (ps[i].conf.any (fitB ps[j]) = true ∨ ps[j].conf.any (fitB ps[i]) = true) := by
  unfold foeM
  rw [adN_test, Bool.and_eq_true, opF_test, Bool.not_eq_true', faM_test]
  have h1 : (oneN i).testBit j = false ↔ j ≠ i := by
    rw [← Bool.not_eq_true, oneN_test]
    constructor
    · intro h e; exact h ⟨by omega, e.symm⟩
    · rintro h ⟨_, e⟩; exact h e.symm
  rw [h1]
  constructor
  · rintro ⟨h | ⟨h2, h3, h4⟩, hne⟩
    · obtain ⟨c, hc, h⟩ := h
      obtain ⟨hj, hf⟩ := (fit_test hl (fun p => fitB p c) j).1 h
      exact ⟨hne, hj, Or.inl (List.any_eq_true.2 ⟨c, hc, hf⟩)⟩
    · unfold cnAt at h4
      rw [List.getElem?_eq_getElem h2] at h4
      exact ⟨hne, h2, Or.inr h4⟩
  · rintro ⟨hne, hj, h | h⟩
    · obtain ⟨c, hc, hf⟩ := List.any_eq_true.1 h
      exact ⟨Or.inl ⟨c, hc, (fit_test hl (fun p => fitB p c) j).2 ⟨hj, hf⟩⟩, hne⟩
    · refine ⟨Or.inr ⟨hj, by omega, ?_⟩, hne⟩
      unfold cnAt
      rw [List.getElem?_eq_getElem hj]
      exact h
theorem ncB_iff {L : List Pk} (hn : L.Nodup) : ncB L = true ↔ ∀ p ∈ L, ∀ q ∈ L, q ≠ p → p.conf.any (fitB q) = false := by
  unfold ncB
  rw [nc_iff (L.length + 1) 0 (by omega)]
  constructor
  · intro h p hp q hq hne
    obtain ⟨i, hi, rfl⟩ := List.getElem_of_mem hp
    have h1 := h i hi (Nat.zero_le _)
    rw [List.any_eq_false]
    intro c hc hf
    have h2 := List.all_eq_true.1 h1 c hc
    unfold nc1 at h2
    rw [Bool.not_eq_true', Bool.or_eq_false_iff] at h2
    unfold fdB at h2
    rcases (nd_apart hn hi q).2 ⟨hq, hne⟩ with h3 | h3
    · have := List.any_eq_false.1 h2.1 q h3
      exact this hf
    · have := List.any_eq_false.1 h2.2 q h3
      exact this hf
  · intro h i hi _
    rw [List.all_eq_true]
    intro c hc
    unfold nc1 fdB
    rw [Bool.not_eq_true', Bool.or_eq_false_iff]
    constructor
    · rw [List.any_eq_false]
      intro q hq hf
      obtain ⟨h1, h2⟩ := (nd_apart hn hi q).1 (Or.inl hq)
      exact List.any_eq_false.1 (h _ (List.getElem_mem hi) q h1 h2) c hc hf
    · rw [List.any_eq_false]
      intro q hq hf
      obtain ⟨h1, h2⟩ := (nd_apart hn hi q).1 (Or.inr hq)
      exact List.any_eq_false.1 (h _ (List.getElem_mem hi) q h1 h2) c hc hf
theorem rule2_same {ps L : List Pk} {S : Nat} (hl : ps.length ≤ 20) (hnp : ps.Nodup) (hm : Mk ps L S) (hs : ∀ p ∈ L, p ∈ ps) (hn : L.Nodup) : ncM (rpL ps ps.length) S = ncB L := by
  unfold ncM
  rw [Bool.eq_iff_iff, alF_iff, ncB_iff hn, rp_len]
  have key : ∀ i (hi : i < ps.length), nx1 (rpL ps ps.length) S i = true ↔ (ps[i] ∈ L → ∀ j (hj : j < ps.length), ps[j] ∈ L → j ≠ i → ps[i].conf.any (fitB ps[j]) = false ∧ ps[j].conf.any (fitB ps[i]) = false) := by
    intro i hi
    unfold nx1
    rw [fo_at hi, Bool.not_eq_true']
    constructor
    · intro h hL j hj hjL hne
      rw [(has_mk hl hm i).2 ⟨hi, hL⟩, Bool.true_and, bne_eq_false_iff_eq, and_zero_iff] at h
      constructor
      · cases e : ps[i].conf.any (fitB ps[j]) with
        | false => rfl
        | true =>
          have := h j ((foe_test hl hi).2 ⟨hne, hj, Or.inl e⟩)
          rw [(hm j).2 ⟨hj, hjL⟩] at this
          cases this
      · cases e : ps[j].conf.any (fitB ps[i]) with
        | false => rfl
        | true =>
          have := h j ((foe_test hl hi).2 ⟨hne, hj, Or.inr e⟩)
          rw [(hm j).2 ⟨hj, hjL⟩] at this
          cases this
    · intro h
      cases hh : hasN S i with
      | false => rfl
      | true =>
        obtain ⟨_, hL⟩ := (has_mk hl hm i).1 hh
        rw [Bool.true_and, bne_eq_false_iff_eq, and_zero_iff]
        intro j hj
        obtain ⟨hne, hj', hor⟩ := (foe_test hl hi).1 hj
        cases e : S.testBit j with
        | false => rfl
        | true =>
          obtain ⟨_, hjL⟩ := (hm j).1 e
          obtain ⟨a1, a2⟩ := h hL j hj' hjL hne
          rcases hor with g | g
          · rw [a1] at g; cases g
          · rw [a2] at g; cases g
  constructor
  · intro h p hp q hq hne
    obtain ⟨i, hi, rfl⟩ := List.getElem_of_mem (hs p hp)
    obtain ⟨j, hj, rfl⟩ := List.getElem_of_mem (hs q hq)
    have hij : j ≠ i := by intro e; subst e; exact hne rfl
    exact ((key i hi).1 (h i (Nat.zero_le _) (by omega)) hp j hj hq hij).1
  · intro h i _ hi
    have hi' : i < ps.length := by omega
    refine (key i hi').2 fun hL j hj hjL hne => ?_
    have hne' : ps[j] ≠ ps[i] := fun e => hne (nd_idx hnp hj hi' e)
    exact ⟨h _ hL _ hjL hne', h _ hjL _ hL (fun e => hne' e.symm)⟩
theorem em_app (l : List Nat) (x S : Nat) : emB (l ++ [x]) S = (emB l S && ((x &&& S) != 0)) := by
  unfold emB
  rw [List.all_append]
  simp
theorem one_mk {ps L : List Pk} {S : Nat} (hl : ps.length ≤ 20) (ha : Ap ps) (hm : Mk ps L S) (hs : ∀ p ∈ L, p ∈ ps) {i : Nat} (hi : i < ps.length) : ((oneN i &&& S) != 0) = amB L ps[i].n ps[i].v := by
  unfold amB
  rw [Bool.eq_iff_iff, bne_iff_ne, and_ne_iff, List.any_eq_true]
  constructor
  · rintro ⟨j, h1, h2⟩
    obtain ⟨_, rfl⟩ := (oneN_test i j).1 h1
    obtain ⟨_, hL⟩ := (hm i).1 h2
    exact ⟨ps[i], hL, by simp⟩
  · rintro ⟨q, hq, e⟩
    simp only [Bool.and_eq_true, beq_iff_eq] at e
    have := ha.ap q (hs q hq) ps[i] (List.getElem_mem hi) e.1 e.2
    subst this
    exact ⟨i, (oneN_test i i).2 ⟨by omega, rfl⟩, (hm i).2 ⟨hi, hq⟩⟩
theorem rule3_same {ps L : List Pk} {S : Nat} (hl : ps.length ≤ 20) (ha : Ap ps) (hm : Mk ps L S) (hs : ∀ p ∈ L, p ∈ ps) : ∀ k, k ≤ ps.length → emB (stL ps k) S = (ps.take k).all (mk1 L)
  | 0, _ => by simp [stL, emB]
  | k + 1, hk => by
    have hlt : k < ps.length := by omega
    have ih := rule3_same hl ha hm hs k (by omega)
    rw [stL, List.getElem?_eq_getElem hlt, List.take_succ_eq_append_getElem hlt, List.all_append, ← ih]
    simp only [List.all_cons, List.all_nil, Bool.and_true]
    unfold mk1
    split
    · rename_i h2
      rw [em_app, one_mk hl ha hm hs hlt, h2]
      simp
    · rename_i h2
      have e2 : (ps[k].m == 2) = false := by rw [beq_eq_false_iff_ne]; exact h2
      split
      · rename_i h3
        have e3 : ((wnM ps ps[k].n &&& S) != 0) = hnB L ps[k].n := msk_any hl hm hs _
        rw [em_app, e3, h3]
        simp
      · rename_i h3
        have e3 : (ps[k].m == 3) = false := by rw [beq_eq_false_iff_ne]; exact h3
        rw [e2, e3]
        simp
/-- The greatest version. -/
theorem gr_props (ps : List Pk) (S : Nat) : ∀ k, (∀ i, i < k → hasN S i = true → vAt ps i ≤ grN ps S k) ∧ (grN ps S k = 0 ∨ ∃ i, i < k ∧ hasN S i = true ∧ grN ps S k = vAt ps i)
  | 0 => ⟨fun i h => by omega, Or.inl rfl⟩
  | k + 1 => by
    obtain ⟨h1, h2⟩ := gr_props ps S k
    rw [grN]
    split
    · rename_i h
      rw [Bool.and_eq_true, decide_eq_true_eq] at h
      refine ⟨fun i hi hh => ?_, Or.inr ⟨k, by omega, h.1, rfl⟩⟩
      by_cases e : i = k
      · rw [e]; exact Nat.le_refl _
      · exact Nat.le_of_lt (Nat.lt_of_le_of_lt (h1 i (by omega) hh) h.2)
    · rename_i h
      refine ⟨fun i hi hh => ?_, ?_⟩
      · by_cases e : i = k
        · subst e
          rw [hh, Bool.true_and, decide_eq_true_eq] at h
          omega
        · exact h1 i (by omega) hh
      · rcases h2 with h2 | ⟨i, hi, h2⟩
        · exact Or.inl h2
        · exact Or.inr ⟨i, by omega, h2⟩
theorem v_at {ps : List Pk} {i : Nat} (h : i < ps.length) : vAt ps i = ps[i].v := by unfold vAt; rw [List.getElem?_eq_getElem h]
theorem gr_same {ps Q : List Pk} {S a : Nat} (hs : ∀ p ∈ Q, p ∈ ps) (hS : ∀ i, hasN S i = true ↔ ∃ h : i < ps.length, ps[i] ∈ Q ∧ ps[i].n = a) : grN ps S ps.length = gtT Q a := by
  obtain ⟨h1, h2⟩ := gr_props ps S ps.length
  obtain ⟨_, g1, g2⟩ := gt_props a Q 0
  unfold gtT
  apply Nat.le_antisymm
  · rcases h2 with h2 | ⟨i, hi, hh, h2⟩
    · omega
    · obtain ⟨hi', hq, hn⟩ := (hS i).1 hh
      rw [h2, v_at hi']
      exact g1 _ hq hn
  · rcases g2 with g2 | ⟨p, hp, hn, g2⟩
    · omega
    · obtain ⟨i, hi, rfl⟩ := List.getElem_of_mem (hs p hp)
      have := h1 i hi ((hS i).2 ⟨hi, hp, hn⟩)
      rw [v_at hi] at this
      omega
theorem wn_test {ps : List Pk} (hl : ps.length ≤ 20) (a i : Nat) : (wnM ps a).testBit i = true ↔ ∃ h : i < ps.length, ps[i].n = a := by
  unfold wnM
  rw [fit_test hl]
  constructor
  · rintro ⟨h, e⟩; exact ⟨h, by simpa using e⟩
  · rintro ⟨h, e⟩; exact ⟨h, by simpa using e⟩
theorem now_test {ps : List Pk} (hl : ps.length ≤ 20) (i : Nat) : (nowM ps).testBit i = true ↔ ∃ h : i < ps.length, ps[i] ∈ nowL ps := by
  unfold nowM
  rw [fit_test hl]
  unfold nowL
  constructor
  · rintro ⟨h, e⟩; exact ⟨h, List.mem_filter.2 ⟨List.getElem_mem h, e⟩⟩
  · rintro ⟨h, e⟩; exact ⟨h, (List.mem_filter.1 e).2⟩
theorem now_mk {ps : List Pk} (hl : ps.length ≤ 20) : Mk ps (nowL ps) (nowM ps) := now_test hl
theorem now_sub (ps : List Pk) : ∀ p ∈ nowL ps, p ∈ ps := fun _ hp => (List.mem_filter.1 hp).1
theorem all_mk {ps : List Pk} : ∀ p ∈ ps, p ∈ ps := fun _ h => h
theorem gr_now {ps : List Pk} (hl : ps.length ≤ 20) (a : Nat) : grN ps (wnM ps a &&& nowM ps) ps.length = gtT (nowL ps) a := by
  refine gr_same (now_sub ps) fun i => ?_
  rw [hasN_iff, Nat.testBit_and, Bool.and_eq_true, wn_test hl, now_test hl]
  constructor
  · rintro ⟨_, ⟨h, e⟩, ⟨_, g⟩⟩; exact ⟨h, g, e⟩
  · rintro ⟨h, g, e⟩; exact ⟨by omega, ⟨h, e⟩, ⟨h, g⟩⟩
theorem gr_all {ps : List Pk} (hl : ps.length ≤ 20) (a : Nat) : grN ps (wnM ps a) ps.length = gtT ps a := by
  refine gr_same all_mk fun i => ?_
  rw [hasN_iff, wn_test hl]
  constructor
  · rintro ⟨_, ⟨h, e⟩⟩; exact ⟨h, List.getElem_mem h, e⟩
  · rintro ⟨h, _, e⟩; exact ⟨by omega, ⟨h, e⟩⟩
theorem nb_test {ps : List Pk} (hl : ps.length ≤ 20) (S v i : Nat) : (nbM ps S v).testBit i = true ↔ ∃ h : i < ps.length, S.testBit i = true ∧ v ≤ ps[i].v := by
  unfold nbM
  rw [mskN_test, Bool.and_eq_true, hasN_iff, atB_iff]
  constructor
  · rintro ⟨_, _, ⟨_, h1⟩, ⟨h2, h3⟩⟩; exact ⟨h2, h1, by simpa using h3⟩
  · rintro ⟨h, h1, h2⟩; exact ⟨h, by omega, ⟨by omega, h1⟩, ⟨h, by simpa using h2⟩⟩
theorem good_test {ps : List Pk} (hl : ps.length ≤ 20) (c : Cn) (i : Nat) : (goodM ps c).testBit i = true ↔ ∃ h : i < ps.length, ps[i].n = c.n ∧ gtT (nowL ps) c.n ≤ ps[i].v ∧ fitB ps[i] c = true := by
  unfold goodM
  rw [Nat.testBit_and, Bool.and_eq_true, gr_now hl, nb_test hl, wn_test hl]
  unfold fitM
  rw [fit_test hl]
  constructor
  · rintro ⟨⟨h, ⟨_, h1⟩, h2⟩, ⟨_, h3⟩⟩; exact ⟨h, h1, h2, h3⟩
  · rintro ⟨h, h1, h2, h3⟩; exact ⟨⟨h, ⟨h, h1⟩, h2⟩, ⟨h, h3⟩⟩
theorem sev_iff {x : Nat} (hx : x < 2 ^ 20) : sevB x = false ↔ ∀ i j, x.testBit i = true → x.testBit j = true → i = j := by
  unfold sevB
  by_cases h0 : x = 0
  · subst h0
    constructor
    · intro _ i j h; rw [Nat.zero_testBit] at h; cases h
    · intro _; simp
  · obtain ⟨a, h1, h2⟩ := low_bit x h0
    rw [show (x + 4294967295) % 4294967296 = x - 1 by omega, bne_eq_false_iff_eq, and_zero_iff]
    constructor
    · intro h i j hi hj
      have e1 := h2 i
      have e2 := h2 j
      rw [hi, h i hi] at e1
      rw [hj, h j hj] at e2
      simp at e1 e2
      omega
    · intro h i hi
      have := h i a hi h1
      subst this
      have e := h2 i
      rw [hi] at e
      simpa using e
theorem one_list {α : Type} {l : List α} (hn : l.Nodup) {q : α} (hq : q ∈ l) (h : ∀ r ∈ l, r = q) : l = [q] := by
  match l, hn, hq, h with
  | [a], _, _, h => rw [h a (by simp)]
  | a :: b :: r, hn, _, h =>
    exfalso
    have h1 := h a (by simp)
    have h2 := h b (by simp)
    rw [List.nodup_cons] at hn
    exact hn.1 (by rw [h1, ← h2]; simp)
theorem and_lt' {a b : Nat} (h : a < 2 ^ 20) : a &&& b < 2 ^ 20 := and_lt h
theorem rule6_same {ps L : List Pk} {S : Nat} (hl : ps.length ≤ 20) (hnp : ps.Nodup) (hm : Mk ps L S) (hs : ∀ p ∈ L, p ∈ ps) (hn : L.Nodup) (c : Cn) : ug1 S S (upP ps c) = up1 (nowL ps) L c := by
  have hX : ∀ i, (wnM ps c.n &&& S).testBit i = true ↔ ∃ h : i < ps.length, ps[i] ∈ wnL L c.n := by
    intro i
    rw [Nat.testBit_and, Bool.and_eq_true, wn_test hl, hm i]
    unfold wnL
    constructor
    · rintro ⟨⟨h, e⟩, ⟨_, g⟩⟩; exact ⟨h, List.mem_filter.2 ⟨g, by simpa using e⟩⟩
    · rintro ⟨h, g⟩
      obtain ⟨g1, g2⟩ := List.mem_filter.1 g
      exact ⟨⟨h, by simpa using g2⟩, ⟨h, g1⟩⟩
  have hW : (wnL L c.n).Nodup := List.Nodup.sublist List.filter_sublist hn
  have hWs : ∀ p ∈ wnL L c.n, p ∈ L ∧ p.n = c.n := fun p hp => by
    unfold wnL at hp
    obtain ⟨g1, g2⟩ := List.mem_filter.1 hp
    exact ⟨g1, by simpa using g2⟩
  have hxl : wnM ps c.n &&& S < 2 ^ 20 := and_lt' (mskN_lt _ _)
  unfold up1 ug1 upP
  simp only
  rw [Bool.eq_iff_iff, Bool.not_eq_true', Bool.or_eq_false_iff, Bool.or_eq_false_iff, sev_iff hxl, bne_eq_false_iff_eq, beq_eq_false_iff_ne, and_ne_iff]
  constructor
  · rintro ⟨⟨h1, h2⟩, ⟨i, h3, h4⟩⟩
    obtain ⟨hi, e1, e2, e3⟩ := (good_test hl c i).1 h3
    obtain ⟨_, hL⟩ := (hm i).1 h4
    have hq : ps[i] ∈ wnL L c.n := by unfold wnL; exact List.mem_filter.2 ⟨hL, by simpa using e1⟩
    have : wnL L c.n = [ps[i]] := one_list hW hq fun r hr => by
      obtain ⟨j, hj, rfl⟩ := List.getElem_of_mem (hs r (hWs r hr).1)
      have := h1 i j ((hX i).2 ⟨hi, hq⟩) ((hX j).2 ⟨hj, hr⟩)
      subst this
      rfl
    rw [this]
    unfold upV
    simp only
    rw [e3]
    simp
    exact e2
  · intro h
    match hw : wnL L c.n, h with
    | [q], h =>
      rw [hw] at hX hWs
      unfold upV at h
      rw [Bool.and_eq_true, Bool.not_eq_true', decide_eq_false_iff_not] at h
      obtain ⟨hqL, hqn⟩ := hWs q (by simp)
      obtain ⟨i, hi, rfl⟩ := List.getElem_of_mem (hs q hqL)
      have hg : (goodM ps c).testBit i = true := (good_test hl c i).2 ⟨hi, hqn, by omega, h.2⟩
      have hu : ∀ j, (wnM ps c.n &&& S).testBit j = true → j = i := fun j hj => by
        obtain ⟨hj', g⟩ := (hX j).1 hj
        rw [List.mem_singleton] at g
        exact nd_idx hnp hj' hi g
      refine ⟨⟨fun a b h1 h2 => by rw [hu a h1, hu b h2], ?_⟩, i, hg, (hm i).2 ⟨hi, hqL⟩⟩
      apply Nat.eq_of_testBit_eq
      intro j
      rw [adN_test, Nat.zero_testBit]
      cases e : (wnM ps c.n &&& S).testBit j with
      | false => rfl
      | true =>
        rw [hu j e, hg]
        rfl
/-- The rule that a pick breaks, in sets. -/
theorem fb_same {d : Dc} (hl : d.packs.length ≤ 20) (ha : Ap d.packs) {L : List Pk} {S : Nat} (hm : Mk d.packs L S) (hs : ∀ p ∈ L, p ∈ d.packs) (hn : L.Nodup) : fbM (ruM d) S S = fbN d L := by
  have e1 := rule1_same hl hm hs
  have e2 := rule2_same hl ha.nd hm hs hn
  have e3 := rule3_same hl ha hm hs d.packs.length (Nat.le_refl _)
  rw [List.take_length] at e3
  have e4 : emB (d.ins.map (fitM d.packs)) S = d.ins.all (fdB L) := by
    unfold emB
    rw [List.all_map]
    exact all_cong fun c _ => fit_any hl hm hs c
  have e5 : (faM d.packs d.rem &&& S) = 0 ↔ d.rem.all (fun c => !fdB L c) = true := by
    have h := fa_any hl hm hs d.rem
    rw [List.all_eq_true]
    constructor
    · intro h0 c hc
      rw [h0] at h
      unfold ndB at h
      have := List.any_eq_false.1 h.symm c hc
      simpa using this
    · intro h0
      have : ndB L d.rem = false := by
        unfold ndB
        rw [List.any_eq_false]
        intro c hc
        simpa using h0 c hc
      rw [this, bne_eq_false_iff_eq] at h
      exact h
  have e6 : (d.upg.map (upP d.packs)).all (ug1 S S) = d.upg.all (up1 (nowL d.packs) L) := by
    rw [List.all_map]
    exact all_cong fun c _ => rule6_same hl ha.nd hm hs hn c
  unfold fbM fm2 fm3 fm4 fm5 fm6 fbN fb2 fb3 fb4 fb5 fb6 ruM
  simp only
  rw [e1, e2, e3, e4, e6]
  by_cases h5 : (faM d.packs d.rem &&& S) = 0
  · rw [if_pos h5, if_pos (e5.1 h5)]
  · rw [if_neg h5, if_neg (fun h => h5 (e5.2 h))]

end Go.Proofs.YtenbnmbbfeekpaaDoor

/-
  What the sets say of a pick is what its packages say: scores, and texts read and written. Plain mathematics.
-/
namespace Go.Proofs.YtenbnmbbfeekpaaDoor

theorem wn_any {ps L : List Pk} {S : Nat} (hl : ps.length ≤ 20) (hm : Mk ps L S) (hs : ∀ p ∈ L, p ∈ ps) (a : Nat) : ((wnM ps a &&& S) != 0) = hnB L a := msk_any hl hm hs _
theorem wn_zero {ps : List Pk} (hl : ps.length ≤ 20) (a : Nat) : wnM ps a = 0 ↔ hnB ps a = false := by
  unfold hnB
  constructor
  · intro h
    rw [List.any_eq_false]
    intro p hp e
    obtain ⟨i, hi, rfl⟩ := List.getElem_of_mem hp
    have : (wnM ps a).testBit i = true := (wn_test hl a i).2 ⟨hi, by simpa using e⟩
    rw [h, Nat.zero_testBit] at this
    cases this
  · intro h
    apply Classical.byContradiction
    intro h0
    obtain ⟨i, hi⟩ := ne_zero_bit h0
    obtain ⟨hi', e⟩ := (wn_test hl a i).1 hi
    exact List.any_eq_false.1 h _ (List.getElem_mem hi') (by simpa using e)
theorem bz (x : Nat) : (x == 0) = !(x != 0) := by cases h : (x != 0) <;> simp at h ⊢ <;> exact h
theorem ad_zero (a b : Nat) : adN a b = 0 ↔ ∀ i, a.testBit i = true → b.testBit i = true := by
  constructor
  · intro h i hi
    have : (adN a b).testBit i = false := by rw [h, Nat.zero_testBit]
    rw [adN_test, hi] at this
    simpa using this
  · intro h
    apply Nat.eq_of_testBit_eq
    intro i
    rw [Nat.zero_testBit, adN_test]
    cases e : a.testBit i with
    | false => rfl
    | true => rw [h i e]; rfl
theorem am_iff {ps L : List Pk} (ha : Ap ps) (hs : ∀ p ∈ L, p ∈ ps) {p : Pk} (hp : p ∈ ps) : amB L p.n p.v = true ↔ p ∈ L := by
  unfold amB
  rw [List.any_eq_true]
  constructor
  · rintro ⟨q, hq, e⟩
    simp only [Bool.and_eq_true, beq_iff_eq] at e
    rw [← ha.ap q (hs q hq) p hp e.1 e.2]
    exact hq
  · intro h; exact ⟨p, h, by simp⟩
theorem am_get {L : List Pk} {a u : Nat} (h : amB L a u = true) : ∃ p ∈ L, p.n = a ∧ p.v = u := by
  unfold amB at h
  obtain ⟨q, hq, e⟩ := List.any_eq_true.1 h
  simp only [Bool.and_eq_true, beq_iff_eq] at e
  exact ⟨q, hq, e⟩
theorem chg_mask {ps L : List Pk} {S : Nat} (hl : ps.length ≤ 20) (ha : Ap ps) (hm : Mk ps L S) (hs : ∀ p ∈ L, p ∈ ps) (b : Nat) :
    ((adN (wnM ps b &&& S) (wnM ps b &&& nowM ps) != 0) || (adN (wnM ps b &&& nowM ps) (wnM ps b &&& S) != 0)) = !svB (nowL ps) L b := by
  have key : svB (nowL ps) L b = true ↔ adN (wnM ps b &&& S) (wnM ps b &&& nowM ps) = 0 ∧ adN (wnM ps b &&& nowM ps) (wnM ps b &&& S) = 0 := by
    unfold svB
    rw [sv_iff, ad_zero, ad_zero]
    have t1 : ∀ i, (wnM ps b &&& S).testBit i = true ↔ ∃ h : i < ps.length, ps[i].n = b ∧ ps[i] ∈ L := fun i => by
      rw [Nat.testBit_and, Bool.and_eq_true, wn_test hl, hm i]
      constructor
      · rintro ⟨⟨h, e⟩, ⟨_, g⟩⟩; exact ⟨h, e, g⟩
      · rintro ⟨h, e, g⟩; exact ⟨⟨h, e⟩, ⟨h, g⟩⟩
    have t2 : ∀ i, (wnM ps b &&& nowM ps).testBit i = true ↔ ∃ h : i < ps.length, ps[i].n = b ∧ ps[i] ∈ nowL ps := fun i => by
      rw [Nat.testBit_and, Bool.and_eq_true, wn_test hl, now_test hl]
      constructor
      · rintro ⟨⟨h, e⟩, ⟨_, g⟩⟩; exact ⟨h, e, g⟩
      · rintro ⟨h, e, g⟩; exact ⟨⟨h, e⟩, ⟨h, g⟩⟩
    constructor
    · intro h
      constructor
      · intro i hi
        obtain ⟨hi', e, g⟩ := (t1 i).1 hi
        have hv := ha.v (List.getElem_mem hi')
        have := h ps[i].v (by omega) (by omega)
        rw [← e, (am_iff ha hs (List.getElem_mem hi')).2 g] at this
        exact (t2 i).2 ⟨hi', e, (am_iff ha (now_sub ps) (List.getElem_mem hi')).1 this⟩
      · intro i hi
        obtain ⟨hi', e, g⟩ := (t2 i).1 hi
        have hv := ha.v (List.getElem_mem hi')
        have := h ps[i].v (by omega) (by omega)
        rw [← e, (am_iff ha (now_sub ps) (List.getElem_mem hi')).2 g] at this
        exact (t1 i).2 ⟨hi', e, (am_iff ha hs (List.getElem_mem hi')).1 this.symm⟩
    · rintro ⟨h1, h2⟩ u _ _
      rw [Bool.eq_iff_iff]
      constructor
      · intro h
        obtain ⟨p, hp, e1, e2⟩ := am_get h
        obtain ⟨i, hi, rfl⟩ := List.getElem_of_mem (now_sub ps p hp)
        obtain ⟨_, _, g⟩ := (t1 i).1 (h2 i ((t2 i).2 ⟨hi, e1, hp⟩))
        rw [← e1, ← e2]
        exact (am_iff ha hs (List.getElem_mem hi)).2 g
      · intro h
        obtain ⟨p, hp, e1, e2⟩ := am_get h
        obtain ⟨i, hi, rfl⟩ := List.getElem_of_mem (hs p hp)
        obtain ⟨_, _, g⟩ := (t2 i).1 (h1 i ((t1 i).2 ⟨hi, e1, hp⟩))
        rw [← e1, ← e2]
        exact (am_iff ha (now_sub ps) (List.getElem_mem hi)).2 g
  cases hsv : svB (nowL ps) L b with
  | true =>
    obtain ⟨e1, e2⟩ := key.1 hsv
    rw [e1, e2]
    rfl
  | false =>
    rw [Bool.not_false, Bool.or_eq_true, bne_iff_ne, bne_iff_ne]
    apply Classical.byContradiction
    intro h
    rw [not_or, Decidable.not_not, Decidable.not_not] at h
    rw [key.2 h] at hsv
    cases hsv
theorem old_mask {ps L : List Pk} {S : Nat} (hl : ps.length ≤ 20) (ha : Ap ps) (hm : Mk ps L S) (hs : ∀ p ∈ L, p ∈ ps) (b : Nat) :
    ((((wnM ps b &&& S) &&& nbM ps (wnM ps b) (grN ps (wnM ps b) ps.length)) != 0) = amB L b (gtT ps b)) := by
  rw [gr_all hl, Bool.eq_iff_iff, bne_iff_ne, and_ne_iff]
  obtain ⟨_, g1, _⟩ := gt_props b ps 0
  constructor
  · rintro ⟨i, h1, h2⟩
    rw [Nat.testBit_and, Bool.and_eq_true] at h1
    obtain ⟨hi, e⟩ := (wn_test hl b i).1 h1.1
    obtain ⟨_, hL⟩ := (hm i).1 h1.2
    obtain ⟨_, _, hv⟩ := (nb_test hl _ _ i).1 h2
    have := g1 _ (List.getElem_mem hi) e
    have e2 : ps[i].v = gtT ps b := by unfold gtT at hv ⊢; omega
    rw [← e, ← e2] at *
    exact (am_iff ha hs (List.getElem_mem hi)).2 hL
  · intro h
    obtain ⟨p, hp, e1, e2⟩ := am_get h
    obtain ⟨i, hi, rfl⟩ := List.getElem_of_mem (hs p hp)
    refine ⟨i, ?_, (nb_test hl _ _ i).2 ⟨hi, (wn_test hl b i).2 ⟨hi, e1⟩, by omega⟩⟩
    rw [Nat.testBit_and, Bool.and_eq_true]
    exact ⟨(wn_test hl b i).2 ⟨hi, e1⟩, (hm i).2 ⟨hi, hp⟩⟩
theorem alw_same {ps L : List Pk} {S : Nat} (hl : ps.length ≤ 20) (ha : Ap ps) (hm : Mk ps L S) (hs : ∀ p ∈ L, p ∈ ps) (c b : Nat) : alwB c S S (nm0 ps b) = cnt1 ps (nowL ps) L c b := by
  have w1 := wn_any hl hm hs b
  have w2 := wn_any hl (now_mk hl) (now_sub ps) b
  unfold alwB cnt1 nm0
  simp only
  by_cases h1 : c = 114
  · rw [if_pos h1, if_pos h1, bz, w1, w2]
  · rw [if_neg h1, if_neg h1]
    by_cases h2 : c = 110
    · rw [if_pos h2, if_pos h2, bz, w1, w2, Bool.and_comm]
    · rw [if_neg h2, if_neg h2]
      by_cases h3 : c = 99
      · rw [if_pos h3, if_pos h3]
        exact chg_mask hl ha hm hs b
      · rw [if_neg h3, if_neg h3]
        by_cases h4 : c = 117
        · rw [if_pos h4, if_pos h4, bz, old_mask hl ha hm hs b, w1]
        · rw [if_neg h4, if_neg h4]
theorem cnt_none {ps L : List Pk} (hs : ∀ p ∈ L, p ∈ ps) {b : Nat} (h : hnB ps b = false) (c : Nat) : cnt1 ps (nowL ps) L c b = false := by
  have e1 := hn_sub hs h
  have e2 := hn_sub (now_sub ps) h
  have am0 : ∀ (M : List Pk), hnB M b = false → ∀ u, amB M b u = false := fun M hM u => by
    cases e : amB M b u with
    | false => rfl
    | true =>
      obtain ⟨p, hp, e3, _⟩ := am_get e
      unfold hnB at hM
      exact absurd (by simpa using e3) (List.any_eq_false.1 hM p hp)
  unfold cnt1
  rw [e1, e2]
  have e3 : svB (nowL ps) L b = true := by
    unfold svB
    rw [sv_iff]
    intro u _ _
    rw [am0 _ e1, am0 _ e2]
  rw [e3]
  simp
theorem few_same {ps L : List Pk} {S : Nat} (hl : ps.length ≤ 20) (ha : Ap ps) (hm : Mk ps L S) (hs : ∀ p ∈ L, p ∈ ps) (c : Nat) : ∀ k, fewN c (nmL ps k) S S = scN ps (nowL ps) L c k
  | 0 => rfl
  | k + 1 => by
    have ih := few_same hl ha hm hs c k
    rw [nmL, scN, ← ih]
    split
    · rename_i h
      rw [cnt_none hs ((wn_zero hl _).1 h)]
      rfl
    · unfold fewN
      rw [List.countP_append, ← alw_same hl ha hm hs]
      simp [List.countP_cons]
/-- Many and few are the same for a pick alone. -/
theorem som_alw {ps : List Pk} (c S b : Nat) : somB c S S (nm0 ps b) = alwB c S S (nm0 ps b) := by
  unfold somB alwB nm0
  simp only
  by_cases h1 : c = 114
  · rw [if_pos h1, if_pos h1]
  · rw [if_neg h1, if_neg h1]
    by_cases h2 : c = 110
    · rw [if_pos h2, if_pos h2]
    · rw [if_neg h2, if_neg h2]
      by_cases h3 : c = 99
      · rw [if_pos h3, if_pos h3, Bool.or_self, Bool.eq_iff_iff, bne_iff_ne, Bool.or_eq_true, bne_iff_ne, bne_iff_ne]
        constructor
        · intro h
          apply Classical.byContradiction
          intro g
          rw [not_or, Decidable.not_not, Decidable.not_not] at g
          apply h
          apply Nat.eq_of_testBit_eq
          intro i
          rw [Bool.eq_iff_iff]
          exact ⟨(ad_zero _ _).1 g.1 i, (ad_zero _ _).1 g.2 i⟩
        · rintro h e
          rw [e] at h
          rcases h with h | h
          · exact h ((ad_zero _ _).2 fun _ g => g)
          · exact h ((ad_zero _ _).2 fun _ g => g)
      · rw [if_neg h3, if_neg h3]
        by_cases h4 : c = 117
        · rw [if_pos h4, if_pos h4]
          generalize nbM ps (wnM ps b) (grN ps (wnM ps b) ps.length) = l
          generalize wnM ps b &&& S = x
          rw [Bool.eq_iff_iff, Bool.and_eq_true, Bool.and_eq_true, beq_iff_eq, bne_iff_ne, bne_iff_ne]
          constructor
          · rintro ⟨g1, g2⟩
            refine ⟨?_, g1⟩
            intro e
            rw [e] at g2
            exact g2 ((ad_zero _ _).2 fun i h => by rw [Nat.zero_testBit] at h; cases h)
          · rintro ⟨g1, g2⟩
            refine ⟨g2, ?_⟩
            intro e
            apply g1
            obtain h0 := (ad_zero _ _).1 e
            have h5 := (and_zero_iff _ _).1 g2
            apply Classical.byContradiction
            intro hne
            obtain ⟨i, hi⟩ := ne_zero_bit hne
            have := h5 i hi
            rw [h0 i hi] at this
            cases this
        · rw [if_neg h4, if_neg h4]
theorem nmL_mem {ps : List Pk} : ∀ k, ∀ n ∈ nmL ps k, ∃ b, n = nm0 ps b
  | 0, n, h => by simp [nmL] at h
  | k + 1, n, h => by
    rw [nmL] at h
    split at h
    · exact nmL_mem k n h
    · rcases List.mem_append.1 h with h | h
      · exact nmL_mem k n h
      · exact ⟨_, List.mem_singleton.1 h⟩
theorem most_few {ps : List Pk} (c S k : Nat) : mostN c (nmL ps k) S S = fewN c (nmL ps k) S S := by
  unfold mostN fewN
  refine List.countP_congr fun n hn => ?_
  obtain ⟨b, rfl⟩ := nmL_mem k n hn
  rw [som_alw c S b]
/-- There are no more names than packages. -/
theorem nmL_few {ps : List Pk} (hl : ps.length ≤ 20) : (nmL ps 26).length ≤ ps.length := by
  have h1 : ∀ k, (nmL ps k).length = (((List.range k).map (97 + ·)).filter (fun b => hnB ps b)).length := by
    intro k
    induction k with
    | zero => rfl
    | succ k ih =>
      rw [nmL, List.range_succ, List.map_append, List.filter_append, List.length_append, ← ih]
      by_cases h : wnM ps (97 + k) = 0
      · rw [if_pos h]
        have := (wn_zero hl _).1 h
        simp [this]
      · rw [if_neg h]
        have : hnB ps (97 + k) = true := by
          cases e : hnB ps (97 + k) with
          | true => rfl
          | false => exact absurd ((wn_zero hl _).2 e) h
        simp [this]
  rw [h1 26]
  have h2 := nodup_le (((List.range 26).map (97 + ·)).filter (fun b => hnB ps b)) (ps.map fun p => p.n) (List.Nodup.sublist List.filter_sublist (by decide)) (fun b hb => by
    have := (List.mem_filter.1 hb).2
    unfold hnB at this
    obtain ⟨p, hp, e⟩ := List.any_eq_true.1 this
    exact List.mem_map.2 ⟨p, hp, by simpa using e⟩)
  simpa using h2

/-- The numbers for the letters, of a set. -/
def txQ (ns : List Nm) (S : Nat) (ls : List Nat) : Nat → List UInt8
  | 0 => []
  | m + 1 => (if 0 < m then txQ ns S ls m ++ [44] else txQ ns S ls m) ++ digT (fewN (ls.getD m 0) ns S S)
theorem few_le (c : Nat) (ns : List Nm) (s p : Nat) : fewN c ns s p ≤ ns.length := List.countP_le_length
theorem most_le (c : Nat) (ns : List Nm) (s p : Nat) : mostN c ns s p ≤ ns.length := List.countP_le_length
theorem txQ_len (ns : List Nm) (S : Nat) (ls : List Nat) : ∀ m, (txQ ns S ls m).length ≤ 3 * m
  | 0 => by simp [txQ]
  | m + 1 => by
    have h1 := txQ_len ns S ls m
    have h2 := digT_len (fewN (ls.getD m 0) ns S S)
    rw [txQ, List.length_append]
    split
    · rw [List.length_append, List.length_singleton]; omega
    · omega
theorem txQ_same {ps L : List Pk} {S : Nat} (hl : ps.length ≤ 20) (ha : Ap ps) (hm : Mk ps L S) (hs : ∀ p ∈ L, p ∈ ps) (ls : List Nat) : ∀ m, txQ (nmL ps 26) S ls m = txA ps L ls m
  | 0 => rfl
  | m + 1 => by rw [txQ, txA, txQ_same hl ha hm hs ls m, few_same hl ha hm hs]
/-- The criteria of a text, and their letters. -/
theorem rdK_same : ∀ (n : Nat) (C : List UInt8), C.length ≤ n → rdC C = (rdK C).map (List.map Prod.snd)
  | _, [], _ => rfl
  | _, [c], _ => rfl
  | 0, c :: d :: r, hn => by simp at hn
  | n + 1, c :: d :: r, hn => by
    rw [rdC, rdK, rdK_same n r (by simp at hn; omega)]
    split
    · cases rdK r <;> rfl
    · rfl
theorem crK_same (C : List UInt8) : crL C = (crK C).map (List.map Prod.snd) := by
  unfold crL crK
  repeat' split
  all_goals first | rfl | exact rdK_same _ _ (Nat.le_refl _)
theorem crK_len {C : List UInt8} {cs : List Cr} (h : crK C = some cs) : cs.length ≤ 4 := by
  have h1 := crK_same C
  rw [h] at h1
  have := crL_len h1
  simp at this
  omega
/-- The set of a text that is read. -/
theorem rdS_same {ps : List Pk} (hl : ps.length ≤ 20) : ∀ (n : Nat) (P last : List UInt8) (acc : Nat), P.length ≤ n →
    (rdL ps last P = none → rdS ps acc last P = none) ∧ (∀ L, rdL ps last P = some L → ∃ S, rdS ps acc last P = some S ∧ ∀ i, S.testBit i = true ↔ acc.testBit i = true ∨ ∃ p ∈ L, i = nbT ps p.n p.v)
  | _, [], last, acc, _ => by
    refine ⟨fun h => by simp [rdL] at h, fun L h => ⟨acc, by simp [rdS], fun i => ?_⟩⟩
    simp [rdL] at h
    subst h
    simp
  | _, [c], last, acc, _ => by
    refine ⟨fun h => by simp [rdL] at h, fun L h => ⟨acc, by simp [rdS], fun i => ?_⟩⟩
    simp [rdL] at h
    subst h
    simp
  | 0, c :: d :: r, last, acc, hn => by simp at hn
  | n + 1, c :: d :: r, last, acc, hn => by
    obtain ⟨ih1, ih2⟩ := rdS_same hl n r [c, d] (acc ||| oneN (nbT ps c.toNat d.toNat)) (by simp at hn; omega)
    rw [rdL, rdS]
    rcases Nat.lt_or_ge (nbT ps c.toNat d.toNat) ps.length with hb | hb
    · have hg := List.getElem?_eq_getElem hb
      obtain ⟨_, e1, e2⟩ := nb_get hg
      rw [hg]
      simp only
      cases hgt : gtB [c, d] last with
      | false =>
        rw [if_neg (by simp), if_neg (by simp)]
        exact ⟨fun _ => rfl, fun L h => by cases h⟩
      | true =>
        rw [if_pos rfl, if_pos ⟨hb, rfl⟩]
        refine ⟨fun h => ih1 (by simpa using h), fun L h => ?_⟩
        cases hr : rdL ps [c, d] r with
        | none => rw [hr] at h; simp at h
        | some M =>
          rw [hr] at h
          simp at h
          subst h
          obtain ⟨S, hS, hb2⟩ := ih2 M hr
          refine ⟨S, hS, fun i => ?_⟩
          rw [hb2 i, Nat.testBit_or, Bool.or_eq_true, oneN_test]
          simp only [List.mem_cons, exists_eq_or_imp, e1, e2]
          constructor
          · rintro ((h | h) | h)
            · exact Or.inl h
            · exact Or.inr (Or.inl h.2.symm)
            · exact Or.inr (Or.inr h)
          · rintro (h | h | h)
            · exact Or.inl (Or.inl h)
            · exact Or.inl (Or.inr ⟨by omega, h.symm⟩)
            · exact Or.inr h
    · rw [List.getElem?_eq_none hb, if_neg (by omega)]
      exact ⟨fun _ => rfl, fun L h => by cases h⟩
theorem nb_idx {ps : List Pk} (ha : Ap ps) {i : Nat} (hi : i < ps.length) : nbT ps ps[i].n ps[i].v = i := by
  obtain ⟨q, hq⟩ := nb_some (List.getElem_mem hi)
  obtain ⟨hm, e1, e2⟩ := nb_get hq
  have e := ha.ap q hm ps[i] (List.getElem_mem hi) e1 e2
  obtain ⟨hl, e3⟩ := List.getElem?_eq_some_iff.1 hq
  exact nd_idx ha.nd hl hi (by rw [e3, e])
theorem prS_none {ps : List Pk} (hl : ps.length ≤ 20) {P : List UInt8} (h : prL ps P = none) : prS ps P = none := by
  unfold prL at h
  unfold prS
  split
  · rfl
  · rename_i h1
    rw [if_neg h1] at h
    split
    · rename_i h2
      rw [if_pos h2] at h
      exact (rdS_same hl P.length P [] 0 (Nat.le_refl _)).1 h
    · rfl
theorem prS_some {ps : List Pk} (hl : ps.length ≤ 20) (ha : Ap ps) {P : List UInt8} {L : List Pk} (h : prL ps P = some L) : ∃ S, prS ps P = some S ∧ Mk ps L S := by
  have hq := Pq.of ha h
  unfold prL at h
  unfold prS
  split
  · rename_i h1
    rw [if_pos h1] at h
    cases h
  · rename_i h1
    rw [if_neg h1] at h
    split
    · rename_i h2
      rw [if_pos h2] at h
      obtain ⟨S, hS, hb⟩ := (rdS_same hl P.length P [] 0 (Nat.le_refl _)).2 L h
      refine ⟨S, hS, fun i => ?_⟩
      rw [hb i, Nat.zero_testBit]
      constructor
      · rintro (h | ⟨p, hp, e⟩)
        · cases h
        · obtain ⟨j, hj, rfl⟩ := List.getElem_of_mem (hq.sub p hp)
          rw [nb_idx ha hj] at e
          subst e
          exact ⟨hj, hp⟩
      · rintro ⟨hi, hp⟩
        exact Or.inr ⟨ps[i], hp, (nb_idx ha hi).symm⟩
    · rename_i h2
      rw [if_neg h2] at h
      cases h

/-- The text of a set. -/
def K0 : List (Nat × Nat) := (List.range 26).flatMap fun a => (List.range 9).map fun v => (97 + a, 49 + v)
def ky (x : Nat × Nat) : List UInt8 := [b8 x.1, b8 x.2]
def kyB (ps : List Pk) (S : Nat) (x : Nat × Nat) : Bool := hasN S (nbT ps x.1 x.2)
theorem txV_eq (ps : List Pk) (S a : Nat) : ∀ k, txV ps S a k = ((((List.range k).map fun v => (a, 49 + v)).filter (kyB ps S)).flatMap ky)
  | 0 => rfl
  | k + 1 => by
    rw [txV, txV_eq ps S a k, List.range_succ, List.map_append, List.filter_append, List.flatMap_append]
    congr 1
    unfold tx1
    have : kyB ps S (a, 49 + k) = hasN S (nbT ps a (49 + k)) := rfl
    cases h : hasN S (nbT ps a (49 + k)) with
    | true => simp [this, h, ky]
    | false => simp [this, h]
theorem txN_eq (ps : List Pk) (S : Nat) : ∀ k, txN ps S k = ((((List.range k).flatMap fun a => (List.range 9).map fun v => (97 + a, 49 + v)).filter (kyB ps S)).flatMap ky)
  | 0 => rfl
  | k + 1 => by
    rw [txN, txN_eq ps S k, txV_eq, List.range_succ (n := k), List.flatMap_append, List.filter_append, List.flatMap_append]
    simp
theorem K0_asc : K0.Pairwise fun x y => x.1 * 256 + x.2 < y.1 * 256 + y.2 := by decide +kernel
theorem K0_rng : ∀ x ∈ K0, 97 ≤ x.1 ∧ x.1 ≤ 122 ∧ 49 ≤ x.2 ∧ x.2 ≤ 57 := by decide +kernel
theorem K0_all {a v : Nat} (h1 : 97 ≤ a) (h2 : a ≤ 122) (h3 : 49 ≤ v) (h4 : v ≤ 57) : (a, v) ∈ K0 := by
  unfold K0
  rw [List.mem_flatMap]
  refine ⟨a - 97, List.mem_range.2 (by omega), List.mem_map.2 ⟨v - 49, List.mem_range.2 (by omega), ?_⟩⟩
  rw [show 97 + (a - 97) = a by omega, show 49 + (v - 49) = v by omega]
theorem ky_ch : ∀ (l : List (Nat × Nat)), ch2 (l.flatMap ky) = l.map ky
  | [] => rfl
  | x :: l => by
    rw [List.flatMap_cons]
    show ch2 (b8 x.1 :: b8 x.2 :: l.flatMap ky) = _
    rw [ch2, ky_ch l]
    rfl
theorem ky_len : ∀ (l : List (Nat × Nat)), (l.flatMap ky).length = 2 * l.length
  | [] => rfl
  | x :: l => by
    rw [List.flatMap_cons, List.length_append, ky_len l, List.length_cons]
    show 2 + _ = _
    omega
theorem ky_ord : ∀ (l : List (Nat × Nat)), l.Pairwise (fun x y => x.1 * 256 + x.2 < y.1 * 256 + y.2) → (∀ x ∈ l, x.1 < 256 ∧ x.2 < 256) → ∀ (z : Nat × Nat), z.1 < 256 → z.2 < 256 → (∀ x ∈ l, z.1 * 256 + z.2 < x.1 * 256 + x.2) → ordL (ky z) (l.flatMap ky) = true
  | [], _, _, z, _, _, _ => rfl
  | x :: l, hp, hr, z, hz1, hz2, hz => by
    obtain ⟨h1, h2⟩ := List.pairwise_cons.1 hp
    obtain ⟨r1, r2⟩ := hr x (by simp)
    rw [List.flatMap_cons]
    show ordL (ky z) (b8 x.1 :: b8 x.2 :: l.flatMap ky) = true
    rw [ordL, gt_less]
    have e : Op.bytesLess (ky z) [b8 x.1, b8 x.2] = true := by
      unfold ky
      rw [less2, b8_val hz1, b8_val hz2, b8_val r1, b8_val r2, decide_eq_true_eq]
      exact hz x (by simp)
    rw [e, Bool.true_and]
    exact ky_ord l h2 (fun y hy => hr y (by simp [hy])) x r1 r2 h1
theorem ky_ord0 (l : List (Nat × Nat)) (hp : l.Pairwise (fun x y => x.1 * 256 + x.2 < y.1 * 256 + y.2)) (hr : ∀ x ∈ l, x.1 < 256 ∧ x.2 < 256) : ordL [] (l.flatMap ky) = true := by
  match l, hp, hr with
  | [], _, _ => rfl
  | x :: l, hp, hr =>
    obtain ⟨h1, h2⟩ := List.pairwise_cons.1 hp
    obtain ⟨r1, r2⟩ := hr x (by simp)
    rw [List.flatMap_cons]
    show ordL [] (b8 x.1 :: b8 x.2 :: l.flatMap ky) = true
    rw [ordL, gt_less]
    have e : Op.bytesLess [] [b8 x.1, b8 x.2] = true := by simp [Op.bytesLess]
    rw [e, Bool.true_and]
    exact ky_ord l h2 (fun y hy => hr y (by simp [hy])) x r1 r2 h1
theorem txN_some {ps : List Pk} (hl : ps.length ≤ 20) (ha : Ap ps) {S : Nat} (hS : ∀ i, S.testBit i = true → i < ps.length) : ∃ L, prL ps (txN ps S 26) = some L ∧ Mk ps L S := by
  have hE : txN ps S 26 = (K0.filter (kyB ps S)).flatMap ky := txN_eq ps S 26
  have hrng : ∀ x ∈ K0.filter (kyB ps S), x.1 < 256 ∧ x.2 < 256 := fun x hx => by
    have := K0_rng x (List.mem_filter.1 hx).1
    omega
  have hin : ∀ x ∈ K0.filter (kyB ps S), ∃ p ∈ ps, pkI p = ky x := fun x hx => by
    have h1 := (List.mem_filter.1 hx).2
    unfold kyB at h1
    have h2 := hS _ ((hasN_iff _ _).1 h1).2
    obtain ⟨hm, e1, e2⟩ := nb_get (List.getElem?_eq_getElem h2)
    exact ⟨_, hm, by unfold pkI ky; rw [e1, e2]⟩
  have hord : ordL [] (txN ps S 26) = true := by
    rw [hE]
    exact ky_ord0 _ (List.Pairwise.sublist List.filter_sublist K0_asc) hrng
  have hch : ch2 (txN ps S 26) = (K0.filter (kyB ps S)).map ky := by rw [hE, ky_ch]
  obtain ⟨L, hL⟩ := rdL_all ha (txN ps S 26).length [] (txN ps S 26) (Nat.le_refl _) (fun x hx => by
    rw [hch] at hx
    obtain ⟨y, hy, rfl⟩ := List.mem_map.1 hx
    exact hin y hy) hord
  have hlen : (txN ps S 26).length = 2 * (K0.filter (kyB ps S)).length := by rw [hE, ky_len]
  have hk0 : (K0.filter (kyB ps S)).length ≤ 234 := Nat.le_trans (List.length_filter_le _ _) (by decide +kernel)
  have hP : prL ps (txN ps S 26) = some L := by
    unfold prL
    rw [if_neg (by omega), if_pos (by omega)]
    exact hL
  refine ⟨L, hP, fun i => ?_⟩
  have hq := Pq.of ha hP
  constructor
  · intro h
    have hi := hS i h
    refine ⟨hi, ?_⟩
    have a1 := ha.n (List.getElem_mem hi)
    have a2 := ha.v (List.getElem_mem hi)
    rw [← hq.mem ha (List.getElem_mem hi), inB_iff, hch]
    refine List.mem_map.2 ⟨(ps[i].n, ps[i].v), List.mem_filter.2 ⟨K0_all a1.1 a1.2 a2.1 a2.2, ?_⟩, rfl⟩
    unfold kyB
    rw [hasN_iff]
    simp only
    rw [nb_idx ha hi]
    exact ⟨by omega, h⟩
  · rintro ⟨hi, h⟩
    rw [← hq.mem ha (List.getElem_mem hi), inB_iff, hch] at h
    obtain ⟨x, hx, e⟩ := List.mem_map.1 h
    obtain ⟨hx1, hx2⟩ := List.mem_filter.1 hx
    have a1 := ha.n (List.getElem_mem hi)
    have a2 := ha.v (List.getElem_mem hi)
    have a3 := K0_rng x hx1
    unfold ky pkI at e
    simp only [List.cons.injEq, and_true] at e
    have e1 := b8_inj (by omega) (by omega) e.1
    have e2 := b8_inj (by omega) (by omega) e.2
    unfold kyB at hx2
    rw [e1, e2, nb_idx ha hi, hasN_iff] at hx2
    exact hx2.2

end Go.Proofs.YtenbnmbbfeekpaaDoor
