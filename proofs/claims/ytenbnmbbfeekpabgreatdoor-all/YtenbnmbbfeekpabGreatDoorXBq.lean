import Derived.Test.YtenbnmbbfeekpabGreatDoorXBt
import Derived.Test.YtenbnmbbfeekpabGreatDoorXT

/-
  The search for the best pick, in sets: plain mathematics.
-/
namespace Go.Proofs.YtenbnmbbfeekpabGreatDoor

/-- All of the one are in the other. -/
def Sb (a b : Nat) : Prop := ∀ i, a.testBit i = true → b.testBit i = true
theorem Sb.refl (a : Nat) : Sb a a := fun _ h => h
theorem Sb.trans {a b c : Nat} (h : Sb a b) (g : Sb b c) : Sb a c := fun i x => g i (h i x)
theorem Sb.eq {a b : Nat} (h : Sb a b) (g : Sb b a) : a = b := by
  apply Nat.eq_of_testBit_eq
  intro i
  rw [Bool.eq_iff_iff]
  exact ⟨h i, g i⟩
theorem and_mono {x a b : Nat} (h : Sb a b) (g : x &&& a ≠ 0) : x &&& b ≠ 0 := by
  obtain ⟨i, h1, h2⟩ := (and_ne_iff _ _).1 g
  exact (and_ne_iff _ _).2 ⟨i, h1, h i h2⟩
theorem Sb.and {a b : Nat} (x : Nat) (h : Sb a b) : Sb (x &&& a) (x &&& b) := fun i g => by
  rw [Nat.testBit_and, Bool.and_eq_true] at g ⊢
  exact ⟨g.1, h i g.2⟩
theorem em_mono {l : List Nat} {a b : Nat} (h : Sb a b) (g : emB l a = true) : emB l b = true := by
  unfold emB at g ⊢
  rw [List.all_eq_true] at g ⊢
  intro x hx
  have := g x hx
  rw [bne_iff_ne] at this ⊢
  exact and_mono h this
theorem has_mono {a b i : Nat} (h : Sb a b) (g : hasN a i = true) : hasN b i = true := by
  rw [hasN_iff] at g ⊢
  exact ⟨g.1, h i g.2⟩
theorem nm_mono {l : List Rp} {s p s' p' : Nat} (hs : Sb s' s) (hp : Sb p p') (g : nmM l s p = true) : nmM l s' p' = true := by
  unfold nmM at g ⊢
  rw [alF_iff] at g ⊢
  intro i h1 h2
  have := g i h1 h2
  unfold nm1 at this ⊢
  cases hh : hasN s' i with
  | false => rfl
  | true =>
    rw [has_mono hs hh] at this
    simp only [Bool.true_and, Bool.not_not] at this ⊢
    exact em_mono hp this
theorem nc_mono {l : List Rp} {s s' : Nat} (hs : Sb s' s) (g : ncM l s = true) : ncM l s' = true := by
  unfold ncM at g ⊢
  rw [alF_iff] at g ⊢
  intro i h1 h2
  have := g i h1 h2
  unfold nx1 at this ⊢
  cases hh : hasN s' i with
  | false => rfl
  | true =>
    rw [has_mono hs hh] at this
    simp only [Bool.true_and, Bool.not_eq_true', bne_eq_false_iff_eq] at this ⊢
    apply Classical.byContradiction
    intro e
    exact and_mono hs e this
theorem sev_mono {a b : Nat} (ha : a < 2 ^ 20) (hb : b < 2 ^ 20) (h : Sb a b) (g : sevB b = false) : sevB a = false := by
  rw [sev_iff ha]
  rw [sev_iff hb] at g
  exact fun i j h1 h2 => g i j (h i h1) (h j h2)
theorem ug_mono {s p s' p' : Nat} {u : Nat × Nat} (hu : u.1 < 2 ^ 20) (hs : Sb s' s) (hp : Sb p p') (g : ug1 s p u = true) : ug1 s' p' u = true := by
  unfold ug1 at g ⊢
  rw [Bool.not_eq_true', Bool.or_eq_false_iff, Bool.or_eq_false_iff, bne_eq_false_iff_eq, beq_eq_false_iff_ne] at g ⊢
  refine ⟨⟨sev_mono (and_lt' hu) (and_lt' hu) (Sb.and _ hs) g.1.1, ?_⟩, and_mono hp g.2⟩
  rw [ad_zero]
  intro i hi
  exact (ad_zero _ _).1 g.1.2 i (Sb.and _ hs i hi)
/-- Rules of a document: what is small. -/
structure RuOk (R : Ru) : Prop where
  upg : ∀ u ∈ R.upg, u.1 < 2 ^ 20
theorem fbM_zero (R : Ru) (s p : Nat) : fbM R s p = 0 ↔ nmM R.packs s p = true ∧ ncM R.packs s = true ∧ emB R.stay p = true ∧ emB R.ins p = true ∧ (R.rem &&& s) = 0 ∧ R.upg.all (ug1 s p) = true := by
  unfold fbM fm2 fm3 fm4 fm5 fm6
  by_cases h1 : nmM R.packs s p = true
  · rw [if_pos h1]
    by_cases h2 : ncM R.packs s = true
    · rw [if_pos h2]
      by_cases h3 : emB R.stay p = true
      · rw [if_pos h3]
        by_cases h4 : emB R.ins p = true
        · rw [if_pos h4]
          by_cases h5 : (R.rem &&& s) = 0
          · rw [if_pos h5]
            by_cases h6 : R.upg.all (ug1 s p) = true
            · rw [if_pos h6]; simp [h1, h2, h3, h4, h5, h6]
            · rw [if_neg h6]; simp [h6]
          · rw [if_neg h5]; simp [h5]
        · rw [if_neg h4]; simp [h4]
      · rw [if_neg h3]; simp [h3]
    · rw [if_neg h2]; simp [h2]
  · rw [if_neg h1]; simp [h1]
theorem fb_mono {R : Ru} (hR : RuOk R) {s p s' p' : Nat} (hs : Sb s' s) (hp : Sb p p') (g : fbM R s p = 0) : fbM R s' p' = 0 := by
  rw [fbM_zero] at g ⊢
  obtain ⟨g1, g2, g3, g4, g5, g6⟩ := g
  refine ⟨nm_mono hs hp g1, nc_mono hs g2, em_mono hp g3, em_mono hp g4, ?_, ?_⟩
  · apply Classical.byContradiction
    intro e
    exact and_mono hs e g5
  · rw [List.all_eq_true] at g6 ⊢
    exact fun u hu => ug_mono (hR.upg u hu) hs hp (g6 u hu)

/-- What the criteria count. -/
theorem alw_le {c s p S : Nat} {n : Nm} (hs : Sb s S) (hp : Sb S p) (h : alwB c s p n = true) : alwB c S S n = true := by
  have hz : ∀ {x a b : Nat}, Sb a b → x &&& b = 0 → x &&& a = 0 := fun {x a b} h g => by
    apply Classical.byContradiction
    intro e
    exact and_mono h e g
  unfold alwB at h ⊢
  by_cases h1 : c = 114
  · rw [if_pos h1] at h ⊢
    simp only [Bool.and_eq_true, bne_iff_ne, beq_iff_eq] at h ⊢
    exact ⟨h.1, hz hp h.2⟩
  · rw [if_neg h1] at h ⊢
    by_cases h2 : c = 110
    · rw [if_pos h2] at h ⊢
      simp only [Bool.and_eq_true, bne_iff_ne, beq_iff_eq] at h ⊢
      exact ⟨h.1, and_mono hs h.2⟩
    · rw [if_neg h2] at h ⊢
      by_cases h3 : c = 99
      · rw [if_pos h3] at h ⊢
        simp only [Bool.or_eq_true, bne_iff_ne] at h ⊢
        rcases h with h | h
        · left
          intro e
          apply h
          rw [ad_zero] at e ⊢
          exact fun i hi => e i (Sb.and _ hs i hi)
        · right
          intro e
          apply h
          rw [ad_zero] at e ⊢
          exact fun i hi => Sb.and _ hp i (e i hi)
      · rw [if_neg h3] at h ⊢
        by_cases h4 : c = 117
        · rw [if_pos h4] at h ⊢
          simp only [Bool.and_eq_true, bne_iff_ne, beq_iff_eq] at h ⊢
          refine ⟨and_mono hs h.1, ?_⟩
          have h5 := h.2
          rw [Nat.and_comm] at h5 ⊢
          exact hz (Sb.and _ hp) h5
        · rw [if_neg h4] at h
          cases h
theorem som_le {c s p S : Nat} {n : Nm} (hs : Sb s S) (hp : Sb S p) (h : somB c S S n = true) : somB c s p n = true := by
  have hz : ∀ {x a b : Nat}, Sb a b → x &&& b = 0 → x &&& a = 0 := fun {x a b} h g => by
    apply Classical.byContradiction
    intro e
    exact and_mono h e g
  unfold somB at h ⊢
  by_cases h1 : c = 114
  · rw [if_pos h1] at h ⊢
    simp only [Bool.and_eq_true, bne_iff_ne, beq_iff_eq] at h ⊢
    exact ⟨h.1, hz hs h.2⟩
  · rw [if_neg h1] at h ⊢
    by_cases h2 : c = 110
    · rw [if_pos h2] at h ⊢
      simp only [Bool.and_eq_true, bne_iff_ne, beq_iff_eq] at h ⊢
      exact ⟨h.1, and_mono hp h.2⟩
    · rw [if_neg h2] at h ⊢
      by_cases h3 : c = 99
      · rw [if_pos h3] at h ⊢
        simp only [Bool.or_self, Bool.or_eq_true, bne_iff_ne] at h ⊢
        apply Classical.byContradiction
        intro g
        rw [not_or, Decidable.not_not, Decidable.not_not] at g
        apply h
        apply Sb.eq
        · rw [← g.2]; exact Sb.and _ hp
        · rw [← g.1]; exact Sb.and _ hs
      · rw [if_neg h3] at h ⊢
        by_cases h4 : c = 117
        · rw [if_pos h4] at h ⊢
          simp only [Bool.and_eq_true, bne_iff_ne, beq_iff_eq] at h ⊢
          refine ⟨?_, ?_⟩
          · have h5 := h.1
            rw [Nat.and_comm] at h5 ⊢
            exact hz (Sb.and _ hs) h5
          · intro e
            apply h.2
            rw [ad_zero] at e ⊢
            exact fun i hi => e i (Sb.and _ hp i hi)
        · rw [if_neg h4] at h
          cases h
theorem cs_le {s p S : Nat} (ns : List Nm) (hs : Sb s S) (hp : Sb S p) : ∀ (cs : List Cr) (a b : Int), a ≤ b → cs.foldl (cs1 ns s p) a ≤ cs.foldl (cs1 ns S S) b
  | [], a, b, h => h
  | c :: cs, a, b, h => by
    rw [List.foldl_cons, List.foldl_cons]
    refine cs_le ns hs hp cs _ _ ?_
    have h1 : fewN c.2 ns s p ≤ fewN c.2 ns S S := List.countP_mono_left fun n _ => alw_le hs hp
    have h2 : mostN c.2 ns S S ≤ mostN c.2 ns s p := List.countP_mono_left fun n _ => som_le hs hp
    unfold cs1
    split <;> omega
theorem csN_le {s p S : Nat} (cs : List Cr) (ns : List Nm) (hs : Sb s S) (hp : Sb S p) : csN cs ns s p ≤ csN cs ns S S := cs_le ns hs hp cs 0 0 (Int.le_refl _)

/-- The next to decide on. -/
theorem fu_zero : ∀ (l : List Nat) (s : Nat), fuN l s &&& s = 0
  | [], s => by simp [fuN]
  | x :: l, s => by
    rw [fuN]
    split
    · assumption
    · exact fu_zero l s
theorem ned_zero (l : List Rp) (s : Nat) : ∀ f k, nedF l s f k &&& s = 0
  | 0, k => by simp [nedF]
  | f + 1, k => by
    rw [nedF]
    split
    · split
      · exact fu_zero _ _
      · exact ned_zero l s f (k + 1)
    · exact ned_zero l s f (k + 1)
theorem ug_zero : ∀ (l : List (Nat × Nat)) (s : Nat), ugN l s &&& s = 0
  | [], s => by simp [ugN]
  | x :: l, s => by
    rw [ugN]
    split
    · assumption
    · exact ug_zero l s
theorem as_zero (R : Ru) (s : Nat) : asN R s &&& s = 0 := by
  unfold asN
  repeat' split
  · exact ned_zero _ _ _ _
  · exact fu_zero _ _
  · exact fu_zero _ _
  · exact ug_zero _ _
theorem opn_test {R : Ru} {s p i : Nat} (h : (opnM R s p).testBit i = true) : p.testBit i = true ∧ s.testBit i = false := by
  unfold opnM at h
  split at h
  · rw [adN_test, Bool.and_eq_true, Bool.not_eq_true'] at h
    exact h
  · rw [Nat.testBit_and, Bool.and_eq_true] at h
    exact ⟨h.2, (and_zero_iff _ _).1 (as_zero R s) i h.1⟩
theorem fi_ge (o : Nat) : ∀ f k, k ≤ fiF o f k ∧ fiF o f k ≤ k + f ∧ (fiF o f k < k + f → hasN o (fiF o f k) = true) ∧ (fiF o f k = k + f → ∀ i, k ≤ i → i < k + f → hasN o i = false)
  | 0, k => by simp [fiF]; intro i h1 h2; omega
  | f + 1, k => by
    rw [fiF]
    split
    · rename_i h
      exact ⟨Nat.le_refl _, by omega, fun _ => h, fun e => by omega⟩
    · rename_i h
      obtain ⟨h1, h2, h3, h4⟩ := fi_ge o f (k + 1)
      refine ⟨by omega, by omega, fun g => h3 (by omega), fun e i hi hk => ?_⟩
      by_cases g : i = k
      · subst g; simpa using h
      · exact h4 (by omega) i (by omega) (by omega)
theorem nx_in {R : Ru} {s p : Nat} (h : nxM R s p < R.packs.length) : nxM R s p < 20 ∧ p.testBit (nxM R s p) = true ∧ s.testBit (nxM R s p) = false := by
  unfold nxM at *
  obtain ⟨_, _, h3, _⟩ := fi_ge (opnM R s p) R.packs.length 0
  have := (hasN_iff _ _).1 (h3 (by omega))
  exact ⟨this.1, opn_test this.2⟩
theorem nx_none {R : Ru} {s p : Nat} (hl : R.packs.length ≤ 20) (hp : ∀ i, p.testBit i = true → i < R.packs.length) (h : R.packs.length ≤ nxM R s p) : Sb p s := by
  unfold nxM at h
  obtain ⟨_, h2, _, h4⟩ := fi_ge (opnM R s p) R.packs.length 0
  have hno := h4 (by omega)
  have hz : opnM R s p = 0 := by
    apply Classical.byContradiction
    intro e
    obtain ⟨i, hi⟩ := ne_zero_bit e
    have hi' := hp i (opn_test hi).1
    have := hno i (Nat.zero_le _) (by omega)
    rw [(hasN_iff _ _).2 ⟨by omega, hi⟩] at this
    cases this
  unfold opnM at hz
  split at hz
  · exact (ad_zero _ _).1 hz
  · exact absurd hz (by assumption)

/-- A valid pick. -/
def Vd (R : Ru) (S : Nat) : Prop := fbM R S S = 0
def Gd (R : Ru) (ns : List Nm) (cs : List Cr) (b : An) : Prop := b.f = true → Vd R b.p ∧ b.c = csN cs ns b.p b.p ∧ ∀ i, b.p.testBit i = true → i < R.packs.length
theorem oneN_bit {i : Nat} (h : i < 20) : (oneN i).testBit i = true := (oneN_test i i).2 ⟨h, rfl⟩
theorem foe_conf {R : Ru} {S i : Nat} (hi : i < R.packs.length) (h20 : i < 20) (hS : S.testBit i = true) (h : ncM R.packs S = true) : foAt R.packs i &&& S = 0 := by
  unfold ncM at h
  rw [alF_iff] at h
  have := h i (Nat.zero_le _) (by omega)
  unfold nx1 at this
  rw [(hasN_iff _ _).2 ⟨h20, hS⟩] at this
  simpa using this
theorem nc_of_fb {R : Ru} {s p : Nat} (h : fbM R s p = 0) : ncM R.packs s = true := ((fbM_zero R s p).1 h).2.1
theorem srcM_ok {R : Ru} (hR : RuOk R) (hl : R.packs.length ≤ 20) (ns : List Nm) (cs : List Cr) : ∀ (f s p : Nat) (b : An), p + 1048576 < f + s → s < 2 ^ 20 → p < 2 ^ 20 → (∀ i, p.testBit i = true → i < R.packs.length) → (∀ i, s.testBit i = true → i < R.packs.length) → (Sb s p ∨ ncM R.packs s = false) → Gd R ns cs b →
    Gd R ns cs (srcM R ns cs f s p b) ∧ (b.f = true → (srcM R ns cs f s p b).f = true ∧ (srcM R ns cs f s p b).c ≤ b.c) ∧ ∀ S, Sb s S → Sb S p → Vd R S → (srcM R ns cs f s p b).f = true ∧ (srcM R ns cs f s p b).c ≤ csN cs ns S S
  | 0, s, p, b, hf, hs20, _, _, _, _, _ => by omega
  | f + 1, s, p, b, hf, hs20, hp20, hpn, hsn, hsp, hb => by
    rw [srcM]
    by_cases h1 : fbM R s p = 0
    · rw [if_neg (by simpa using h1)]
      have hsp' : Sb s p := by
        rcases hsp with h | h
        · exact h
        · rw [nc_of_fb h1] at h; cases h
      by_cases h2 : b.f = true ∧ b.c ≤ csN cs ns s p
      · rw [if_pos h2]
        refine ⟨hb, fun h => ⟨h, Int.le_refl _⟩, fun S hS1 hS2 _ => ⟨h2.1, ?_⟩⟩
        exact Int.le_trans h2.2 (csN_le cs ns hS1 hS2)
      · rw [if_neg h2]
        by_cases h3 : R.packs.length ≤ nxM R s p
        · rw [if_pos h3]
          have e : p = s := Sb.eq (nx_none hl hpn h3) hsp'
          subst e
          refine ⟨fun _ => ⟨h1, rfl, hpn⟩, fun h => ⟨rfl, ?_⟩, fun S hS1 hS2 _ => ⟨rfl, csN_le cs ns hS1 hS2⟩⟩
          show csN cs ns p p ≤ b.c
          rcases Int.lt_or_le (csN cs ns p p) b.c with g | g
          · exact Int.le_of_lt g
          · exact absurd ⟨h, g⟩ h2
        · rw [if_neg h3]
          have hn : nxM R s p < R.packs.length := by omega
          obtain ⟨n20, np, nsf⟩ := nx_in hn
          generalize nxM R s p = n at *
          have ho : oneN n = 2 ^ n := by unfold oneN; rw [if_pos n20]
          have hs2 : s ||| oneN n < 2 ^ 20 := or_lt hs20 (oneN_lt n)
          have hgr : s < s ||| oneN n := by
            refine Nat.lt_of_le_of_ne Nat.left_le_or fun e => ?_
            have : (s ||| oneN n).testBit n = true := by rw [Nat.testBit_or, oneN_bit n20, Bool.or_true]
            rw [← e, nsf] at this
            cases this
          have hle1 : adN p (foAt R.packs n) ≤ p := Nat.le_of_testBit fun j hj => by
            rw [adN_test, Bool.and_eq_true] at hj
            exact hj.1
          have hlt2 : adN p (oneN n) < p := by
            refine Nat.lt_of_le_of_ne (Nat.le_of_testBit fun j hj => by
              rw [adN_test, Bool.and_eq_true] at hj
              exact hj.1) fun e => ?_
            have : (adN p (oneN n)).testBit n = false := by rw [adN_test, oneN_bit n20, Bool.not_true, Bool.and_false]
            rw [e, np] at this
            cases this
          have hsw : ∀ i, (s ||| oneN n).testBit i = true → i < R.packs.length := fun i hi => by
            rw [Nat.testBit_or, Bool.or_eq_true] at hi
            rcases hi with hi | hi
            · exact hsn i hi
            · rw [← ((oneN_test n i).1 hi).2]; exact hn
          have hpw : ∀ i, (adN p (foAt R.packs n)).testBit i = true → i < R.packs.length := fun i hi => by
            rw [adN_test, Bool.and_eq_true] at hi
            exact hpn i hi.1
          have hinv : Sb (s ||| oneN n) (adN p (foAt R.packs n)) ∨ ncM R.packs (s ||| oneN n) = false := by
            cases hc : ncM R.packs (s ||| oneN n) with
            | false => exact Or.inr rfl
            | true =>
              left
              have hz := foe_conf hn n20 (by rw [Nat.testBit_or, oneN_bit n20, Bool.or_true]) hc
              intro i hi
              rw [adN_test, Bool.and_eq_true, Bool.not_eq_true']
              constructor
              · rw [Nat.testBit_or, Bool.or_eq_true] at hi
                rcases hi with hi | hi
                · exact hsp' i hi
                · rw [← ((oneN_test n i).1 hi).2]; exact np
              · cases e : (foAt R.packs n).testBit i with
                | false => rfl
                | true =>
                  have := (and_zero_iff _ _).1 hz i e
                  rw [hi] at this
                  cases this
          obtain ⟨a1, a2, a3⟩ := srcM_ok hR hl ns cs f (s ||| oneN n) (adN p (foAt R.packs n)) b (by omega) hs2 (Nat.lt_of_le_of_lt hle1 hp20) hpw hsw hinv hb
          generalize srcM R ns cs f (s ||| oneN n) (adN p (foAt R.packs n)) b = b' at *
          have hpo : ∀ i, (adN p (oneN n)).testBit i = true → i < R.packs.length := fun i hi => by
            rw [adN_test, Bool.and_eq_true] at hi
            exact hpn i hi.1
          have hinv2 : Sb s (adN p (oneN n)) := fun i hi => by
            rw [adN_test, Bool.and_eq_true, Bool.not_eq_true']
            refine ⟨hsp' i hi, ?_⟩
            cases e : (oneN n).testBit i with
            | false => rfl
            | true =>
              rw [← ((oneN_test n i).1 e).2, nsf] at hi
              cases hi
          obtain ⟨c1, c2, c3⟩ := srcM_ok hR hl ns cs f s (adN p (oneN n)) b' (by omega) hs20 (Nat.lt_trans hlt2 hp20) hpo hsn (Or.inl hinv2) a1
          refine ⟨c1, fun h => ?_, fun S hS1 hS2 hv => ?_⟩
          · obtain ⟨x1, x2⟩ := a2 h
            obtain ⟨x3, x4⟩ := c2 x1
            exact ⟨x3, Int.le_trans x4 x2⟩
          · by_cases hSn : S.testBit n = true
            · obtain ⟨x1, x2⟩ := a3 S (fun i hi => by
                rw [Nat.testBit_or, Bool.or_eq_true] at hi
                rcases hi with hi | hi
                · exact hS1 i hi
                · rw [← ((oneN_test n i).1 hi).2]; exact hSn) (fun i hi => by
                rw [adN_test, Bool.and_eq_true, Bool.not_eq_true']
                refine ⟨hS2 i hi, ?_⟩
                cases e : (foAt R.packs n).testBit i with
                | false => rfl
                | true =>
                  have := (and_zero_iff _ _).1 (foe_conf hn n20 hSn (nc_of_fb hv)) i e
                  rw [hi] at this
                  cases this) hv
              obtain ⟨x3, x4⟩ := c2 x1
              exact ⟨x3, Int.le_trans x4 x2⟩
            · refine c3 S hS1 (fun i hi => ?_) hv
              rw [adN_test, Bool.and_eq_true, Bool.not_eq_true']
              refine ⟨hS2 i hi, ?_⟩
              cases e : (oneN n).testBit i with
              | false => rfl
              | true =>
                rw [← ((oneN_test n i).1 e).2] at hi
                exact absurd hi hSn
    · rw [if_pos (by simpa using h1)]
      refine ⟨hb, fun h => ⟨h, Int.le_refl _⟩, fun S hS1 hS2 hv => ?_⟩
      exfalso
      exact h1 (fb_mono hR hS1 hS2 hv)

end Go.Proofs.YtenbnmbbfeekpabGreatDoor

/-
  What the search answers is what P8 asks: plain mathematics.
-/
namespace Go.Proofs.YtenbnmbbfeekpabGreatDoor

def btL (ns : List Nm) (A B : Nat) : List Cr → Bool
  | [] => false
  | c :: r => if fewN c.2 ns A A = fewN c.2 ns B B then btL ns A B r else (decide (fewN c.2 ns A A < fewN c.2 ns B B) == !c.1)
theorem tl_app : ∀ (r T : List Cr), ∃ X, r.foldl tl1 T = T ++ X
  | [], T => ⟨[], by simp⟩
  | c :: r, T => by
    rw [List.foldl_cons]
    obtain ⟨X, hX⟩ := tl_app r (tl1 T c)
    rw [hX]
    unfold tl1
    split
    · exact ⟨X, rfl⟩
    · exact ⟨c :: X, by simp⟩
theorem cs_app (T X : List Cr) (ns : List Nm) (s p : Nat) : csN (T ++ X) ns s p = X.foldl (cs1 ns s p) (csN T ns s p) := by unfold csN; rw [List.foldl_append]
/-- The one digit of a pick alone. -/
def dg (ns : List Nm) (S : Nat) (c : Cr) (a : Int) : Int := if c.1 then a * 21 - (fewN c.2 ns S S : Nat) else a * 21 + (fewN c.2 ns S S : Nat)
theorem cs1_dg {ns : List Nm} {S : Nat} (hm : ∀ c, mostN c ns S S = fewN c ns S S) (a : Int) (c : Cr) : cs1 ns S S a c = dg ns S c a := by unfold cs1 dg; rw [hm]
theorem lt_keep {ns : List Nm} {A B : Nat} (h20 : ns.length ≤ 20) (hA : ∀ c, mostN c ns A A = fewN c ns A A) (hB : ∀ c, mostN c ns B B = fewN c ns B B) : ∀ (X : List Cr) (a b : Int), a < b → X.foldl (cs1 ns A A) a < X.foldl (cs1 ns B B) b
  | [], a, b, h => h
  | c :: X, a, b, h => by
    rw [List.foldl_cons, List.foldl_cons]
    refine lt_keep h20 hA hB X _ _ ?_
    rw [cs1_dg hA, cs1_dg hB]
    have h1 := few_le c.2 ns A A
    have h2 := few_le c.2 ns B B
    unfold dg
    split <;> omega
theorem eq_keep {ns : List Nm} {A B : Nat} (hA : ∀ c, mostN c ns A A = fewN c ns A A) (hB : ∀ c, mostN c ns B B = fewN c ns B B) : ∀ (X : List Cr) (a : Int), (∀ x ∈ X, fewN x.2 ns A A = fewN x.2 ns B B) → X.foldl (cs1 ns A A) a = X.foldl (cs1 ns B B) a
  | [], _, _ => rfl
  | c :: X, a, h => by
    rw [List.foldl_cons, List.foldl_cons, cs1_dg hA, cs1_dg hB]
    have : dg ns A c a = dg ns B c a := by unfold dg; rw [h c (by simp)]
    rw [this]
    exact eq_keep hA hB X _ fun x hx => h x (by simp [hx])
theorem lex_cost {ns : List Nm} {A B : Nat} (h20 : ns.length ≤ 20) (hA : ∀ c, mostN c ns A A = fewN c ns A A) (hB : ∀ c, mostN c ns B B = fewN c ns B B) : ∀ (r T : List Cr), (∀ x ∈ T, fewN x.2 ns A A = fewN x.2 ns B B) → btL ns A B r = true → csN (r.foldl tl1 T) ns A A < csN (r.foldl tl1 T) ns B B
  | [], T, _, h => by cases h
  | c :: r, T, hT, h => by
    rw [List.foldl_cons]
    rw [btL] at h
    cases hl : hlB T c.2 with
    | true =>
      have e : tl1 T c = T := by unfold tl1; rw [hl]; rfl
      unfold hlB at hl
      obtain ⟨x, hx, e2⟩ := List.any_eq_true.1 hl
      have e3 := hT x hx
      rw [beq_iff_eq] at e2
      rw [e2] at e3
      rw [if_pos e3] at h
      rw [e]
      exact lex_cost h20 hA hB r T hT h
    | false =>
      have e : tl1 T c = T ++ [c] := by unfold tl1; rw [hl]; rfl
      rw [e]
      by_cases hq : fewN c.2 ns A A = fewN c.2 ns B B
      · rw [if_pos hq] at h
        refine lex_cost h20 hA hB r _ (fun x hx => ?_) h
        rcases List.mem_append.1 hx with hx | hx
        · exact hT x hx
        · rw [List.mem_singleton.1 hx]; exact hq
      · rw [if_neg hq] at h
        obtain ⟨X, hX⟩ := tl_app r (T ++ [c])
        rw [hX, cs_app (T ++ [c]) X ns A A, cs_app (T ++ [c]) X ns B B]
        refine lt_keep h20 hA hB X _ _ ?_
        rw [cs_app T [c] ns A A, cs_app T [c] ns B B]
        have e4 : csN T ns A A = csN T ns B B := eq_keep hA hB T 0 hT
        rw [e4]
        show cs1 ns A A (csN T ns B B) c < cs1 ns B B (csN T ns B B) c
        rw [cs1_dg hA, cs1_dg hB]
        unfold dg
        cases hc : c.1 with
        | true =>
          rw [hc] at h
          simp at h
          simp only [if_true]
          omega
        | false =>
          rw [hc] at h
          simp at h
          simp only [Bool.false_eq_true, if_false]
          omega
theorem bt_same {ps : List Pk} (hl : ps.length ≤ 20) (ha : Ap ps) {O P : List UInt8} {L M : List Pk} {A B : Nat} (pL : Pq ps O L) (pM : Pq ps P M) (mA : Mk ps L A) (mB : Mk ps M B) : ∀ (n : Nat) (C : List UInt8) (cs : List Cr), C.length ≤ n → rdK C = some cs → btF ps O P C = btL (nmL ps 26) A B cs
  | _, [], cs, _, h => by simp [rdK] at h; subst h; rfl
  | _, [c], cs, _, h => by simp [rdK] at h; subst h; rfl
  | 0, a :: b :: r, cs, hn, _ => by simp at hn
  | n + 1, a :: b :: r, cs, hn, h => by
    rw [rdK] at h
    split at h
    · rename_i hc
      rw [Bool.and_eq_true] at hc
      cases hr : rdK r with
      | none => rw [hr] at h; simp at h
      | some cs' =>
        rw [hr] at h
        simp at h
        subst h
        have e1 : numT ps O b.toNat = fewN b.toNat (nmL ps 26) A A := by unfold numT; rw [num_same ha pL hc.2 26 (Nat.le_refl _), few_same hl ha mA pL.sub]
        have e2 : numT ps P b.toNat = fewN b.toNat (nmL ps 26) B B := by unfold numT; rw [num_same ha pM hc.2 26 (Nat.le_refl _), few_same hl ha mB pM.sub]
        rw [btF, btL, e1, e2, bt_same hl ha pL pM mA mB n r cs' (by simp at hn; omega) hr]
        have hs : (a.toNat == 45) = !(a.toNat == 43) := by
          have := hc.1
          unfold sgnB at this
          cases h45 : (a.toNat == 45) with
          | true => rw [beq_iff_eq] at h45; rw [h45]; rfl
          | false =>
            rw [h45, Bool.false_or] at this
            rw [this]; rfl
        rw [hs]
    · cases h
theorem crK_rd {C : List UInt8} {cs : List Cr} (h : crK C = some cs) : rdK C = some cs := by
  unfold crK at h
  repeat' split at h
  · cases h
  · cases h
  · exact h
  · cases h
theorem crK_crit (C : List UInt8) : critB C = (crK C).isSome := by
  rw [crit_same, crK_same]
  cases crK C <;> rfl
theorem ru_ok (d : Dc) : RuOk (ruM d) := ⟨fun u hu => by
  obtain ⟨c, _, rfl⟩ := List.mem_map.1 hu
  exact mskN_lt _ _⟩
theorem all_test (ps : List Pk) (hl : ps.length ≤ 20) (i : Nat) : (allM ps).testBit i = true ↔ i < ps.length := by
  unfold allM
  rw [mskN_test]
  constructor
  · intro h; exact h.1
  · intro h; exact ⟨h, by omega, rfl⟩
theorem an_ok {d : Dc} (hl : d.packs.length ≤ 20) (cs : List Cr) : Gd (ruM d) (nmL d.packs 26) (tlL cs) (anM d cs) ∧ ∀ S, (∀ i, S.testBit i = true → i < d.packs.length) → Vd (ruM d) S → (anM d cs).f = true ∧ (anM d cs).c ≤ csN (tlL cs) (nmL d.packs 26) S S := by
  have hrl : (ruM d).packs.length = d.packs.length := rp_len d.packs
  obtain ⟨h1, _, h3⟩ := srcM_ok (ru_ok d) (by omega) (nmL d.packs 26) (tlL cs) (allM d.packs + 1048577) 0 (allM d.packs) ⟨false, 0, 0⟩ (by omega) (by decide) (mskN_lt _ _) (fun i h => by rw [hrl]; exact (all_test _ hl i).1 h) (fun i h => by rw [Nat.zero_testBit] at h; cases h) (Or.inl fun i h => by rw [Nat.zero_testBit] at h; cases h) (fun h => by cases h)
  refine ⟨h1, fun S hS hv => h3 S (fun i h => by rw [Nat.zero_testBit] at h; cases h) (fun i h => (all_test _ hl i).2 (hS i h)) hv⟩
theorem right_mask {t : List UInt8} (h0 : rdE t = 0) {O : List UInt8} (h : rightB (dcV t) O = true) : ∃ L S, Pq (dcV t).packs O L ∧ Mk (dcV t).packs L S ∧ Vd (ruM (dcV t)) S := by
  obtain ⟨_, _, _, r4, _⟩ := rd_ok h0
  have ha := Ap.of h0
  obtain ⟨e1, e2⟩ := (right_iff t O h0).1 h
  unfold uvE prE at e1
  unfold uvR at e2
  rw [if_pos h0] at e1 e2
  rcases hp : prL (dcV t).packs O with _ | L
  · rw [hp] at e1; simp at e1
  · rw [hp] at e2
    obtain ⟨S, _, hm⟩ := prS_some r4 ha hp
    have hq := Pq.of ha hp
    refine ⟨L, S, hq, hm, ?_⟩
    unfold Vd
    rw [fb_same r4 ha hm hq.sub hq.nd]
    exact e2
theorem ch_P : ChooseP chT chE where
  bad t C h := by unfold chE chT; rw [if_neg h, if_neg h]; exact ⟨rfl, rfl⟩
  cri t C h0 hc := by
    rw [crK_crit] at hc
    unfold chE chT
    rw [if_pos h0, if_pos h0]
    cases hk : crK C with
    | none => exact ⟨rfl, rfl⟩
    | some cs => rw [hk] at hc; cases hc
  non t C h0 hc h7 := by
    obtain ⟨_, _, _, r4, _⟩ := rd_ok h0
    rw [crK_crit] at hc
    unfold chE at h7
    unfold chT
    rw [if_pos h0] at h7 ⊢
    cases hk : crK C with
    | none => rw [hk] at hc; cases hc
    | some cs =>
      rw [hk] at h7
      simp only at h7 ⊢
      cases hf : (anM (dcV t) cs).f with
      | true => rw [hf] at h7; simp at h7
      | false =>
        refine ⟨rfl, fun O => ?_⟩
        cases hr : rightB (dcV t) O with
        | false => rfl
        | true =>
          obtain ⟨L, S, hq, hm, hv⟩ := right_mask h0 hr
          have := ((an_ok r4 cs).2 S (fun i hi => ((hm i).1 hi).1) hv).1
          rw [hf] at this
          cases this
  yes t C h0 hc h7 := by
    obtain ⟨_, _, _, r4, _⟩ := rd_ok h0
    have ha := Ap.of h0
    rw [crK_crit] at hc
    unfold chE at h7 ⊢
    unfold chT
    rw [if_pos h0] at h7 ⊢
    rw [if_pos h0]
    cases hk : crK C with
    | none => rw [hk] at hc; cases hc
    | some cs =>
      rw [hk] at h7
      simp only at h7 ⊢
      cases hf : (anM (dcV t) cs).f with
      | false => rw [hf] at h7; simp at h7
      | true =>
        simp only [if_true]
        obtain ⟨g1, g2⟩ := an_ok r4 cs
        obtain ⟨hv, hcost, hbits⟩ := g1 hf
        rw [show (ruM (dcV t)).packs.length = (dcV t).packs.length from rp_len _] at hbits
        obtain ⟨L, hL, hm⟩ := txN_some r4 ha hbits
        have hq := Pq.of ha hL
        refine ⟨trivial, ?_, fun O hO => ?_⟩
        · rw [right_iff t _ h0]
          unfold uvE uvR prE
          rw [if_pos h0, if_pos h0, hL]
          refine ⟨rfl, ?_⟩
          show fbN (dcV t) L = 0
          rw [← fb_same r4 ha hm hq.sub hq.nd]
          exact hv
        · obtain ⟨M, S, hqO, hmO, hvO⟩ := right_mask h0 hO
          rw [bt_same r4 ha hqO hq hmO hm C.length C cs (Nat.le_refl _) (crK_rd hk)]
          cases hb : btL (nmL (dcV t).packs 26) S (anM (dcV t) cs).p cs with
          | false => rfl
          | true =>
            exfalso
            have hlt := lex_cost (Nat.le_trans (nmL_few r4) r4) (fun c => most_few c S 26) (fun c => most_few c _ 26) cs [] (fun x hx => by simp at hx) hb
            have hle := (g2 S (fun i hi => ((hmO i).1 hi).1) hvO).2
            rw [hcost] at hle
            unfold tlL at hle
            omega

end Go.Proofs.YtenbnmbbfeekpabGreatDoor
