import Derived.Test.YtenbnmbbfeekpaaGreatDoorXO

/-
  Choose's answer where one pick is the best alone: plain mathematics.
-/
namespace Go.Proofs.YtenbnmbbfeekpaaGreatDoor

/-- Choose's text T and its error E, as P8 asks. -/
structure ChooseP (T : List UInt8 → List UInt8 → List UInt8) (E : List UInt8 → List UInt8 → Nat) : Prop where
  bad : ∀ t C, rdE t ≠ 0 → E t C = rdE t ∧ T t C = []
  cri : ∀ t C, rdE t = 0 → critB C = false → E t C = 6 ∧ T t C = []
  non : ∀ t C, rdE t = 0 → critB C = true → E t C = 7 → T t C = [] ∧ ∀ O, rightB (dcV t) O = false
  yes : ∀ t C, rdE t = 0 → critB C = true → E t C ≠ 7 → E t C = 0 ∧ rightB (dcV t) (T t C) = true ∧ ∀ O, rightB (dcV t) O = true → btF (dcV t).packs O (T t C) C = false
theorem rd_le (t : List UInt8) : rdE t ≤ 4 := by
  unfold rdE
  repeat' split
  all_goals omega
theorem ChooseP.le {T : List UInt8 → List UInt8 → List UInt8} {E : List UInt8 → List UInt8 → Nat} (h : ChooseP T E) (t C : List UInt8) : E t C ≤ 7 := by
  by_cases h0 : rdE t = 0
  · cases hc : critB C with
    | false => rw [(h.cri t C h0 hc).1]; omega
    | true =>
      by_cases h7 : E t C = 7
      · omega
      · rw [(h.yes t C h0 hc h7).1]; omega
  · rw [(h.bad t C h0).1]
    have := rd_le t
    omega
theorem ChooseP.len {T : List UInt8 → List UInt8 → List UInt8} {E : List UInt8 → List UInt8 → Nat} (h : ChooseP T E) (t C : List UInt8) : (T t C).length ≤ 2000 := by
  by_cases h0 : rdE t = 0
  · cases hc : critB C with
    | false => rw [(h.cri t C h0 hc).2]; simp
    | true =>
      by_cases h7 : E t C = 7
      · rw [(h.non t C h0 hc h7).1]; simp
      · have h1 := (h.yes t C h0 hc h7).2.1
        unfold rightB at h1
        rw [Bool.and_eq_true] at h1
        obtain ⟨_, _, _, r4, _⟩ := rd_ok h0
        exact pick_len h1.1 (by omega)
  · rw [(h.bad t C h0).2]; simp
theorem ChooseP.chosen {T : List UInt8 → List UInt8 → List UInt8} {E : List UInt8 → List UInt8 → Nat} (h : ChooseP T E) (t C O : List UInt8) : chB t C (T t C) (E t C) O = true := by
  unfold chB
  by_cases h0 : rdE t = 0
  · rw [if_pos h0]
    cases hc : critB C with
    | false =>
      obtain ⟨e1, e2⟩ := h.cri t C h0 hc
      rw [e1, e2]
      rfl
    | true =>
      simp only [if_true]
      unfold chD
      by_cases h7 : E t C = 7
      · obtain ⟨e1, e2⟩ := h.non t C h0 hc h7
        rw [if_pos h7, e1, e2 O]
        rfl
      · obtain ⟨e1, e2, e3⟩ := h.yes t C h0 hc h7
        rw [if_neg h7, if_pos e1]
        have e2' := e2
        unfold rightB at e2'
        rw [e2', Bool.true_and]
        cases hr : rightB (dcV t) O with
        | false => rfl
        | true => rw [e3 O hr]; rfl
  · obtain ⟨e1, e2⟩ := h.bad t C h0
    rw [if_neg h0, e1, e2]
    simp

theorem ord_pair (P : List UInt8) (h : ordP P = true) : (ch2 P).Pairwise (fun x y => vl x < vl y) := by
  match P, h with
  | [], _ => simp [ch2]
  | [a], _ => simp [ch2]
  | a :: b :: r, h =>
    rw [ordP_L r.length r (Nat.le_refl _)] at h
    obtain ⟨h1, h2⟩ := ordL_gt r.length r (Nat.le_refl _) a b h
    rw [ch2]
    exact List.pairwise_cons.2 ⟨h1, h2⟩
theorem ch2_flat : ∀ (n : Nat) (P : List UInt8), P.length ≤ n → P.length % 2 = 0 → (ch2 P).flatten = P
  | _, [], _, _ => rfl
  | _, [c], _, h => by simp at h
  | 0, c :: d :: r, hn, _ => by simp at hn
  | n + 1, c :: d :: r, hn, h => by
    rw [ch2, List.flatten_cons, ch2_flat n r (by simp at hn; omega) (by simp at h; omega)]
    rfl
/-- All texts of some of these, in their order. -/
def subs : List (List UInt8) → List (List UInt8)
  | [] => [[]]
  | k :: r => subs r ++ (subs r).map (k ++ ·)
theorem subs_nil : ∀ (ks : List (List UInt8)), [] ∈ subs ks
  | [] => by simp [subs]
  | k :: r => by rw [subs]; exact List.mem_append_left _ (subs_nil r)
theorem subs_mem : ∀ (ks : List (List UInt8)), ks.Pairwise (fun x y => vl x < vl y) → ∀ (X : List (List UInt8)), X.Pairwise (fun x y => vl x < vl y) → (∀ x ∈ X, x ∈ ks) → X.flatten ∈ subs ks
  | [], _, X, _, hs => by
    match X, hs with
    | [], _ => simp [subs]
    | x :: _, hs => have := hs x (by simp); simp at this
  | k :: r, hk, X, hX, hs => by
    have hk' := List.pairwise_cons.1 hk
    match X, hX, hs with
    | [], _, _ => exact subs_nil _
    | x :: X', hX, hs =>
      have hX' := List.pairwise_cons.1 hX
      rw [subs]
      by_cases e : x = k
      · refine List.mem_append_right _ (List.mem_map.2 ⟨X'.flatten, subs_mem r hk'.2 X' hX'.2 (fun y hy => ?_), ?_⟩)
        · rcases List.mem_cons.1 (hs y (by simp [hy])) with h | h
          · exfalso
            have := hX'.1 y hy
            rw [e, h] at this
            exact Nat.lt_irrefl _ this
          · exact h
        · rw [e, List.flatten_cons]
      · refine List.mem_append_left _ (subs_mem r hk'.2 (x :: X') hX (fun y hy => ?_))
        have hxr : x ∈ r := by
          rcases List.mem_cons.1 (hs x (by simp)) with h | h
          · exact absurd h e
          · exact h
        rcases List.mem_cons.1 (hs y hy) with h | h
        · exfalso
          rcases List.mem_cons.1 hy with h2 | h2
          · exact e (h2.symm.trans h)
          · have h3 := hX'.1 y h2
            have h4 := hk'.1 x hxr
            rw [h] at h3
            omega
        · exact h
/-- A pick is one of them. -/
theorem pick_enum {ps : List Pk} (ha : Ap ps) (hl : ps.length ≤ 20) {ks : List (List UInt8)} (hk : ks.Pairwise (fun x y => vl x < vl y)) (hks : ∀ p ∈ ps, pkI p ∈ ks) {P : List UInt8} (h : pickB ps P = true) : P ∈ subs ks := by
  have h2 := h
  rw [pick_same ha hl] at h2
  obtain ⟨L, hL⟩ := Option.isSome_iff_exists.1 h2
  have hq := Pq.of ha hL
  unfold pickB at h
  simp only [Bool.and_eq_true, beq_iff_eq, decide_eq_true_eq] at h
  have h3 := subs_mem ks hk (ch2 P) (ord_pair P h.1.2) (fun x hx => by
    rw [← hq.keys] at hx
    obtain ⟨p, hp, rfl⟩ := List.mem_map.1 hx
    exact hks p (hq.sub p hp))
  rwa [ch2_flat P.length P (Nat.le_refl _) h.1.1.1] at h3
theorem ChooseP.unique {T : List UInt8 → List UInt8 → List UInt8} {E : List UInt8 → List UInt8 → Nat} (h : ChooseP T E) {t C U : List UInt8} {ks : List (List UInt8)} (h0 : rdE t = 0) (hc : critB C = true) (hk : ks.Pairwise (fun x y => vl x < vl y)) (hks : ∀ p ∈ (dcV t).packs, pkI p ∈ ks) (hU : rightB (dcV t) U = true)
    (hall : ((subs ks).all fun X => !rightB (dcV t) X || btF (dcV t).packs U X C || X == U) = true) : T t C = U ∧ E t C = 0 := by
  have h7 : E t C ≠ 7 := by
    intro e
    have := (h.non t C h0 hc e).2 U
    rw [hU] at this
    cases this
  obtain ⟨e1, e2, e3⟩ := h.yes t C h0 hc h7
  refine ⟨?_, e1⟩
  obtain ⟨_, _, _, r4, _⟩ := rd_ok h0
  have e2' := e2
  unfold rightB at e2'
  rw [Bool.and_eq_true] at e2'
  have hm := pick_enum (Ap.of h0) r4 hk hks e2'.1
  have := (List.all_eq_true.1 hall) _ hm
  rw [e2, e3 U hU] at this
  simpa using this
theorem ChooseP.nothing {T : List UInt8 → List UInt8 → List UInt8} {E : List UInt8 → List UInt8 → Nat} (h : ChooseP T E) {t C : List UInt8} {ks : List (List UInt8)} (h0 : rdE t = 0) (hc : critB C = true) (hk : ks.Pairwise (fun x y => vl x < vl y)) (hks : ∀ p ∈ (dcV t).packs, pkI p ∈ ks)
    (hall : ((subs ks).all fun X => !rightB (dcV t) X) = true) : T t C = [] ∧ E t C = 7 := by
  by_cases h7 : E t C = 7
  · exact ⟨(h.non t C h0 hc h7).1, h7⟩
  · exfalso
    obtain ⟨_, e2, _⟩ := h.yes t C h0 hc h7
    obtain ⟨_, _, _, r4, _⟩ := rd_ok h0
    have e2' := e2
    unfold rightB at e2'
    rw [Bool.and_eq_true] at e2'
    have hm := pick_enum (Ap.of h0) r4 hk hks e2'.1
    have := (List.all_eq_true.1 hall) _ hm
    rw [e2] at this
    cases this

/-- The document's own example of Choose, with 'b>2' at its end. -/
def head6T : List UInt8 := [97, 49, 43, 58, 98, 58, 58, 59, 97, 50, 58, 98, 62, 50, 58, 58, 59, 98, 49, 43, 58, 58, 58, 59, 98, 50, 58, 58, 58, 59, 47, 97, 47, 47, 98, 62, 50]
def head6K : List (List UInt8) := [[97, 49], [97, 50], [98, 49], [98, 50]]
def head6U : List UInt8 := [97, 49, 98, 50]
theorem head6 {T : List UInt8 → List UInt8 → List UInt8} {E : List UInt8 → List UInt8 → Nat} (h : ChooseP T E) : T head6T [45, 99] = head6U ∧ E head6T [45, 99] = 0 :=
  h.unique (ks := head6K) (by decide +kernel) (by decide +kernel) (by decide +kernel) (by decide +kernel) (by decide +kernel) (by decide +kernel)

end Go.Proofs.YtenbnmbbfeekpaaGreatDoor

/-
  The document's examples that stand at the head of the statements without its answer: plain mathematics.
-/
namespace Go.Proofs.YtenbnmbbfeekpaaGreatDoor

def wk1 : List UInt8 := [97, 49, 43, 33, 58, 58, 58, 59, 98, 49, 43, 94, 58, 58, 58, 59, 98, 50, 58, 58, 58, 59, 47, 47, 47]
def wk2 : List UInt8 := [97, 49, 43, 58, 58, 58, 59, 98, 49, 43, 58, 58, 58, 59, 98, 50, 58, 58, 58, 59, 99, 49, 58, 58, 58, 59, 47, 47, 47]
def wk3 : List UInt8 := [97, 49, 43, 58, 98, 58, 58, 59, 97, 50, 58, 98, 62, 50, 58, 58, 59, 98, 49, 43, 58, 58, 58, 59, 98, 50, 58, 58, 58, 59, 47, 97, 47, 47, 98]
def wk4 : List UInt8 := [97, 49, 58, 98, 58, 58, 59, 47, 97, 47, 47]
theorem wk_v1 : uvR wk1 [97, 49] = 3 ∧ uvE wk1 [97, 49] = 0 := by decide +kernel
theorem wk_v2 : uvR wk1 [97, 49, 98, 50] = 0 ∧ uvE wk1 [97, 49, 98, 50] = 0 := by decide +kernel
theorem wk_s : usT wk2 [45, 99] [98, 49, 99, 49] = [50] ∧ usE wk2 [45, 99] [98, 49, 99, 49] = 0 := by decide +kernel
theorem wk_c1 {T : List UInt8 → List UInt8 → List UInt8} {E : List UInt8 → List UInt8 → Nat} (h : ChooseP T E) : T wk3 [45, 99] = [97, 49, 98, 49] ∧ E wk3 [45, 99] = 0 :=
  h.unique (ks := head6K) (by decide +kernel) (by decide +kernel) (by decide +kernel) (by decide +kernel) (by decide +kernel) (by decide +kernel)
theorem wk_c2 {T : List UInt8 → List UInt8 → List UInt8} {E : List UInt8 → List UInt8 → Nat} (h : ChooseP T E) : T wk4 [43, 110] = [] ∧ E wk4 [43, 110] = 7 :=
  h.nothing (ks := [[97, 49]]) (by decide +kernel) (by decide +kernel) (by decide +kernel) (by decide +kernel) (by decide +kernel)

end Go.Proofs.YtenbnmbbfeekpaaGreatDoor

/-
  Picks that change nothing; picks with the same packages: plain mathematics.
-/
namespace Go.Proofs.YtenbnmbbfeekpaaGreatDoor

theorem sorted_ext : ∀ (X Y : List (List UInt8)), X.Pairwise (fun x y => vl x < vl y) → Y.Pairwise (fun x y => vl x < vl y) → (∀ x, x ∈ X ↔ x ∈ Y) → X = Y
  | [], [], _, _, _ => rfl
  | [], y :: Y, _, _, h => by have := (h y).2 (by simp); simp at this
  | x :: X, [], _, _, h => by have := (h x).1 (by simp); simp at this
  | x :: X, y :: Y, hX, hY, h => by
    have hX' := List.pairwise_cons.1 hX
    have hY' := List.pairwise_cons.1 hY
    have e : x = y := by
      rcases List.mem_cons.1 ((h x).1 (by simp)) with h1 | h1
      · exact h1
      · rcases List.mem_cons.1 ((h y).2 (by simp)) with h2 | h2
        · exact h2.symm
        · have a1 := hY'.1 x h1
          have a2 := hX'.1 y h2
          omega
    subst e
    rw [sorted_ext X Y hX'.2 hY'.2 (fun z => ?_)]
    have hz := h z
    constructor
    · intro hx
      rcases List.mem_cons.1 (hz.1 (by simp [hx])) with h1 | h1
      · subst h1; exact absurd (hX'.1 z hx) (Nat.lt_irrefl _)
      · exact h1
    · intro hy
      rcases List.mem_cons.1 (hz.2 (by simp [hy])) with h1 | h1
      · subst h1; exact absurd (hY'.1 z hy) (Nat.lt_irrefl _)
      · exact h1
/-- A text that is a pick, and its packages. -/
theorem pick_pq {ps : List Pk} (ha : Ap ps) (hl : ps.length ≤ 20) {P : List UInt8} (h : pickB ps P = true) : ∃ L, prL ps P = some L ∧ Pq ps P L ∧ (ch2 P).Pairwise (fun x y => vl x < vl y) ∧ (ch2 P).flatten = P := by
  have h2 := h
  rw [pick_same ha hl] at h2
  obtain ⟨L, hL⟩ := Option.isSome_iff_exists.1 h2
  unfold pickB at h
  simp only [Bool.and_eq_true, beq_iff_eq, decide_eq_true_eq] at h
  exact ⟨L, hL, Pq.of ha hL, ord_pair P h.1.2, ch2_flat P.length P (Nat.le_refl _) h.1.1.1⟩
/-- Two picks of the same packages are one text. -/
theorem pick_ext {ps : List Pk} (ha : Ap ps) (hl : ps.length ≤ 20) {P Q : List UInt8} {L M : List Pk} (hP : pickB ps P = true) (hQ : pickB ps Q = true) (pP : Pq ps P L) (pQ : Pq ps Q M) (h : ∀ p ∈ ps, p ∈ L ↔ p ∈ M) : P = Q := by
  obtain ⟨_, _, _, s1, f1⟩ := pick_pq ha hl hP
  obtain ⟨_, _, _, s2, f2⟩ := pick_pq ha hl hQ
  rw [← f1, ← f2, sorted_ext (ch2 P) (ch2 Q) s1 s2 (fun x => ?_)]
  rw [← pP.keys, ← pQ.keys, List.mem_map, List.mem_map]
  constructor
  · rintro ⟨p, hp, e⟩; exact ⟨p, (h p (pP.sub p hp)).1 hp, e⟩
  · rintro ⟨p, hp, e⟩; exact ⟨p, (h p (pQ.sub p hp)).2 hp, e⟩
theorem scN_zero {ps now L : List Pk} {c : Nat} : ∀ (k : Nat), scN ps now L c k = 0 → ∀ a, a < k → cnt1 ps now L c (97 + a) = false
  | 0, _, a, ha => by omega
  | k + 1, h, a, ha => by
    rw [scN] at h
    rcases Nat.lt_or_ge a k with h1 | h1
    · exact scN_zero k (by omega) a h1
    · have : a = k := by omega
      subst this
      cases hc : cnt1 ps now L c (97 + a) with
      | false => rfl
      | true => rw [hc] at h; simp at h
/-- Nothing is changed: what is picked is what is there now. -/
theorem unchanged {ps : List Pk} (ha : Ap ps) {P : List UInt8} {L : List Pk} (hp : Pq ps P L) (h : scN ps (nowL ps) L 99 26 = 0) : ∀ p ∈ ps, p ∈ L ↔ p ∈ nowL ps := by
  intro p hps
  have hn := ha.n hps
  have hv := ha.v hps
  have h1 := scN_zero 26 h (p.n - 97) (by omega)
  rw [show 97 + (p.n - 97) = p.n by omega] at h1
  unfold cnt1 at h1
  rw [if_neg (by decide), if_neg (by decide), if_pos rfl] at h1
  have h2 : svB (nowL ps) L p.n = true := by simpa using h1
  unfold svB at h2
  rw [sv_iff] at h2
  have h3 := h2 p.v (by omega) (by omega)
  have hsub : ∀ q ∈ nowL ps, q ∈ ps := fun q hq => (List.mem_filter.1 hq).1
  have am : ∀ (M : List Pk), (∀ q ∈ M, q ∈ ps) → (amB M p.n p.v = true ↔ p ∈ M) := by
    intro M hM
    unfold amB
    rw [List.any_eq_true]
    constructor
    · rintro ⟨q, hq, e⟩
      simp at e
      rw [← ha.ap q (hM q hq) p hps e.1 e.2]
      exact hq
    · intro hq; exact ⟨p, hq, by simp⟩
  rw [← am L hp.sub, ← am (nowL ps) hsub, h3]
theorem dig_zero {n : Nat} (hn : n ≤ 26) (h : digT n = [48]) : n = 0 := by
  unfold digT at h
  split at h
  · rename_i h10
    simp only [List.cons.injEq, and_true] at h
    have := congrArg UInt8.toNat h
    rw [b8_val (by omega)] at this
    have e : (48 : UInt8).toNat = 48 := rfl
    omega
  · simp at h
theorem right_iff (t O : List UInt8) (h0 : rdE t = 0) : rightB (dcV t) O = true ↔ uvE t O = 0 ∧ uvR t O = 0 := by
  obtain ⟨e1, e2⟩ := valid_same t O
  rw [e1, e2]
  unfold rightB vaE vaR
  rw [if_pos h0, if_pos h0]
  cases hp : pickB (dcV t).packs O with
  | false => simp
  | true => simp

theorem ChooseP.err_same {T : List UInt8 → List UInt8 → List UInt8} {E : List UInt8 → List UInt8 → Nat} (h : ChooseP T E) {t C D : List UInt8} (hC : critB C = true) (hD : critB D = true) : E t C = E t D := by
  by_cases h0 : rdE t = 0
  · by_cases h1 : E t C = 7
    · by_cases h2 : E t D = 7
      · rw [h1, h2]
      · exfalso
        have a1 := (h.non t C h0 hC h1).2 (T t D)
        rw [(h.yes t D h0 hD h2).2.1] at a1
        cases a1
    · by_cases h2 : E t D = 7
      · exfalso
        have a1 := (h.non t D h0 hD h2).2 (T t C)
        rw [(h.yes t C h0 hC h1).2.1] at a1
        cases a1
      · rw [(h.yes t C h0 hC h1).1, (h.yes t D h0 hD h2).1]
  · rw [(h.bad t C h0).1, (h.bad t D h0).1]
theorem ChooseP.none {T : List UInt8 → List UInt8 → List UInt8} {E : List UInt8 → List UInt8 → Nat} (h : ChooseP T E) {t C : List UInt8} (he : E t C ≠ 0) : T t C = [] := by
  by_cases h0 : rdE t = 0
  · cases hc : critB C with
    | false => exact (h.cri t C h0 hc).2
    | true =>
      by_cases h7 : E t C = 7
      · exact (h.non t C h0 hc h7).1
      · exact absurd (h.yes t C h0 hc h7).1 he
  · exact (h.bad t C h0).2
/-- A valid pick that changes nothing is what is chosen. -/
theorem ChooseP.calm {T : List UInt8 → List UInt8 → List UInt8} {E : List UInt8 → List UInt8 → Nat} (h : ChooseP T E) {t O : List UInt8} (hE : uvE t O = 0) (hR : uvR t O = 0) (_hsE : usE t [45, 99] O = 0) (hs : usT t [45, 99] O = [48]) : E t [45, 99] = 0 ∧ T t [45, 99] = O := by
  have h0 : rdE t = 0 := by
    unfold uvE at hE
    by_cases h0 : rdE t = 0
    · exact h0
    · rw [if_neg h0] at hE; exact hE
  have hc : critB [45, 99] = true := by decide +kernel
  have hr := (right_iff t O h0).2 ⟨hE, hR⟩
  have ha := Ap.of h0
  obtain ⟨_, _, _, r4, _⟩ := rd_ok h0
  have h7 : E t [45, 99] ≠ 7 := by
    intro e
    have := (h.non t _ h0 hc e).2 O
    rw [hr] at this
    cases this
  obtain ⟨e1, e2, e3⟩ := h.yes t _ h0 hc h7
  refine ⟨e1, ?_⟩
  have hpO : pickB (dcV t).packs O = true := by unfold rightB at hr; rw [Bool.and_eq_true] at hr; exact hr.1
  have hpT : pickB (dcV t).packs (T t [45, 99]) = true := by unfold rightB at e2; rw [Bool.and_eq_true] at e2; exact e2.1
  obtain ⟨L, hL, pL, _, _⟩ := pick_pq ha r4 hpO
  obtain ⟨M, hM, pM, _, _⟩ := pick_pq ha r4 hpT
  have hcl : crL [45, 99] = some [99] := by decide +kernel
  have hz : scN (dcV t).packs (nowL (dcV t).packs) L 99 26 = 0 := by
    unfold usT at hs
    rw [if_pos h0, hcl, hL] at hs
    have hs' : digT (scN (dcV t).packs (nowL (dcV t).packs) L 99 26) = [48] := hs
    exact dig_zero (scN_le _ _ _ _ _) hs'
  have hb := e3 O hr
  have hlet : letB 99 = true := by decide
  have nO : numT (dcV t).packs O 99 = 0 := by unfold numT; rw [num_same ha pL hlet 26 (Nat.le_refl _)]; exact hz
  have nT : numT (dcV t).packs (T t [45, 99]) 99 = scN (dcV t).packs (nowL (dcV t).packs) M 99 26 := by unfold numT; exact num_same ha pM hlet 26 (Nat.le_refl _)
  have hzM : scN (dcV t).packs (nowL (dcV t).packs) M 99 26 = 0 := by
    have hb' : (if numT (dcV t).packs O 99 = numT (dcV t).packs (T t [45, 99]) 99 then false else (decide (numT (dcV t).packs O 99 < numT (dcV t).packs (T t [45, 99]) 99) == true)) = false := hb
    rw [nO, nT] at hb'
    by_cases hx : 0 = scN (dcV t).packs (nowL (dcV t).packs) M 99 26
    · exact hx.symm
    · rw [if_neg hx] at hb'
      simp at hb'
      exact hb'
  refine (pick_ext ha r4 hpO hpT pL pM (fun p hp => ?_)).symm
  rw [unchanged ha pL hz p hp, unchanged ha pM hzM p hp]

end Go.Proofs.YtenbnmbbfeekpaaGreatDoor

namespace Go.Proofs.YtenbnmbbfeekpaaGreatDoor
open Go.RowKit

/-- Choose, called. -/
def ChooseC (T : List UInt8 → List UInt8 → List UInt8) (E : List UInt8 → List UInt8 → Nat) : Prop :=
  ∀ (t C : List UInt8) (w : World), t.length ≤ maxLen → C.length ≤ maxLen → Calls Tryz.prog 17 #[.string (bs t), .string (bs C)] w fun r w' => r = .returned (.tuple #[.string (bs (T t C)), .int .i64 (E t C : Nat)]) ∧ Below w.heap.size w w'

end Go.Proofs.YtenbnmbbfeekpaaGreatDoor
