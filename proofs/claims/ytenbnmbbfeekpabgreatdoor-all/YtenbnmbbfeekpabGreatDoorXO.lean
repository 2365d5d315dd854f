import Derived.Test.YtenbnmbbfeekpabGreatDoorXH

/-
  The packages of a pick, as the program and the document's answer find them: plain mathematics.
-/
namespace Go.Proofs.YtenbnmbbfeekpabGreatDoor

theorem u8_lt_or {a b : UInt8} (h : a ≠ b) : (decide (a < b)) = !(decide (b < a)) := by
  have h1 : a.toNat ≠ b.toNat := fun e => h (UInt8.toNat_inj.1 e)
  rw [Bool.eq_iff_iff]
  simp only [decide_eq_true_eq, Bool.not_eq_true', decide_eq_false_iff_not, UInt8.lt_iff_toNat_lt]
  omega
theorem gt_less : ∀ (a b : List UInt8), gtB a b = Op.bytesLess b a
  | [], [] => rfl
  | [], b :: y => by simp [gtB, Op.bytesLess]
  | a :: x, [] => by simp [gtB, Op.bytesLess]
  | a :: x, b :: y => by
    have ih := gt_less x y
    unfold gtB at ih ⊢
    simp only [Op.bytesLess]
    by_cases h : a = b
    · subst h
      simp at ih ⊢
      rw [← ih]
    · have h' : b ≠ a := fun e => h e.symm
      have h1 : (a == b) = false := by simpa using h
      have h2 : (b == a) = false := by simpa using h'
      have h3 : ((a :: x) == (b :: y)) = false := by simp [h]
      rw [h1, h2, h3, u8_lt_or h']
      simp
theorem less2 (a b c d : UInt8) : Op.bytesLess [a, b] [c, d] = decide (a.toNat * 256 + b.toNat < c.toNat * 256 + d.toNat) := by
  have hb := b.toNat_lt
  have hd := d.toNat_lt
  simp only [Op.bytesLess, Bool.and_false, Bool.or_false]
  rw [Bool.eq_iff_iff]
  simp only [Bool.or_eq_true, Bool.and_eq_true, decide_eq_true_eq, beq_iff_eq, UInt8.lt_iff_toNat_lt, ← UInt8.toNat_inj]
  omega

/-- The order from the left. -/
def ordL : List UInt8 → List UInt8 → Bool
  | last, a :: b :: r => gtB [a, b] last && ordL [a, b] r
  | _, _ => true
theorem ordP_L : ∀ (n : Nat) (r : List UInt8), r.length ≤ n → ∀ (a b : UInt8), ordP (a :: b :: r) = ordL [a, b] r
  | _, [], _, a, b => rfl
  | _, [c], _, a, b => rfl
  | 0, c :: d :: r, h, _, _ => by simp at h
  | n + 1, c :: d :: r, h, a, b => by
    rw [ordP, ordL, gt_less, ordP_L n r (by simp at h; omega)]
theorem ord_nil (P : List UInt8) : ordP P = ordL [] P := by
  match P with
  | [] => rfl
  | [a] => rfl
  | a :: b :: r =>
    rw [ordP_L r.length r (Nat.le_refl _), ordL]
    simp [gtB, Op.bytesLess]

def vl : List UInt8 → Nat
  | [a, b] => a.toNat * 256 + b.toNat
  | _ => 0
/-- In order: each later one is greater. -/
theorem ordL_gt : ∀ (n : Nat) (P : List UInt8), P.length ≤ n → ∀ (a b : UInt8), ordL [a, b] P = true → (∀ x ∈ ch2 P, vl [a, b] < vl x) ∧ (ch2 P).Pairwise (fun x y => vl x < vl y)
  | _, [], _, _, _, _ => by simp [ch2]
  | _, [c], _, _, _, _ => by simp [ch2]
  | 0, c :: d :: r, h, _, _, _ => by simp at h
  | n + 1, c :: d :: r, h, a, b, ho => by
    rw [ordL, Bool.and_eq_true, gt_less, less2, decide_eq_true_eq] at ho
    obtain ⟨h1, h2⟩ := ordL_gt n r (by simp at h; omega) c d ho.2
    rw [ch2]
    have h0 : vl [a, b] < vl [c, d] := ho.1
    refine ⟨fun x hx => ?_, ?_⟩
    · rcases List.mem_cons.1 hx with rfl | hx
      · exact h0
      · exact Nat.lt_trans h0 (h1 x hx)
    · exact List.pairwise_cons.2 ⟨h1, h2⟩
theorem ord_nodup (P : List UInt8) (h : ordP P = true) : (ch2 P).Nodup := by
  have key : (ch2 P).Pairwise (fun x y => vl x < vl y) := by
    match P, h with
    | [], _ => simp [ch2]
    | [a], _ => simp [ch2]
    | a :: b :: r, h =>
      rw [ordP_L r.length r (Nat.le_refl _)] at h
      obtain ⟨h1, h2⟩ := ordL_gt r.length r (Nat.le_refl _) a b h
      rw [ch2]
      exact List.pairwise_cons.2 ⟨h1, h2⟩
  exact key.imp (fun h e => by rw [e] at h; exact Nat.lt_irrefl _ h)
theorem ch2_len : ∀ (n : Nat) (P : List UInt8), P.length ≤ n → (ch2 P).length = P.length / 2
  | _, [], _ => by simp [ch2]
  | _, [c], _ => by simp [ch2]
  | 0, c :: d :: r, h => by simp at h
  | n + 1, c :: d :: r, h => by
    rw [ch2, List.length_cons, ch2_len n r (by simp at h; omega)]
    simp only [List.length_cons]
    omega

/-- Packages that a document may have. -/
structure Ap (ps : List Pk) : Prop where
  ok : ∀ p ∈ ps, PkOk p
  ap : ∀ p ∈ ps, ∀ q ∈ ps, p.n = q.n → p.v = q.v → p = q
  nd : ps.Nodup
theorem ft_nodup {ps : List Pk} (h : ¬ ftT ps < ps.length) : ps.Nodup := by
  refine List.pairwise_iff_getElem.2 fun i j hi hj hij e => ?_
  have h0 := ft_none ps (ps.length + 1) 0 (by omega) (by unfold ftT at h; omega) j hj (Nat.zero_le _)
  have h1 : amB (ps.take j) ps[j].n ps[j].v = true := by
    unfold amB
    rw [List.any_eq_true]
    exact ⟨ps[i], by rw [List.mem_iff_getElem]; exact ⟨i, by simp; omega, by simp⟩, by simp [e]⟩
  rw [h0] at h1
  cases h1
theorem Ap.of {t : List UInt8} (h : rdE t = 0) : Ap (dcV t).packs := by
  obtain ⟨_, r2, _, _, r5⟩ := rd_ok h
  exact ⟨r2.packs, fun p hp q hq => ft_apart r5 hp hq, ft_nodup r5⟩
theorem Ap.n {ps : List Pk} (h : Ap ps) {p : Pk} (hp : p ∈ ps) : 97 ≤ p.n ∧ p.n ≤ 122 := by have := nm_rng (h.ok p hp).n; omega
theorem Ap.v {ps : List Pk} (h : Ap ps) {p : Pk} (hp : p ∈ ps) : 49 ≤ p.v ∧ p.v ≤ 57 := by have := vr_rng (h.ok p hp).v; omega
theorem b8_inj {a b : Nat} (ha : a < 256) (hb : b < 256) (h : b8 a = b8 b) : a = b := by have := congrArg UInt8.toNat h; rwa [b8_val ha, b8_val hb] at this
theorem Ap.key {ps : List Pk} (h : Ap ps) {p q : Pk} (hp : p ∈ ps) (hq : q ∈ ps) (e : pkI p = pkI q) : p = q := by
  unfold pkI at e
  simp only [List.cons.injEq, and_true] at e
  have a1 := h.n hp
  have a2 := h.n hq
  have a3 := h.v hp
  have a4 := h.v hq
  exact h.ap p hp q hq (b8_inj (by omega) (by omega) e.1) (b8_inj (by omega) (by omega) e.2)

/-- The packages of a pick. -/
structure Pq (ps : List Pk) (P : List UInt8) (L : List Pk) : Prop where
  keys : L.map pkI = ch2 P
  sub : ∀ p ∈ L, p ∈ ps
  nd : L.Nodup
theorem nb_get {ps : List Pk} {a b : Nat} {p : Pk} (h : ps[nbT ps a b]? = some p) : p ∈ ps ∧ p.n = a ∧ p.v = b := by
  obtain ⟨hl, e⟩ := List.getElem?_eq_some_iff.1 h
  have h2 : (ps[nbT ps a b].n == a && ps[nbT ps a b].v == b) = true := List.findIdx_getElem (xs := ps) (p := fun q : Pk => q.n == a && q.v == b) (w := hl)
  rw [e] at h2
  simp at h2
  exact ⟨List.mem_of_getElem? h, h2.1, h2.2⟩
theorem nb_some {ps : List Pk} {p : Pk} (hp : p ∈ ps) : ∃ q, ps[nbT ps p.n p.v]? = some q := by
  have h : nbT ps p.n p.v < ps.length := by
    have := nb_am ps p.n p.v
    have h2 : amB ps p.n p.v = true := by unfold amB; rw [List.any_eq_true]; exact ⟨p, hp, by simp⟩
    rw [h2] at this
    exact of_decide_eq_true this
  exact ⟨_, List.getElem?_eq_getElem h⟩

theorem rdL_some {ps : List Pk} : ∀ (n : Nat) (last P : List UInt8) (L : List Pk), P.length ≤ n → rdL ps last P = some L → L.map pkI = ch2 P ∧ (∀ p ∈ L, p ∈ ps) ∧ ordL last P = true
  | _, last, [], L, _, h => by simp [rdL] at h; subst h; simp [ch2, ordL]
  | _, last, [c], L, _, h => by simp [rdL] at h; subst h; simp [ch2, ordL]
  | 0, last, c :: d :: r, L, hn, _ => by simp at hn
  | n + 1, last, c :: d :: r, L, hn, h => by
    rw [rdL] at h
    split at h
    · cases h
    · rename_i p hp
      obtain ⟨hm, e1, e2⟩ := nb_get hp
      split at h
      · rename_i hg
        cases hr : rdL ps [c, d] r with
        | none => rw [hr] at h; simp at h
        | some M =>
          rw [hr] at h
          simp at h
          subst h
          obtain ⟨h1, h2, h3⟩ := rdL_some n [c, d] r M (by simp at hn; omega) hr
          refine ⟨?_, ?_, ?_⟩
          · rw [List.map_cons, h1, ch2]
            unfold pkI
            rw [e1, e2, b8_toNat, b8_toNat]
          · intro q hq
            rcases List.mem_cons.1 hq with rfl | hq
            · exact hm
            · exact h2 q hq
          · rw [ordL, hg, h3]; rfl
      · cases h
theorem rdL_all {ps : List Pk} (ha : Ap ps) : ∀ (n : Nat) (last P : List UInt8), P.length ≤ n → (∀ x ∈ ch2 P, ∃ p ∈ ps, pkI p = x) → ordL last P = true → ∃ L, rdL ps last P = some L
  | _, last, [], _, _, _ => ⟨[], rfl⟩
  | _, last, [c], _, _, _ => ⟨[], rfl⟩
  | 0, last, c :: d :: r, hn, _, _ => by simp at hn
  | n + 1, last, c :: d :: r, hn, hx, ho => by
    rw [ordL, Bool.and_eq_true] at ho
    rw [ch2] at hx
    obtain ⟨p, hp, e⟩ := hx [c, d] (by simp)
    obtain ⟨M, hM⟩ := rdL_all ha n [c, d] r (by simp at hn; omega) (fun x h => hx x (by simp [h])) ho.2
    unfold pkI at e
    simp only [List.cons.injEq, and_true] at e
    have a1 := ha.n hp
    have a2 := ha.v hp
    have e1 : c.toNat = p.n := by rw [← e.1, b8_val (by omega)]
    have e2 : d.toNat = p.v := by rw [← e.2, b8_val (by omega)]
    obtain ⟨q, hq⟩ := nb_some hp
    refine ⟨q :: M, ?_⟩
    rw [rdL, e1, e2, hq]
    simp only
    rw [ho.1, hM]
    rfl

/-- A list without repetitions is no longer than one that has all of it. -/
theorem nodup_le {α : Type} [DecidableEq α] : ∀ (A B : List α), A.Nodup → (∀ a ∈ A, a ∈ B) → A.length ≤ B.length
  | [], B, _, _ => Nat.zero_le _
  | a :: A, B, hA, hs => by
    have hb := hs a (by simp)
    have hA' := List.nodup_cons.1 hA
    have h1 := nodup_le A (B.erase a) hA'.2 (fun x hx => by
      have hne : x ≠ a := fun e => hA'.1 (e ▸ hx)
      exact (List.mem_erase_of_ne hne).2 (hs x (by simp [hx])))
    rw [List.length_erase_of_mem hb] at h1
    have : 0 < B.length := List.length_pos_of_mem hb
    simp only [List.length_cons]
    omega
theorem nodup_len {α : Type} [DecidableEq α] {A B : List α} (hA : A.Nodup) (hB : B.Nodup) (h : ∀ a, a ∈ A ↔ a ∈ B) : A.length = B.length :=
  Nat.le_antisymm (nodup_le A B hA (fun a ha => (h a).1 ha)) (nodup_le B A hB (fun a ha => (h a).2 ha))

theorem inB_iff (P I : List UInt8) : inB P I = true ↔ I ∈ ch2 P := by
  unfold inB
  rw [List.any_eq_true]
  constructor
  · rintro ⟨x, hx, e⟩; rw [beq_iff_eq] at e; subst e; exact hx
  · intro h; exact ⟨I, h, by simp⟩

end Go.Proofs.YtenbnmbbfeekpabGreatDoor

/-
  Valid: what the program answers is what the document asks: plain mathematics.
-/
namespace Go.Proofs.YtenbnmbbfeekpabGreatDoor

theorem Pq.mem {ps : List Pk} {P : List UInt8} {L : List Pk} (ha : Ap ps) (h : Pq ps P L) {p : Pk} (hp : p ∈ ps) : inB P (pkI p) = true ↔ p ∈ L := by
  rw [inB_iff, ← h.keys, List.mem_map]
  constructor
  · rintro ⟨q, hq, e⟩
    rw [← ha.key (h.sub q hq) hp e]
    exact hq
  · intro hL
    exact ⟨p, hL, rfl⟩
theorem Pq.of {ps : List Pk} {P : List UInt8} {L : List Pk} (_ha : Ap ps) (h : prL ps P = some L) : Pq ps P L := by
  unfold prL at h
  split at h
  · cases h
  · split at h
    · obtain ⟨h1, h2, h3⟩ := rdL_some P.length [] P L (Nat.le_refl _) h
      refine ⟨h1, h2, ?_⟩
      have hn := ord_nodup P (by rw [ord_nil]; exact h3)
      rw [← h1] at hn
      exact List.Pairwise.of_map pkI (fun a b hab e => hab (by rw [e])) hn
    · cases h

/-- A text is a pick just if the program reads one. -/
theorem pick_same {ps : List Pk} (ha : Ap ps) (hl : ps.length ≤ 20) (P : List UInt8) : pickB ps P = (prL ps P).isSome := by
  have hkeys : (ps.map pkI).Nodup := by
    refine List.pairwise_map.2 ?_
    exact ha.nd.imp_of_mem (fun {a b} h1 h2 h e => h (ha.key h1 h2 e))
  have hcl := ch2_len P.length P (Nat.le_refl _)
  rw [Bool.eq_iff_iff]
  constructor
  · intro h
    unfold pickB at h
    simp only [Bool.and_eq_true, beq_iff_eq, decide_eq_true_eq] at h
    obtain ⟨⟨⟨h1, h2⟩, h3⟩, h4⟩ := h
    have hn := ord_nodup P h3
    -- those of the packages that are in the text: as many as the text has pairs
    have hA : ((ps.filter fun p => inB P (pkI p)).map pkI).length = (ch2 P).length := by
      rw [List.length_map, hcl]
      unfold inN at h4
      omega
    have hAn : ((ps.filter fun p => inB P (pkI p)).map pkI).Nodup := hkeys.sublist (List.Sublist.map pkI List.filter_sublist)
    have hsub : ∀ x ∈ (ps.filter fun p => inB P (pkI p)).map pkI, x ∈ ch2 P := by
      intro x hx
      obtain ⟨p, hp, rfl⟩ := List.mem_map.1 hx
      exact (inB_iff _ _).1 (List.mem_filter.1 hp).2
    have hall : ∀ x ∈ ch2 P, ∃ p ∈ ps, pkI p = x := by
      intro x hx
      by_cases hm : x ∈ (ps.filter fun p => inB P (pkI p)).map pkI
      · obtain ⟨p, hp, e⟩ := List.mem_map.1 hm
        exact ⟨p, (List.mem_filter.1 hp).1, e⟩
      · exfalso
        have h5 := nodup_le (x :: (ps.filter fun p => inB P (pkI p)).map pkI) (ch2 P) (List.nodup_cons.2 ⟨hm, hAn⟩) (fun y hy => by
          rcases List.mem_cons.1 hy with rfl | hy
          · exact hx
          · exact hsub y hy)
        rw [List.length_cons, hA] at h5
        omega
    obtain ⟨L, hL⟩ := rdL_all ha P.length [] P (Nat.le_refl _) hall (by rw [← ord_nil]; exact h3)
    unfold prL
    rw [if_neg (by omega), if_pos h1, hL]
    rfl
  · intro h
    obtain ⟨L, hL⟩ := Option.isSome_iff_exists.1 h
    have hpq := Pq.of ha hL
    unfold prL at hL
    split at hL
    · cases hL
    · split at hL
      · rename_i hev
        obtain ⟨h1, h2, h3⟩ := rdL_some P.length [] P L (Nat.le_refl _) hL
        have hLlen : L.length = P.length / 2 := by rw [← hcl, ← h1, List.length_map]
        haveI : DecidableEq Pk := fun a b => Classical.propDecidable (a = b)
        have hle : L.length ≤ ps.length := nodup_le L ps hpq.nd hpq.sub
        have hin : inN ps P = L.length := by
          unfold inN
          refine nodup_len (ha.nd.sublist List.filter_sublist) hpq.nd (fun p => ?_)
          rw [List.mem_filter]
          constructor
          · rintro ⟨hp, hi⟩; exact (hpq.mem ha hp).1 hi
          · intro hp; exact ⟨hpq.sub p hp, (hpq.mem ha (hpq.sub p hp)).2 hp⟩
        unfold pickB
        rw [ord_nil, h3]
        simp only [Bool.and_eq_true, beq_iff_eq, decide_eq_true_eq, and_true]
        refine ⟨⟨hev, by omega⟩, by omega⟩
      · cases hL

/-- One of the packages picked fits. -/
theorem fit_same {ps : List Pk} {P : List UInt8} {L : List Pk} (ha : Ap ps) (h : Pq ps P L) (c : Cn) : fittedB ps P c [] = fdB L c := by
  unfold fittedB fdB
  rw [Bool.eq_iff_iff, List.any_eq_true, List.any_eq_true]
  constructor
  · rintro ⟨p, hp, e⟩
    simp only [Bool.and_eq_true] at e
    exact ⟨p, (h.mem ha hp).1 e.1.1, e.1.2⟩
  · rintro ⟨p, hp, e⟩
    refine ⟨p, h.sub p hp, ?_⟩
    rw [(h.mem ha (h.sub p hp)).2 hp, e]
    rfl
theorem met_same {ps : List Pk} {P : List UInt8} {L : List Pk} (ha : Ap ps) (h : Pq ps P L) (p : Pk) : metB ps P p = nmetB L p.needs := by
  unfold metB nmetB ndB
  simp only [fit_same ha h]
theorem all_picked {ps : List Pk} {P : List UInt8} {L : List Pk} (ha : Ap ps) (h : Pq ps P L) (f g : Pk → Bool) (hfg : ∀ p ∈ L, f p = g p) : (ps.all fun p => !(inB P (pkI p) && !f p)) = L.all g := by
  rw [Bool.eq_iff_iff, List.all_eq_true, List.all_eq_true]
  constructor
  · intro hx p hp
    have := hx p (h.sub p hp)
    rw [(h.mem ha (h.sub p hp)).2 hp] at this
    rw [← hfg p hp]
    simpa using this
  · intro hx p hp
    by_cases hL : p ∈ L
    · have := hx p hL
      rw [← hfg p hL] at this
      simp [this]
    · have : inB P (pkI p) = false := by
        cases hi : inB P (pkI p) with
        | false => rfl
        | true => exact absurd ((h.mem ha hp).1 hi) hL
      simp [this]

theorem nc_iff {L : List Pk} : ∀ (f k : Nat), L.length < f + k → (ncT L f k = true ↔ ∀ i (hi : i < L.length), k ≤ i → (L[i].conf.all (nc1 (L.take i) (L.drop (i + 1)))) = true)
  | 0, k, hf => by
    constructor
    · intro _ i hi hk; omega
    · intro _; rfl
  | f + 1, k, hf => by
    rcases Nat.lt_or_ge k L.length with hk | hk
    · rw [ncT, List.getElem?_eq_getElem hk]
      simp only [Bool.and_eq_true]
      rw [nc_iff f (k + 1) (by omega)]
      constructor
      · rintro ⟨h1, h2⟩ i hi hki
        rcases Nat.lt_or_ge k i with h3 | h3
        · exact h2 i hi h3
        · have : i = k := by omega
          subst this
          exact h1
      · intro hx
        exact ⟨hx k hk (Nat.le_refl _), fun i hi hki => hx i hi (by omega)⟩
    · rw [ncT, List.getElem?_eq_none hk]
      constructor
      · intro _ i hi hki; omega
      · intro _; rfl
theorem nd_apart {L : List Pk} (hn : L.Nodup) {i : Nat} (hi : i < L.length) (q : Pk) : (q ∈ L.take i ∨ q ∈ L.drop (i + 1)) ↔ (q ∈ L ∧ q ≠ L[i]) := by
  have hp := List.pairwise_iff_getElem.1 hn
  constructor
  · rintro (h | h)
    · obtain ⟨j, hj, rfl⟩ := List.getElem_of_mem h
      have hj' : j < i ∧ j < L.length := by simp at hj; omega
      rw [List.getElem_take]
      exact ⟨List.getElem_mem _, hp j i hj'.2 hi hj'.1⟩
    · obtain ⟨j, hj, rfl⟩ := List.getElem_of_mem h
      have hj' : i + 1 + j < L.length := by simp at hj; omega
      rw [List.getElem_drop]
      exact ⟨List.getElem_mem _, fun e => hp i (i + 1 + j) hi hj' (by omega) e.symm⟩
  · rintro ⟨h, hne⟩
    obtain ⟨j, hj, rfl⟩ := List.getElem_of_mem h
    rcases Nat.lt_trichotomy j i with h1 | h1 | h1
    · left
      rw [List.mem_iff_getElem]
      exact ⟨j, by simp; omega, by simp⟩
    · subst h1; exact absurd rfl hne
    · right
      rw [List.mem_iff_getElem]
      refine ⟨j - (i + 1), by simp; omega, ?_⟩
      rw [List.getElem_drop]
      congr 1
      omega
theorem beside_same {ps : List Pk} {P : List UInt8} {L : List Pk} (ha : Ap ps) (h : Pq ps P L) {i : Nat} (hi : i < L.length) : besideB ps P L[i] = L[i].conf.all (nc1 (L.take i) (L.drop (i + 1))) := by
  unfold besideB
  congr 1
  funext c
  have hpi := h.sub _ (List.getElem_mem hi)
  unfold nc1
  congr 1
  unfold fittedB fdB
  rw [Bool.eq_iff_iff, List.any_eq_true, Bool.or_eq_true, List.any_eq_true, List.any_eq_true]
  have key := nd_apart h.nd hi
  constructor
  · rintro ⟨q, hq, e⟩
    simp only [Bool.and_eq_true, Bool.not_eq_true', beq_eq_false_iff_ne] at e
    have hqL := (h.mem ha hq).1 e.1.1
    have hne : q ≠ L[i] := fun e' => e.2 (by rw [e'])
    rcases (key q).2 ⟨hqL, hne⟩ with h1 | h1
    · exact Or.inl ⟨q, h1, e.1.2⟩
    · exact Or.inr ⟨q, h1, e.1.2⟩
  · rintro (⟨q, hq, e⟩ | ⟨q, hq, e⟩)
    · obtain ⟨hqL, hne⟩ := (key q).1 (Or.inl hq)
      refine ⟨q, h.sub q hqL, ?_⟩
      have h2 : (pkI q == pkI L[i]) = false := by rw [beq_eq_false_iff_ne]; exact fun e' => hne (ha.key (h.sub q hqL) hpi e')
      rw [(h.mem ha (h.sub q hqL)).2 hqL, e, h2]
      rfl
    · obtain ⟨hqL, hne⟩ := (key q).1 (Or.inr hq)
      refine ⟨q, h.sub q hqL, ?_⟩
      have h2 : (pkI q == pkI L[i]) = false := by rw [beq_eq_false_iff_ne]; exact fun e' => hne (ha.key (h.sub q hqL) hpi e')
      rw [(h.mem ha (h.sub q hqL)).2 hqL, e, h2]
      rfl
theorem nc_same {ps : List Pk} {P : List UInt8} {L : List Pk} (ha : Ap ps) (h : Pq ps P L) : ps.all (r2 ps P) = ncB L := by
  have h1 : ps.all (r2 ps P) = L.all (besideB ps P) := all_picked ha h (besideB ps P) (besideB ps P) (fun _ _ => rfl)
  rw [h1, Bool.eq_iff_iff, List.all_eq_true]
  unfold ncB
  rw [nc_iff (L.length + 1) 0 (by omega)]
  constructor
  · intro hx i hi _
    rw [← beside_same ha h hi]
    exact hx _ (List.getElem_mem hi)
  · intro hx p hp
    obtain ⟨i, hi, rfl⟩ := List.getElem_of_mem hp
    rw [beside_same ha h hi]
    exact hx i hi (Nat.zero_le _)

end Go.Proofs.YtenbnmbbfeekpabGreatDoor

/-
  Valid: the versions of a name; the rules 3 and 6; the answer: plain mathematics.
-/
namespace Go.Proofs.YtenbnmbbfeekpabGreatDoor

theorem all_cong {α : Type} {f g : α → Bool} : ∀ {l : List α}, (∀ a ∈ l, f a = g a) → l.all f = l.all g
  | [], _ => rfl
  | a :: l, h => by
    rw [List.all_cons, List.all_cons, h a (by simp), all_cong (fun b hb => h b (by simp [hb]))]
theorem mem_vIn {ps : List Pk} {P N : List UInt8} {now : Bool} {v : Nat} {x : UInt8} : x ∈ vIn ps P N now v ↔ ∃ p ∈ ps, vA P now p = true ∧ [b8 p.n] = N ∧ p.v = v ∧ x = b8 p.v := by
  unfold vIn vHas
  rw [List.mem_map]
  constructor
  · rintro ⟨p, hp, rfl⟩
    obtain ⟨h1, h2⟩ := List.mem_filter.1 hp
    simp only [Bool.and_eq_true, beq_iff_eq] at h2
    exact ⟨p, h1, h2.1.1, h2.1.2, h2.2, rfl⟩
  · rintro ⟨p, h1, h2, h3, h4, rfl⟩
    refine ⟨p, List.mem_filter.2 ⟨h1, ?_⟩, rfl⟩
    simp [h2, h3, h4]
theorem mem_vers {ps : List Pk} {P N : List UInt8} {now : Bool} {x : UInt8} : ∀ (a : Nat), x ∈ vers ps P N now a ↔ ∃ p ∈ ps, vA P now p = true ∧ [b8 p.n] = N ∧ 49 ≤ p.v ∧ p.v < 49 + a ∧ x = b8 p.v
  | 0 => by
    simp only [vers, List.not_mem_nil, false_iff]
    rintro ⟨p, _, _, _, h1, h2, _⟩
    omega
  | a + 1 => by
    rw [vers, List.mem_append, mem_vers a, mem_vIn]
    constructor
    · rintro (⟨p, h1, h2, h3, h4, h5, h6⟩ | ⟨p, h1, h2, h3, h4, h5⟩)
      · exact ⟨p, h1, h2, h3, h4, by omega, h6⟩
      · exact ⟨p, h1, h2, h3, by omega, by omega, h5⟩
    · rintro ⟨p, h1, h2, h3, h4, h5, h6⟩
      rcases Nat.lt_or_ge p.v (49 + a) with h7 | h7
      · exact Or.inl ⟨p, h1, h2, h3, h4, h7, h6⟩
      · exact Or.inr ⟨p, h1, h2, h3, by omega, h6⟩
theorem mem_versT {ps : List Pk} (ha : Ap ps) {P N : List UInt8} {now : Bool} {x : UInt8} : x ∈ versT ps P N now ↔ ∃ p ∈ ps, vA P now p = true ∧ [b8 p.n] = N ∧ x = b8 p.v := by
  unfold versT
  rw [mem_vers]
  constructor
  · rintro ⟨p, h1, h2, h3, _, _, h6⟩; exact ⟨p, h1, h2, h3, h6⟩
  · rintro ⟨p, h1, h2, h3, h6⟩
    have := ha.v h1
    exact ⟨p, h1, h2, h3, by omega, by omega, h6⟩
theorem filt_split (q : Pk → Bool) (n : Nat) : ∀ (ps : List Pk), (ps.filter fun p => q p && decide (p.v < n + 1)).length = (ps.filter fun p => q p && decide (p.v < n)).length + (ps.filter fun p => q p && p.v == n).length
  | [] => rfl
  | p :: r => by
    have ih := filt_split q n r
    simp only [List.filter_cons]
    cases hq : q p with
    | false => simpa using ih
    | true =>
      simp only [Bool.true_and]
      rcases Nat.lt_trichotomy p.v n with h | h | h
      · have h1 : decide (p.v < n + 1) = true := by simp; omega
        have h2 : decide (p.v < n) = true := by simp; omega
        have h3 : (p.v == n) = false := by rw [beq_eq_false_iff_ne]; omega
        rw [h1, h2, h3]
        simp only [if_true, Bool.false_eq_true, if_false, List.length_cons]
        omega
      · have h1 : decide (p.v < n + 1) = true := by simp; omega
        have h2 : decide (p.v < n) = false := by simp; omega
        have h3 : (p.v == n) = true := by rw [beq_iff_eq]; omega
        rw [h1, h2, h3]
        simp only [if_true, Bool.false_eq_true, if_false, List.length_cons]
        omega
      · have h1 : decide (p.v < n + 1) = false := by simp; omega
        have h2 : decide (p.v < n) = false := by simp; omega
        have h3 : (p.v == n) = false := by rw [beq_eq_false_iff_ne]; omega
        rw [h1, h2, h3]
        simp only [Bool.false_eq_true, if_false]
        exact ih
theorem len_vers {ps : List Pk} {P N : List UInt8} {now : Bool} (hv : ∀ p ∈ ps, 49 ≤ p.v) : ∀ (a : Nat), (vers ps P N now a).length = (ps.filter fun p => (vA P now p && [b8 p.n] == N) && decide (p.v < 49 + a)).length
  | 0 => by
    have : (ps.filter fun p => (vA P now p && [b8 p.n] == N) && decide (p.v < 49 + 0)) = [] := by
      rw [List.filter_eq_nil_iff]
      intro p hp
      have := hv p hp
      simp
      omega
    rw [this]
    rfl
  | a + 1 => by
    rw [vers, List.length_append, len_vers hv a]
    have h1 := filt_split (fun p => vA P now p && [b8 p.n] == N) (49 + a) ps
    rw [show 49 + (a + 1) = 49 + a + 1 by omega, h1]
    congr 1
    unfold vIn
    rw [List.length_map]
    rfl
theorem len_versT {ps : List Pk} (ha : Ap ps) {P N : List UInt8} {now : Bool} : (versT ps P N now).length = (ps.filter fun p => vA P now p && [b8 p.n] == N).length := by
  unfold versT
  rw [len_vers (fun p hp => (ha.v hp).1)]
  congr 1
  refine List.filter_congr (fun p hp => ?_)
  have := ha.v hp
  have h : decide (p.v < 49 + 9) = true := by simp; omega
  rw [h, Bool.and_true]

/-- The last one. -/
def lastD (l : List UInt8) : UInt8 := l.getD (l.length - 1) 0
theorem last_vers {ps : List Pk} (ha : Ap ps) {P N : List UInt8} {now : Bool} : ∀ (a : Nat), a ≤ 9 → ∀ x ∈ vers ps P N now a, x.toNat ≤ (lastD (vers ps P N now a)).toNat
  | 0, _, x, hx => by simp [vers] at hx
  | a + 1, h9, x, hx => by
    rw [vers] at hx ⊢
    rcases hB : vIn ps P N now (49 + a) with _ | ⟨y, r⟩
    · rw [hB] at hx
      simp only [List.append_nil] at hx ⊢
      exact last_vers ha a (by omega) x hx
    · have hall : ∀ z ∈ y :: r, z = b8 (49 + a) := by
        intro z hz
        rw [← hB] at hz
        obtain ⟨p, _, _, _, h4, h5⟩ := mem_vIn.1 hz
        rw [h5, h4]
      have hlast : lastD (vers ps P N now a ++ (y :: r)) = b8 (49 + a) := by
        unfold lastD
        have hl : (vers ps P N now a ++ (y :: r)).length - 1 < (vers ps P N now a ++ (y :: r)).length := by simp
        rw [List.getD_eq_getElem?_getD, List.getElem?_eq_getElem hl, Option.getD_some, List.getElem_append_right (by simp)]
        exact hall _ (List.getElem_mem _)
      rw [hlast, b8_val (by omega)]
      rw [hB] at hx
      rcases List.mem_append.1 hx with hx | hx
      · obtain ⟨p, _, _, _, _, h5, h6⟩ := (mem_vers a).1 hx
        rw [h6, b8_val (by omega)]
        omega
      · rw [hall x hx, b8_val (by omega)]
        exact Nat.le_refl _
theorem last_mem {l : List UInt8} (h : l ≠ []) : lastD l ∈ l := by
  unfold lastD
  have hl : l.length - 1 < l.length := by have := List.length_pos_iff.2 h; omega
  rw [List.getD_eq_getElem?_getD, List.getElem?_eq_getElem hl]
  exact List.getElem_mem _

theorem gt_props (a : Nat) : ∀ (ps : List Pk) (g : Nat), g ≤ gtG a ps g ∧ (∀ p ∈ ps, p.n = a → p.v ≤ gtG a ps g) ∧ (gtG a ps g = g ∨ ∃ p ∈ ps, p.n = a ∧ gtG a ps g = p.v)
  | [], g => ⟨Nat.le_refl _, fun p hp => by simp at hp, Or.inl rfl⟩
  | q :: r, g => by
    rw [gtG]
    by_cases h : q.n = a ∧ g < q.v
    · rw [if_pos h]
      obtain ⟨h1, h2, h3⟩ := gt_props a r q.v
      refine ⟨by omega, fun p hp hn => ?_, ?_⟩
      · rcases List.mem_cons.1 hp with rfl | hp
        · exact h1
        · exact h2 p hp hn
      · rcases h3 with h3 | ⟨p, hp, hn, e⟩
        · exact Or.inr ⟨q, by simp, h.1, h3⟩
        · exact Or.inr ⟨p, by simp [hp], hn, e⟩
    · rw [if_neg h]
      obtain ⟨h1, h2, h3⟩ := gt_props a r g
      refine ⟨h1, fun p hp hn => ?_, ?_⟩
      · rcases List.mem_cons.1 hp with rfl | hp
        · have : p.v ≤ g := by
            rcases Nat.lt_or_ge g p.v with h4 | h4
            · exact absurd ⟨hn, h4⟩ h
            · exact h4
          omega
        · exact h2 p hp hn
      · rcases h3 with h3 | ⟨p, hp, hn, e⟩
        · exact Or.inl h3
        · exact Or.inr ⟨p, by simp [hp], hn, e⟩

theorem one_name {p : Pk} {a : Nat} (hp : p.n < 256) (ha : a < 256) : [b8 p.n] = [b8 a] ↔ p.n = a := by
  constructor
  · intro h; simp only [List.cons.injEq, and_true] at h; exact b8_inj hp ha h
  · intro h; rw [h]

/-- Versions now: none, or the greatest is the last. -/
theorem now_last {ps : List Pk} (ha : Ap ps) (P : List UInt8) {a : Nat} (hna : a < 256) : (versT ps P [b8 a] true = [] ∧ gtT (nowL ps) a = 0) ∨ (versT ps P [b8 a] true ≠ [] ∧ gtT (nowL ps) a = (lastD (versT ps P [b8 a] true)).toNat) := by
  obtain ⟨_, g2, g3⟩ := gt_props a (nowL ps) 0
  have hN : ∀ p, p ∈ nowL ps ↔ p ∈ ps ∧ vA P true p = true := fun p => by unfold nowL vA; rw [List.mem_filter]; simp
  by_cases hO : versT ps P [b8 a] true = []
  · refine Or.inl ⟨hO, ?_⟩
    rcases g3 with g3 | ⟨p, hp, hn, e⟩
    · exact g3
    · exfalso
      have h1 := (hN p).1 hp
      have : b8 p.v ∈ versT ps P [b8 a] true := (mem_versT ha).2 ⟨p, h1.1, h1.2, by rw [hn], rfl⟩
      rw [hO] at this
      simp at this
  · refine Or.inr ⟨hO, ?_⟩
    obtain ⟨p, hp, hA, hn, e⟩ := (mem_versT ha).1 (last_mem hO)
    have hpn := (one_name (by have := ha.n hp; omega) hna).1 hn
    have hpv := ha.v hp
    have hle := g2 p ((hN p).2 ⟨hp, hA⟩) hpn
    have hlast : (lastD (versT ps P [b8 a] true)).toNat = p.v := by rw [e, b8_val (by omega)]
    rcases g3 with g3 | ⟨q, hq, hqn, eq⟩
    · exfalso; omega
    · have h1 := (hN q).1 hq
      have hq2 : b8 q.v ∈ versT ps P [b8 a] true := (mem_versT ha).2 ⟨q, h1.1, h1.2, by rw [hqn], rfl⟩
      have h2 := last_vers ha 9 (Nat.le_refl _) _ hq2
      have hqv := ha.v h1.1
      rw [b8_val (by omega)] at h2
      have h3 : q.v ≤ (lastD (versT ps P [b8 a] true)).toNat := h2
      unfold gtT
      rw [eq] at hle ⊢
      omega

theorem vA_pick {ps : List Pk} {P : List UInt8} {L : List Pk} (ha : Ap ps) (h : Pq ps P L) {p : Pk} (hp : p ∈ ps) : vA P false p = true ↔ p ∈ L := h.mem ha hp
theorem vers_empty {ps : List Pk} {P : List UInt8} {L : List Pk} (ha : Ap ps) (h : Pq ps P L) {a : Nat} (hna : a < 256) : (versT ps P [b8 a] false).isEmpty = !hnB L a := by
  unfold hnB
  rw [Bool.eq_iff_iff, List.isEmpty_iff, Bool.not_eq_true', List.any_eq_false]
  constructor
  · intro he p hp hn
    have hps := h.sub p hp
    have hn' : p.n = a := by simpa using hn
    have : b8 p.v ∈ versT ps P [b8 a] false := (mem_versT ha).2 ⟨p, hps, (vA_pick ha h hps).2 hp, by rw [hn'], rfl⟩
    rw [he] at this
    simp at this
  · intro hx
    rw [List.eq_nil_iff_forall_not_mem]
    intro x hxm
    obtain ⟨p, hp, hA, hn, _⟩ := (mem_versT ha).1 hxm
    have hpn := (one_name (by have := ha.n hp; omega) hna).1 hn
    exact hx p ((vA_pick ha h hp).1 hA) (by simp [hpn])
theorem am_same {ps : List Pk} {P : List UInt8} {L : List Pk} (ha : Ap ps) (h : Pq ps P L) {p : Pk} (hp : p ∈ ps) : amB L p.n p.v = inB P (pkI p) := by
  rw [Bool.eq_iff_iff, h.mem ha hp]
  unfold amB
  rw [List.any_eq_true]
  constructor
  · rintro ⟨q, hq, e⟩
    simp at e
    rw [← ha.ap q (h.sub q hq) p hp e.1 e.2]
    exact hq
  · intro hL; exact ⟨p, hL, by simp⟩
theorem stay_same {ps : List Pk} {P : List UInt8} {L : List Pk} (ha : Ap ps) (h : Pq ps P L) : staysB ps P = ps.all (mk1 L) := by
  unfold staysB
  refine all_cong (fun p hp => ?_)
  have hn := ha.n hp
  unfold stay1 mk1
  rw [vers_empty ha h (by omega), am_same ha h hp]
  show _ = (!(p.m == 2 && !inB P [b8 p.n, b8 p.v]) && _)
  rw [Bool.not_or]
theorem fu_find {ps : List Pk} (ha : Ap ps) {q : Pk} (hq : q ∈ ps) (c : Cn) : ∀ (r : List Pk), (∀ p ∈ r, p ∈ ps) → q ∈ r → fu (pkI q) c r = fitB q c
  | [], _, h => by simp at h
  | p :: r, hs, h => by
    rw [fu]
    by_cases e : pkI p = pkI q
    · have : p = q := ha.key (hs p (by simp)) hq e
      subst this
      rw [if_pos (by simp [pkI])]
    · have h1 : ([b8 p.n, b8 p.v] == pkI q) = false := by rw [beq_eq_false_iff_ne]; exact e
      rw [h1]
      simp only [Bool.false_eq_true, if_false]
      refine fu_find ha hq c r (fun x hx => hs x (by simp [hx])) ?_
      rcases List.mem_cons.1 h with rfl | h
      · exact absurd rfl e
      · exact h
theorem up_same {ps : List Pk} {P : List UInt8} {L : List Pk} (ha : Ap ps) (h : Pq ps P L) {c : Cn} (hc : c.n < 256) : upgB ps P c = up1 (nowL ps) L c := by
  have hlen : (versT ps P [b8 c.n] false).length = (wnL L c.n).length := by
    rw [len_versT ha]
    haveI : DecidableEq Pk := fun a b => Classical.propDecidable (a = b)
    refine nodup_len (ha.nd.sublist List.filter_sublist) (h.nd.sublist List.filter_sublist) (fun p => ?_)
    unfold wnL
    rw [List.mem_filter, List.mem_filter, Bool.and_eq_true, beq_iff_eq, beq_iff_eq]
    constructor
    · rintro ⟨hp, hA, hn⟩
      exact ⟨(vA_pick ha h hp).1 hA, (one_name (by have := ha.n hp; omega) hc).1 hn⟩
    · rintro ⟨hp, hn⟩
      exact ⟨h.sub p hp, (vA_pick ha h (h.sub p hp)).2 hp, by rw [hn]⟩
  unfold upgB up1
  rcases hW : wnL L c.n with _ | ⟨q, _ | ⟨q2, W⟩⟩
  · rw [hW] at hlen
    unfold upgV upV
    rw [hlen]
    rfl
  · rw [hW] at hlen
    have hq : q ∈ wnL L c.n := by rw [hW]; simp
    unfold wnL at hq
    obtain ⟨hqL, hqn⟩ := List.mem_filter.1 hq
    simp at hqn
    have hqs := h.sub q hqL
    have hqv := ha.v hqs
    have hm : b8 q.v ∈ versT ps P [b8 c.n] false := (mem_versT ha).2 ⟨q, hqs, (vA_pick ha h hqs).2 hqL, by rw [hqn], rfl⟩
    match hV : versT ps P [b8 c.n] false, hlen, hm with
    | [x], _, hm =>
      simp at hm
      subst hm
      have e1 : b8 c.n :: [b8 q.v] = pkI q := by unfold pkI; rw [hqn]
      unfold upgV upV
      rw [e1, fu_find ha hqs c ps (fun _ hp => hp) hqs]
      have e2 : ((([b8 q.v] : List UInt8).getD 0 0).toNat) = q.v := by show (b8 q.v).toNat = _; rw [b8_val (by omega)]
      rw [e2]
      rcases now_last ha [] hc with ⟨hO, hg⟩ | ⟨hO, hg⟩
      · rw [hO, hg]; simp
      · rw [hg]
        have : (versT ps [] [b8 c.n] true).isEmpty = false := by
          cases hx : (versT ps [] [b8 c.n] true).isEmpty with
          | false => rfl
          | true => exact absurd (List.isEmpty_iff.1 hx) hO
        rw [this]
        rfl
  · rw [hW] at hlen
    unfold upgV upV
    rw [hlen]
    simp

/-- The rule that a pick breaks. -/
theorem rule_same {d : Dc} (hok : DcOk d) (ha : Ap d.packs) {P : List UInt8} {L : List Pk} (h : Pq d.packs P L) : ruleN d P = fbN d L := by
  have e1 : d.packs.all (r1 d.packs P) = L.all (fun p => nmetB L p.needs) := all_picked ha h (metB d.packs P) (fun p => nmetB L p.needs) (fun p _ => met_same ha h p)
  have e2 := nc_same ha h
  have e3 := stay_same ha h
  have e4 : d.ins.all (fun c => fittedB d.packs P c []) = d.ins.all (fdB L) := all_cong (fun c _ => fit_same ha h c)
  have e5 : d.rem.all (fun c => !fittedB d.packs P c []) = d.rem.all (fun c => !fdB L c) := all_cong (fun c _ => by rw [fit_same ha h c])
  have e6 : d.upg.all (fun c => upgB d.packs P c) = d.upg.all (up1 (nowL d.packs) L) := all_cong (fun c hc => up_same ha h (by have := nm_rng (hok.upg c hc).n; omega))
  unfold ruleN fbN fb2 fb3 fb4 fb5 fb6
  rw [e1, e2, e3, e4, e5, e6]

theorem valid_same (t P : List UInt8) : uvE t P = vaE t P ∧ uvR t P = vaR t P := by
  unfold uvE uvR vaE vaR
  by_cases h : rdE t = 0
  · have ha := Ap.of h
    obtain ⟨_, r2, _, r4, _⟩ := rd_ok h
    rw [if_pos h, if_pos h, if_pos h, if_pos h, pick_same ha r4]
    unfold prE
    rcases hp : prL (dcV t).packs P with _ | L
    · exact ⟨rfl, rfl⟩
    · exact ⟨rfl, (rule_same r2 ha (Pq.of ha hp)).symm⟩
  · rw [if_neg h, if_neg h, if_neg h, if_neg h]
    exact ⟨rfl, rfl⟩

end Go.Proofs.YtenbnmbbfeekpabGreatDoor

/-
  Score: what the program answers is what the document asks: plain mathematics.
-/
namespace Go.Proofs.YtenbnmbbfeekpabGreatDoor

theorem cr_ok (x y : Nat) : crOk x y = (sgnB x && letB y) := rfl
theorem crP_some : ∀ (n : Nat) (C : List UInt8), C.length ≤ n → crP C = (rdC C).isSome
  | _, [], _ => rfl
  | _, [c], _ => rfl
  | 0, c :: d :: r, h => by simp at h
  | n + 1, c :: d :: r, h => by
    rw [crP, rdC, cr_ok, crP_some n r (by simp at h; omega)]
    cases sgnB c.toNat && letB d.toNat <;> simp
theorem crit_same (C : List UInt8) : critB C = (crL C).isSome := by
  unfold critB crL
  rw [crP_some C.length C (Nat.le_refl _)]
  by_cases h0 : C.length = 0
  · rw [if_pos h0]; simp [h0]
  · rw [if_neg h0]
    by_cases h8 : 8 < C.length
    · rw [if_pos h8]
      have : decide (C.length ≤ 8) = false := by simp; omega
      simp [this]
    · rw [if_neg h8]
      have a1 : decide (C.length ≤ 8) = true := by simp; omega
      by_cases he : C.length % 2 = 0
      · rw [if_pos he]
        have a2 : decide (2 ≤ C.length) = true := by simp; omega
        simp [a1, a2, he]
      · rw [if_neg he]
        have : (C.length % 2 == 0) = false := by rw [beq_eq_false_iff_ne]; exact he
        simp [this]
theorem rdC_get : ∀ (n : Nat) (C : List UInt8) (ls : List Nat), C.length ≤ n → rdC C = some ls → ∀ m, m < ls.length → ls.getD m 0 = (C.getD (2 * m + 1) 0).toNat ∧ letB (ls.getD m 0) = true
  | _, [], ls, _, h, m, hm => by simp [rdC] at h; subst h; simp at hm
  | _, [c], ls, _, h, m, hm => by simp [rdC] at h; subst h; simp at hm
  | 0, c :: d :: r, ls, hn, _, _, _ => by simp at hn
  | n + 1, c :: d :: r, ls, hn, h, m, hm => by
    rw [rdC] at h
    split at h
    · rename_i hc
      rw [Bool.and_eq_true] at hc
      cases hr : rdC r with
      | none => rw [hr] at h; simp at h
      | some M =>
        rw [hr] at h
        simp at h
        subst h
        match m, hm with
        | 0, _ => exact ⟨rfl, hc.2⟩
        | m + 1, hm =>
          have := rdC_get n r M (by simp at hn; omega) hr m (by simpa using hm)
          rw [show 2 * (m + 1) + 1 = 2 * m + 1 + 1 + 1 by omega]
          simpa using this
    · cases h
theorem crL_get {C : List UInt8} {ls : List Nat} (h : crL C = some ls) : ∀ m, m < ls.length → ls.getD m 0 = (C.getD (2 * m + 1) 0).toNat ∧ letB (ls.getD m 0) = true := by
  unfold crL at h
  split at h
  · cases h
  · split at h
    · cases h
    · split at h
      · exact rdC_get C.length C ls (Nat.le_refl _) h
      · cases h

/-- The greatest version, as a text. -/
def encG (g : Nat) : List UInt8 := if g = 0 then [] else [b8 g]
theorem gre_go {a : Nat} (hna : a < 256) : ∀ (r : List Pk) (g : Nat), g < 256 → (∀ p ∈ r, p.n < 256 ∧ 1 ≤ p.v ∧ p.v < 256) → r.foldl (gStep [b8 a]) (encG g) = encG (gtG a r g)
  | [], g, _, _ => rfl
  | p :: r, g, hg, hr => by
    rw [List.foldl_cons, gtG]
    obtain ⟨h1, h2, h3⟩ := hr p (by simp)
    have key : gStep [b8 a] (encG g) p = encG (if p.n = a ∧ g < p.v then p.v else g) := by
      unfold gStep
      by_cases hn : p.n = a
      · have e1 : ([b8 p.n] == [b8 a]) = true := by rw [hn]; simp
        have e2 : gtB [b8 p.v] (encG g) = decide (g < p.v) := by
          rw [gt_less]
          unfold encG
          by_cases h0 : g = 0
          · rw [if_pos h0]
            have : decide (g < p.v) = true := by simp; omega
            rw [this]
            rfl
          · rw [if_neg h0]
            simp only [Op.bytesLess, Bool.and_false, Bool.or_false]
            rw [Bool.eq_iff_iff]
            simp only [decide_eq_true_eq, UInt8.lt_iff_toNat_lt, b8_val h3, b8_val hg]
        rw [e1, e2, Bool.true_and]
        by_cases hlt : g < p.v
        · rw [if_pos (by simpa using hlt), if_pos ⟨hn, hlt⟩]
          unfold encG
          rw [if_neg (by omega)]
        · rw [if_neg (by simpa using hlt), if_neg (fun h => hlt h.2)]
      · have e1 : ([b8 p.n] == [b8 a]) = false := by
          rw [beq_eq_false_iff_ne]
          intro e
          exact hn ((one_name h1 hna).1 e)
        rw [e1, if_neg (by simp), if_neg (fun h => hn h.1)]
    rw [key]
    refine gre_go hna r _ ?_ (fun q hq => hr q (by simp [hq]))
    split <;> omega
theorem gre_same {ps : List Pk} (ha : Ap ps) {a : Nat} (hna : a < 256) : greT ps [b8 a] = encG (gtT ps a) := by
  unfold greT gtT
  exact gre_go hna ps 0 (by omega) (fun p hp => by have := ha.n hp; have := ha.v hp; omega)
theorem gt_zero {ps : List Pk} (ha : Ap ps) (a : Nat) : gtT ps a = 0 ↔ hnB ps a = false := by
  obtain ⟨_, g2, g3⟩ := gt_props a ps 0
  unfold hnB
  rw [List.any_eq_false]
  constructor
  · intro h p hp hn
    have := g2 p hp (by simpa using hn)
    have hv := ha.v hp
    unfold gtT at h
    omega
  · intro h
    rcases g3 with g3 | ⟨p, hp, hn, _⟩
    · exact g3
    · exact absurd (by simp [hn]) (h p hp)

theorem now_empty {ps : List Pk} (ha : Ap ps) (P : List UInt8) {a : Nat} (hna : a < 256) : (versT ps P [b8 a] true).isEmpty = !hnB (nowL ps) a := by
  unfold hnB
  rw [Bool.eq_iff_iff, List.isEmpty_iff, Bool.not_eq_true', List.any_eq_false]
  have hN : ∀ p, p ∈ nowL ps ↔ p ∈ ps ∧ vA P true p = true := fun p => by unfold nowL vA; rw [List.mem_filter]; simp
  constructor
  · intro he p hp hn
    obtain ⟨h1, h2⟩ := (hN p).1 hp
    have hn' : p.n = a := by simpa using hn
    have : b8 p.v ∈ versT ps P [b8 a] true := (mem_versT ha).2 ⟨p, h1, h2, by rw [hn'], rfl⟩
    rw [he] at this
    simp at this
  · intro hx
    rw [List.eq_nil_iff_forall_not_mem]
    intro x hxm
    obtain ⟨p, hp, hA, hn, _⟩ := (mem_versT ha).1 hxm
    have hpn := (one_name (by have := ha.n hp; omega) hna).1 hn
    exact hx p ((hN p).2 ⟨hp, hA⟩) (by simp [hpn])
theorem sv_iff (now L : List Pk) (a : Nat) : ∀ (f v : Nat), svF now L a f v = true ↔ ∀ u, v ≤ u → u < v + f → amB now a u = amB L a u
  | 0, v => ⟨fun _ u h1 h2 => by omega, fun _ => rfl⟩
  | f + 1, v => by
    rw [svF, Bool.and_eq_true, sv_iff now L a f (v + 1), beq_iff_eq]
    constructor
    · rintro ⟨h1, h2⟩ u hu hu2
      rcases Nat.lt_or_ge v u with h3 | h3
      · exact h2 u h3 (by omega)
      · have : u = v := by omega
        subst this
        exact h1
    · intro h
      exact ⟨h v (Nat.le_refl _) (by omega), fun u h1 h2 => h u (by omega) (by omega)⟩
/-- There is one with the name and the version, or none. -/
theorem vIn_one {ps : List Pk} (ha : Ap ps) {P : List UInt8} {a : Nat} (hna : a < 256) {now : Bool} (u : Nat) : vIn ps P [b8 a] now u = [] ∨ vIn ps P [b8 a] now u = [b8 u] := by
  unfold vIn
  have hnd : (ps.filter (vHas P [b8 a] now u)).Nodup := ha.nd.sublist List.filter_sublist
  have hm : ∀ p ∈ ps.filter (vHas P [b8 a] now u), p ∈ ps ∧ p.n = a ∧ p.v = u := by
    intro p hp
    obtain ⟨h1, h2⟩ := List.mem_filter.1 hp
    unfold vHas at h2
    simp only [Bool.and_eq_true, beq_iff_eq] at h2
    exact ⟨h1, (one_name (by have := ha.n h1; omega) hna).1 h2.1.2, h2.2⟩
  rcases hF : ps.filter (vHas P [b8 a] now u) with _ | ⟨p, _ | ⟨q, r⟩⟩
  · exact Or.inl rfl
  · right
    rw [hF] at hm
    obtain ⟨_, _, h3⟩ := hm p (by simp)
    simp [h3]
  · exfalso
    rw [hF] at hm hnd
    obtain ⟨p1, p2, p3⟩ := hm p (by simp)
    obtain ⟨q1, q2, q3⟩ := hm q (by simp)
    have : p = q := ha.ap p p1 q q1 (by omega) (by omega)
    subst this
    simp at hnd
theorem vers_cong {ps : List Pk} {P1 P2 N : List UInt8} {n1 n2 : Bool} : ∀ (k : Nat), (∀ u, 49 ≤ u → u < 49 + k → vIn ps P1 N n1 u = vIn ps P2 N n2 u) → vers ps P1 N n1 k = vers ps P2 N n2 k
  | 0, _ => rfl
  | k + 1, h => by
    rw [vers, vers, vers_cong k (fun u h1 h2 => h u h1 (by omega)), h (49 + k) (by omega) (by omega)]
theorem am_now {ps : List Pk} (ha : Ap ps) (P : List UInt8) {a u : Nat} (hna : a < 256) : amB (nowL ps) a u = true ↔ vIn ps P [b8 a] true u ≠ [] := by
  have hN : ∀ p, p ∈ nowL ps ↔ p ∈ ps ∧ vA P true p = true := fun p => by unfold nowL vA; rw [List.mem_filter]; simp
  unfold amB
  rw [List.any_eq_true]
  constructor
  · rintro ⟨p, hp, e⟩ hx
    simp at e
    obtain ⟨h1, h2⟩ := (hN p).1 hp
    have : b8 p.v ∈ vIn ps P [b8 a] true u := mem_vIn.2 ⟨p, h1, h2, by rw [e.1], e.2, rfl⟩
    rw [hx] at this
    simp at this
  · intro hx
    obtain ⟨x, hxm⟩ := List.exists_mem_of_ne_nil _ hx
    obtain ⟨p, h1, h2, h3, h4, _⟩ := mem_vIn.1 hxm
    exact ⟨p, (hN p).2 ⟨h1, h2⟩, by simp [(one_name (by have := ha.n h1; omega) hna).1 h3, h4]⟩
theorem am_pick {ps : List Pk} {P : List UInt8} {L : List Pk} (ha : Ap ps) (h : Pq ps P L) {a u : Nat} (hna : a < 256) : amB L a u = true ↔ vIn ps P [b8 a] false u ≠ [] := by
  unfold amB
  rw [List.any_eq_true]
  constructor
  · rintro ⟨p, hp, e⟩ hx
    simp at e
    have : b8 p.v ∈ vIn ps P [b8 a] false u := mem_vIn.2 ⟨p, h.sub p hp, (vA_pick ha h (h.sub p hp)).2 hp, by rw [e.1], e.2, rfl⟩
    rw [hx] at this
    simp at this
  · intro hx
    obtain ⟨x, hxm⟩ := List.exists_mem_of_ne_nil _ hx
    obtain ⟨p, h1, h2, h3, h4, _⟩ := mem_vIn.1 hxm
    exact ⟨p, (vA_pick ha h h1).1 h2, by simp [(one_name (by have := ha.n h1; omega) hna).1 h3, h4]⟩
theorem chg_same {ps : List Pk} {P : List UInt8} {L : List Pk} (ha : Ap ps) (h : Pq ps P L) {a : Nat} (hna : a < 256) : (versT ps [] [b8 a] true == versT ps P [b8 a] false) = svB (nowL ps) L a := by
  rw [Bool.eq_iff_iff, beq_iff_eq]
  unfold svB
  rw [sv_iff]
  have hin : ∀ u, 49 ≤ u → u < 58 → ((amB (nowL ps) a u = amB L a u) ↔ vIn ps [] [b8 a] true u = vIn ps P [b8 a] false u) := by
    intro u hu hu2
    have e1 := am_now ha [] (u := u) hna
    have e2 := am_pick ha h (u := u) hna
    rw [Bool.eq_iff_iff, e1, e2]
    rcases vIn_one ha (P := []) hna (now := true) u with h1 | h1 <;> rcases vIn_one ha (P := P) hna (now := false) u with h2 | h2 <;> rw [h1, h2] <;> simp
  constructor
  · intro hOV u hu hu2
    rw [Bool.eq_iff_iff]
    have mem : ∀ (P' : List UInt8) (n' : Bool), b8 u ∈ versT ps P' [b8 a] n' ↔ vIn ps P' [b8 a] n' u ≠ [] := by
      intro P' n'
      rw [mem_versT ha]
      constructor
      · rintro ⟨p, h1, h2, h3, h4⟩ hx
        have hv := ha.v h1
        have : u = p.v := b8_inj (by omega) (by omega) h4
        have : b8 p.v ∈ vIn ps P' [b8 a] n' u := mem_vIn.2 ⟨p, h1, h2, h3, this.symm, rfl⟩
        rw [hx] at this
        simp at this
      · intro hx
        obtain ⟨x, hxm⟩ := List.exists_mem_of_ne_nil _ hx
        obtain ⟨p, h1, h2, h3, h4, _⟩ := mem_vIn.1 hxm
        exact ⟨p, h1, h2, h3, by rw [h4]⟩
    rw [am_now ha [] hna, am_pick ha h hna, ← mem, ← mem, hOV]
  · intro hx
    unfold versT
    exact vers_cong 9 (fun u h1 h2 => (hin u h1 (by omega)).1 (hx u h1 (by omega)))

theorem hn_sub {ps L : List Pk} (hs : ∀ p ∈ L, p ∈ ps) {a : Nat} (h : hnB ps a = false) : hnB L a = false := by
  unfold hnB at h ⊢
  rw [List.any_eq_false] at h ⊢
  exact fun p hp => h p (hs p hp)
theorem cnt_same {ps : List Pk} {P : List UInt8} {L : List Pk} (ha : Ap ps) (h : Pq ps P L) {a : Nat} (hna : a < 256) {c : Nat} (hc : letB c = true) : num1 ps P c a = cnt1 ps (nowL ps) L c a := by
  unfold num1 cntB cntV cnt1
  rw [now_empty ha [] hna, vers_empty ha h hna, chg_same ha h hna, gre_same ha hna]
  have hsubN : ∀ p ∈ nowL ps, p ∈ ps := fun p hp => (List.mem_filter.1 hp).1
  by_cases hg : gtT ps a = 0
  · have h0 := (gt_zero ha a).1 hg
    have h1 := hn_sub hsubN h0
    have h2 := hn_sub h.sub h0
    have h3 : svB (nowL ps) L a = true := by
      unfold svB
      rw [sv_iff]
      intro u _ _
      have z : ∀ M : List Pk, hnB M a = false → amB M a u = false := by
        intro M hM
        unfold hnB at hM
        unfold amB
        rw [List.any_eq_false] at hM ⊢
        intro p hp hx
        have := hM p hp
        simp at hx this
        exact this hx.1
      rw [z _ h1, z _ h2]
    have he : encG (gtT ps a) = [] := by unfold encG; rw [if_pos hg]
    rw [he, h1, h2, h3]
    simp
  · have he : encG (gtT ps a) = [b8 (gtT ps a)] := by unfold encG; rw [if_neg hg]
    rw [he]
    have hT : inB P ([b8 a] ++ [b8 (gtT ps a)]) = amB L a (gtT ps a) := by
      obtain ⟨_, _, g3⟩ := gt_props a ps 0
      rcases g3 with g3 | ⟨p, hp, hn, e⟩
      · exact absurd g3 hg
      · have e' : gtT ps a = p.v := e
        rw [e', ← hn]
        exact (am_same ha h hp).symm
    rw [hT]
    have e0 : (!([b8 (gtT ps a)] : List UInt8).isEmpty) = true := rfl
    rw [e0, Bool.true_and]
    unfold letB at hc
    simp only [Bool.or_eq_true, beq_iff_eq] at hc
    by_cases c1 : c = 114
    · rw [if_pos c1, if_pos c1, Bool.not_not]
    · rw [if_neg c1, if_neg c1]
      by_cases c2 : c = 110
      · rw [if_pos c2, if_pos c2, Bool.not_not, Bool.and_comm]
      · rw [if_neg c2, if_neg c2]
        by_cases c3 : c = 99
        · rw [if_pos c3, if_pos c3]
        · rw [if_neg c3, if_neg c3, if_pos (by omega), Bool.not_not]
theorem num_same {ps : List Pk} {P : List UInt8} {L : List Pk} (ha : Ap ps) (h : Pq ps P L) {c : Nat} (hc : letB c = true) : ∀ k, k ≤ 26 → numA ps P c k = scN ps (nowL ps) L c k
  | 0, _ => rfl
  | k + 1, hk => by
    rw [numA, scN, num_same ha h hc k (by omega), cnt_same ha h (by omega) hc]
theorem text_same {ps : List Pk} {P C : List UInt8} {L : List Pk} {ls : List Nat} (ha : Ap ps) (h : Pq ps P L) (hc : crL C = some ls) : ∀ m, m ≤ ls.length → scA ps P C m = txA ps L ls m
  | 0, _ => rfl
  | m + 1, hm => by
    obtain ⟨h1, h2⟩ := crL_get hc m (by omega)
    rw [scA, txA, text_same ha h hc m (by omega), ← h1]
    unfold numT
    rw [num_same ha h h2 26 (Nat.le_refl _)]

theorem score_same (t C P : List UInt8) : usE t C P = scE t C P ∧ usT t C P = scT t C P := by
  unfold usE usT scE scT
  by_cases h : rdE t = 0
  · have ha := Ap.of h
    obtain ⟨_, _, _, r4, _⟩ := rd_ok h
    rw [if_pos h, if_pos h, if_pos h, if_pos h, crit_same, pick_same ha r4]
    rcases hc : crL C with _ | ls
    · exact ⟨rfl, rfl⟩
    · unfold prE
      rcases hp : prL (dcV t).packs P with _ | L
      · exact ⟨rfl, rfl⟩
      · refine ⟨rfl, ?_⟩
        have := text_same ha (Pq.of ha hp) hc ls.length (Nat.le_refl _)
        rw [(crL_len hc).1] at this
        simp only [Option.isSome_some, if_true]
        rw [this, (crL_len hc).1]
  · rw [if_neg h, if_neg h, if_neg h, if_neg h]
    exact ⟨rfl, rfl⟩

end Go.Proofs.YtenbnmbbfeekpabGreatDoor
