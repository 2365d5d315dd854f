import Derived.Test.YtdfnnpakdbhhpaaGreatDoorXvD
import Derived.Test.YtdfnnpakdbhhpaaGreatDoorXrB
import Derived.Test.YtdfnnpakdbhhpaaGreatDoorShG
import Derived.Test.YtdfnnpakdbhhpaaGreatDoorXrC
import Derived.Test.YtdfnnpakdbhhpaaGreatDoorLawA
import Derived.Test.YtdfnnpakdbhhpaaGreatDoorTie
import Derived.Test.YtdfnnpakdbhhpaaGreatDoorCards
import Derived.ProofKit
import Derived.OpenShut
import Derived.ShutString
import Derived.ChangeOld
import Derived.Deep.Slices
import Derived.LaidMore
import Derived.Stop.Joined
import Derived.SevenTiedAt

/-
  The packages of a pick, as the program and the document's answer find them: plain mathematics.
-/
namespace Go.Proofs.YtdfnnpakdbhhpaaGreatDoor

theorem u8_lt_or {a b : UInt8} (h : a ≠ b) : (decide (a < b)) = !(decide (b < a)) := by
  have h1 : a.toNat ≠ b.toNat := fun e => h (UInt8.toNat_inj.1 e)
  rw [Bool.eq_iff_iff]
  simp only [decide_eq_true_eq, Bool.not_eq_true', decide_eq_false_iff_not, UInt8.lt_iff_toNat_lt]
  omega
theorem gt_less : ∀ (a b : List UInt8), gtB a b = Op.bytesLess b a
  | [], [] => rfl
  | [], b :: y => by simp [gtB, Op.bytesLess]
  | a :: x, [] => by simp [gtB, Op.bytesLess]
  | a :: x, b :: y => by
    have ih := gt_less x y
    unfold gtB at ih ⊢
    simp only [Op.bytesLess]
    by_cases h : a = b
    · subst h
      simp at ih ⊢
      rw [← ih]
    · have h' : b ≠ a := fun e => h e.symm
      have h1 : (a == b) = false := by simpa using h
      have h2 : (b == a) = false := by simpa using h'
      have h3 : ((a :: x) == (b :: y)) = false := by simp [h]
      rw [h1, h2, h3, u8_lt_or h']
      simp
theorem less2 (a b c d : UInt8) : Op.bytesLess [a, b] [c, d] = decide (a.toNat * 256 + b.toNat < c.toNat * 256 + d.toNat) := by
  have hb := b.toNat_lt
  have hd := d.toNat_lt
  simp only [Op.bytesLess, Bool.and_false, Bool.or_false]
  rw [Bool.eq_iff_iff]
  simp only [Bool.or_eq_true, Bool.and_eq_true, decide_eq_true_eq, beq_iff_eq, UInt8.lt_iff_toNat_lt, ← UInt8.toNat_inj]
  omega

/-- The order from the left. -/
def ordL : List UInt8 → List UInt8 → Bool
  | last, a :: b :: r => gtB [a, b] last && ordL [a, b] r
  | _, _ => true
theorem ordP_L : ∀ (n : Nat) (r : List UInt8), r.length ≤ n → ∀ (a b : UInt8), ordP (a :: b :: r) = ordL [a, b] r
  | _, [], _, a, b => rfl
  | _, [c], _, a, b => rfl
  | 0, c :: d :: r, h, _, _ => by simp at h
  | n + 1, c :: d :: r, h, a, b => by
    rw [ordP, ordL, gt_less, ordP_L n r (by simp at h; omega)]
theorem ord_nil (P : List UInt8) : ordP P = ordL [] P := by
  match P with
  | [] => rfl
  | [a] => rfl
  | a :: b :: r =>
    rw [ordP_L r.length r (Nat.le_refl _), ordL]
    simp [gtB, Op.bytesLess]

def vl : List UInt8 → Nat
  | [a, b] => a.toNat * 256 + b.toNat
  | _ => 0
/-- In order: each later one is greater. -/
theorem ordL_gt : ∀ (n : Nat) (P : List UInt8), P.length ≤ n → ∀ (a b : UInt8), ordL [a, b] P = true → (∀ x ∈ ch2 P, vl [a, b] < vl x) ∧ (ch2 P).Pairwise (fun x y => vl x < vl y)
  | _, [], _, _, _, _ => by simp [ch2]
  | _, [c], _, _, _, _ => by simp [ch2]
  | 0, c :: d :: r, h, _, _, _ => by simp at h
  | n + 1, c :: d :: r, h, a, b, ho => by
    rw [ordL, Bool.and_eq_true, gt_less, less2, decide_eq_true_eq] at ho
    obtain ⟨h1, h2⟩ := ordL_gt n r (by simp at h; omega) c d ho.2
    rw [ch2]
    have h0 : vl [a, b] < vl [c, d] := ho.1
    refine ⟨fun x hx => ?_, ?_⟩
    · rcases List.mem_cons.1 hx with rfl | hx
      · exact h0
      · exact Nat.lt_trans h0 (h1 x hx)
    · exact List.pairwise_cons.2 ⟨h1, h2⟩
theorem ord_nodup (P : List UInt8) (h : ordP P = true) : (ch2 P).Nodup := by
  have key : (ch2 P).Pairwise (fun x y => vl x < vl y) := by
    match P, h with
    | [], _ => simp [ch2]
    | [a], _ => simp [ch2]
    | a :: b :: r, h =>
      rw [ordP_L r.length r (Nat.le_refl _)] at h
      obtain ⟨h1, h2⟩ := ordL_gt r.length r (Nat.le_refl _) a b h
      rw [ch2]
      exact List.pairwise_cons.2 ⟨h1, h2⟩
  exact key.imp (fun h e => by rw [e] at h; exact Nat.lt_irrefl _ h)
theorem ch2_len : ∀ (n : Nat) (P : List UInt8), P.length ≤ n → (ch2 P).length = P.length / 2
  | _, [], _ => by simp [ch2]
  | _, [c], _ => by simp [ch2]
  | 0, c :: d :: r, h => by simp at h
  | n + 1, c :: d :: r, h => by
    rw [ch2, List.length_cons, ch2_len n r (by simp at h; omega)]
    simp only [List.length_cons]
    omega

/-- Packages that a document may have. -/
structure Ap (ps : List Pk) : Prop where
  ok : ∀ p ∈ ps, PkOk p
  ap : ∀ p ∈ ps, ∀ q ∈ ps, p.n = q.n → p.v = q.v → p = q
  nd : ps.Nodup
theorem ft_nodup {ps : List Pk} (h : ¬ ftT ps < ps.length) : ps.Nodup := by
  refine List.pairwise_iff_getElem.2 fun i j hi hj hij e => ?_
  have h0 := ft_none ps (ps.length + 1) 0 (by omega) (by unfold ftT at h; omega) j hj (Nat.zero_le _)
  have h1 : amB (ps.take j) ps[j].n ps[j].v = true := by
    unfold amB
    rw [List.any_eq_true]
    exact ⟨ps[i], by rw [List.mem_iff_getElem]; exact ⟨i, by simp; omega, by simp⟩, by simp [e]⟩
  rw [h0] at h1
  cases h1
theorem Ap.of {t : List UInt8} (h : rdE t = 0) : Ap (dcV t).packs := by
  obtain ⟨_, r2, _, _, r5⟩ := rd_ok h
  exact ⟨r2.packs, fun p hp q hq => ft_apart r5 hp hq, ft_nodup r5⟩
theorem Ap.n {ps : List Pk} (h : Ap ps) {p : Pk} (hp : p ∈ ps) : 97 ≤ p.n ∧ p.n ≤ 122 := by have := nm_rng (h.ok p hp).n; omega
theorem Ap.v {ps : List Pk} (h : Ap ps) {p : Pk} (hp : p ∈ ps) : 49 ≤ p.v ∧ p.v ≤ 57 := by have := vr_rng (h.ok p hp).v; omega
theorem b8_inj {a b : Nat} (ha : a < 256) (hb : b < 256) (h : b8 a = b8 b) : a = b := by have := congrArg UInt8.toNat h; rwa [b8_val ha, b8_val hb] at this
theorem Ap.key {ps : List Pk} (h : Ap ps) {p q : Pk} (hp : p ∈ ps) (hq : q ∈ ps) (e : pkI p = pkI q) : p = q := by
  unfold pkI at e
  simp only [List.cons.injEq, and_true] at e
  have a1 := h.n hp
  have a2 := h.n hq
  have a3 := h.v hp
  have a4 := h.v hq
  exact h.ap p hp q hq (b8_inj (by omega) (by omega) e.1) (b8_inj (by omega) (by omega) e.2)

/-- The packages of a pick. -/
structure Pq (ps : List Pk) (P : List UInt8) (L : List Pk) : Prop where
  keys : L.map pkI = ch2 P
  sub : ∀ p ∈ L, p ∈ ps
  nd : L.Nodup
theorem nb_get {ps : List Pk} {a b : Nat} {p : Pk} (h : ps[nbT ps a b]? = some p) : p ∈ ps ∧ p.n = a ∧ p.v = b := by
  obtain ⟨hl, e⟩ := List.getElem?_eq_some_iff.1 h
  have h2 : (ps[nbT ps a b].n == a && ps[nbT ps a b].v == b) = true := List.findIdx_getElem (xs := ps) (p := fun q : Pk => q.n == a && q.v == b) (w := hl)
  rw [e] at h2
  simp at h2
  exact ⟨List.mem_of_getElem? h, h2.1, h2.2⟩
theorem nb_some {ps : List Pk} {p : Pk} (hp : p ∈ ps) : ∃ q, ps[nbT ps p.n p.v]? = some q := by
  have h : nbT ps p.n p.v < ps.length := by
    have := nb_am ps p.n p.v
    have h2 : amB ps p.n p.v = true := by unfold amB; rw [List.any_eq_true]; exact ⟨p, hp, by simp⟩
    rw [h2] at this
    exact of_decide_eq_true this
  exact ⟨_, List.getElem?_eq_getElem h⟩

theorem rdL_some {ps : List Pk} : ∀ (n : Nat) (last P : List UInt8) (L : List Pk), P.length ≤ n → rdL ps last P = some L → L.map pkI = ch2 P ∧ (∀ p ∈ L, p ∈ ps) ∧ ordL last P = true
  | _, last, [], L, _, h => by simp [rdL] at h; subst h; simp [ch2, ordL]
  | _, last, [c], L, _, h => by simp [rdL] at h; subst h; simp [ch2, ordL]
  | 0, last, c :: d :: r, L, hn, _ => by simp at hn
  | n + 1, last, c :: d :: r, L, hn, h => by
    rw [rdL] at h
    split at h
    · cases h
    · rename_i p hp
      obtain ⟨hm, e1, e2⟩ := nb_get hp
      split at h
      · rename_i hg
        cases hr : rdL ps [c, d] r with
        | none => rw [hr] at h; simp at h
        | some M =>
          rw [hr] at h
          simp at h
          subst h
          obtain ⟨h1, h2, h3⟩ := rdL_some n [c, d] r M (by simp at hn; omega) hr
          refine ⟨?_, ?_, ?_⟩
          · rw [List.map_cons, h1, ch2]
            unfold pkI
            rw [e1, e2, b8_toNat, b8_toNat]
          · intro q hq
            rcases List.mem_cons.1 hq with rfl | hq
            · exact hm
            · exact h2 q hq
          · rw [ordL, hg, h3]; rfl
      · cases h
theorem rdL_all {ps : List Pk} (ha : Ap ps) : ∀ (n : Nat) (last P : List UInt8), P.length ≤ n → (∀ x ∈ ch2 P, ∃ p ∈ ps, pkI p = x) → ordL last P = true → ∃ L, rdL ps last P = some L
  | _, last, [], _, _, _ => ⟨[], rfl⟩
  | _, last, [c], _, _, _ => ⟨[], rfl⟩
  | 0, last, c :: d :: r, hn, _, _ => by simp at hn
  | n + 1, last, c :: d :: r, hn, hx, ho => by
    rw [ordL, Bool.and_eq_true] at ho
    rw [ch2] at hx
    obtain ⟨p, hp, e⟩ := hx [c, d] (by simp)
    obtain ⟨M, hM⟩ := rdL_all ha n [c, d] r (by simp at hn; omega) (fun x h => hx x (by simp [h])) ho.2
    unfold pkI at e
    simp only [List.cons.injEq, and_true] at e
    have a1 := ha.n hp
    have a2 := ha.v hp
    have e1 : c.toNat = p.n := by rw [← e.1, b8_val (by omega)]
    have e2 : d.toNat = p.v := by rw [← e.2, b8_val (by omega)]
    obtain ⟨q, hq⟩ := nb_some hp
    refine ⟨q :: M, ?_⟩
    rw [rdL, e1, e2, hq]
    simp only
    rw [ho.1, hM]
    rfl

/-- A list without repetitions is no longer than one that has all of it. -/
theorem nodup_le {α : Type} [DecidableEq α] : ∀ (A B : List α), A.Nodup → (∀ a ∈ A, a ∈ B) → A.length ≤ B.length
  | [], B, _, _ => Nat.zero_le _
  | a :: A, B, hA, hs => by
    have hb := hs a (by simp)
    have hA' := List.nodup_cons.1 hA
    have h1 := nodup_le A (B.erase a) hA'.2 (fun x hx => by
      have hne : x ≠ a := fun e => hA'.1 (e ▸ hx)
      exact (List.mem_erase_of_ne hne).2 (hs x (by simp [hx])))
    rw [List.length_erase_of_mem hb] at h1
    have : 0 < B.length := List.length_pos_of_mem hb
    simp only [List.length_cons]
    omega
theorem nodup_len {α : Type} [DecidableEq α] {A B : List α} (hA : A.Nodup) (hB : B.Nodup) (h : ∀ a, a ∈ A ↔ a ∈ B) : A.length = B.length :=
  Nat.le_antisymm (nodup_le A B hA (fun a ha => (h a).1 ha)) (nodup_le B A hB (fun a ha => (h a).2 ha))

theorem inB_iff (P I : List UInt8) : inB P I = true ↔ I ∈ ch2 P := by
  unfold inB
  rw [List.any_eq_true]
  constructor
  · rintro ⟨x, hx, e⟩; rw [beq_iff_eq] at e; subst e; exact hx
  · intro h; exact ⟨I, h, by simp⟩

end Go.Proofs.YtdfnnpakdbhhpaaGreatDoor

/-
  Valid: what the program answers is what the document asks: plain mathematics.
-/
namespace Go.Proofs.YtdfnnpakdbhhpaaGreatDoor

theorem Pq.mem {ps : List Pk} {P : List UInt8} {L : List Pk} (ha : Ap ps) (h : Pq ps P L) {p : Pk} (hp : p ∈ ps) : inB P (pkI p) = true ↔ p ∈ L := by
  rw [inB_iff, ← h.keys, List.mem_map]
  constructor
  · rintro ⟨q, hq, e⟩
    rw [← ha.key (h.sub q hq) hp e]
    exact hq
  · intro hL
    exact ⟨p, hL, rfl⟩
theorem Pq.of {ps : List Pk} {P : List UInt8} {L : List Pk} (_ha : Ap ps) (h : prL ps P = some L) : Pq ps P L := by
  unfold prL at h
  split at h
  · cases h
  · split at h
    · obtain ⟨h1, h2, h3⟩ := rdL_some P.length [] P L (Nat.le_refl _) h
      refine ⟨h1, h2, ?_⟩
      have hn := ord_nodup P (by rw [ord_nil]; exact h3)
      rw [← h1] at hn
      exact List.Pairwise.of_map pkI (fun a b hab e => hab (by rw [e])) hn
    · cases h

/-- A text is a pick just if the program reads one. -/
theorem pick_same {ps : List Pk} (ha : Ap ps) (hl : ps.length ≤ 20) (P : List UInt8) : pickB ps P = (prL ps P).isSome := by
  have hkeys : (ps.map pkI).Nodup := by
    refine List.pairwise_map.2 ?_
    exact ha.nd.imp_of_mem (fun {a b} h1 h2 h e => h (ha.key h1 h2 e))
  have hcl := ch2_len P.length P (Nat.le_refl _)
  rw [Bool.eq_iff_iff]
  constructor
  · intro h
    unfold pickB at h
    simp only [Bool.and_eq_true, beq_iff_eq, decide_eq_true_eq] at h
    obtain ⟨⟨⟨h1, h2⟩, h3⟩, h4⟩ := h
    have hn := ord_nodup P h3
    -- those of the packages that are in the text: as many as the text has pairs
    have hA : ((ps.filter fun p => inB P (pkI p)).map pkI).length = (ch2 P).length := by
      rw [List.length_map, hcl]
      unfold inN at h4
      omega
    have hAn : ((ps.filter fun p => inB P (pkI p)).map pkI).Nodup := hkeys.sublist (List.Sublist.map pkI List.filter_sublist)
    have hsub : ∀ x ∈ (ps.filter fun p => inB P (pkI p)).map pkI, x ∈ ch2 P := by
      intro x hx
      obtain ⟨p, hp, rfl⟩ := List.mem_map.1 hx
      exact (inB_iff _ _).1 (List.mem_filter.1 hp).2
    have hall : ∀ x ∈ ch2 P, ∃ p ∈ ps, pkI p = x := by
      intro x hx
      by_cases hm : x ∈ (ps.filter fun p => inB P (pkI p)).map pkI
      · obtain ⟨p, hp, e⟩ := List.mem_map.1 hm
        exact ⟨p, (List.mem_filter.1 hp).1, e⟩
      · exfalso
        have h5 := nodup_le (x :: (ps.filter fun p => inB P (pkI p)).map pkI) (ch2 P) (List.nodup_cons.2 ⟨hm, hAn⟩) (fun y hy => by
          rcases List.mem_cons.1 hy with rfl | hy
          · exact hx
          · exact hsub y hy)
        rw [List.length_cons, hA] at h5
        omega
    obtain ⟨L, hL⟩ := rdL_all ha P.length [] P (Nat.le_refl _) hall (by rw [← ord_nil]; exact h3)
    unfold prL
    rw [if_neg (by omega), if_pos h1, hL]
    rfl
  · intro h
    obtain ⟨L, hL⟩ := Option.isSome_iff_exists.1 h
    have hpq := Pq.of ha hL
    unfold prL at hL
    split at hL
    · cases hL
    · split at hL
      · rename_i hev
        obtain ⟨h1, h2, h3⟩ := rdL_some P.length [] P L (Nat.le_refl _) hL
        have hLlen : L.length = P.length / 2 := by rw [← hcl, ← h1, List.length_map]
        haveI : DecidableEq Pk := fun a b => Classical.propDecidable (a = b)
        have hle : L.length ≤ ps.length := nodup_le L ps hpq.nd hpq.sub
        have hin : inN ps P = L.length := by
          unfold inN
          refine nodup_len (ha.nd.sublist List.filter_sublist) hpq.nd (fun p => ?_)
          rw [List.mem_filter]
          constructor
          · rintro ⟨hp, hi⟩; exact (hpq.mem ha hp).1 hi
          · intro hp; exact ⟨hpq.sub p hp, (hpq.mem ha (hpq.sub p hp)).2 hp⟩
        unfold pickB
        rw [ord_nil, h3]
        simp only [Bool.and_eq_true, beq_iff_eq, decide_eq_true_eq, and_true]
        refine ⟨⟨hev, by omega⟩, by omega⟩
      · cases hL

/-- One of the packages picked fits. -/
theorem fit_same {ps : List Pk} {P : List UInt8} {L : List Pk} (ha : Ap ps) (h : Pq ps P L) (c : Cn) : fittedB ps P c [] = fdB L c := by
  unfold fittedB fdB
  rw [Bool.eq_iff_iff, List.any_eq_true, List.any_eq_true]
  constructor
  · rintro ⟨p, hp, e⟩
    simp only [Bool.and_eq_true] at e
    exact ⟨p, (h.mem ha hp).1 e.1.1, e.1.2⟩
  · rintro ⟨p, hp, e⟩
    refine ⟨p, h.sub p hp, ?_⟩
    rw [(h.mem ha (h.sub p hp)).2 hp, e]
    rfl
theorem met_same {ps : List Pk} {P : List UInt8} {L : List Pk} (ha : Ap ps) (h : Pq ps P L) (p : Pk) : metB ps P p = nmetB L p.needs := by
  unfold metB nmetB ndB
  simp only [fit_same ha h]
theorem all_picked {ps : List Pk} {P : List UInt8} {L : List Pk} (ha : Ap ps) (h : Pq ps P L) (f g : Pk → Bool) (hfg : ∀ p ∈ L, f p = g p) : (ps.all fun p => !(inB P (pkI p) && !f p)) = L.all g := by
  rw [Bool.eq_iff_iff, List.all_eq_true, List.all_eq_true]
  constructor
  · intro hx p hp
    have := hx p (h.sub p hp)
    rw [(h.mem ha (h.sub p hp)).2 hp] at this
    rw [← hfg p hp]
    simpa using this
  · intro hx p hp
    by_cases hL : p ∈ L
    · have := hx p hL
      rw [← hfg p hL] at this
      simp [this]
    · have : inB P (pkI p) = false := by
        cases hi : inB P (pkI p) with
        | false => rfl
        | true => exact absurd ((h.mem ha hp).1 hi) hL
      simp [this]

theorem nc_iff {L : List Pk} : ∀ (f k : Nat), L.length < f + k → (ncT L f k = true ↔ ∀ i (hi : i < L.length), k ≤ i → (L[i].conf.all (nc1 (L.take i) (L.drop (i + 1)))) = true)
  | 0, k, hf => by
    constructor
    · intro _ i hi hk; omega
    · intro _; rfl
  | f + 1, k, hf => by
    rcases Nat.lt_or_ge k L.length with hk | hk
    · rw [ncT, List.getElem?_eq_getElem hk]
      simp only [Bool.and_eq_true]
      rw [nc_iff f (k + 1) (by omega)]
      constructor
      · rintro ⟨h1, h2⟩ i hi hki
        rcases Nat.lt_or_ge k i with h3 | h3
        · exact h2 i hi h3
        · have : i = k := by omega
          subst this
          exact h1
      · intro hx
        exact ⟨hx k hk (Nat.le_refl _), fun i hi hki => hx i hi (by omega)⟩
    · rw [ncT, List.getElem?_eq_none hk]
      constructor
      · intro _ i hi hki; omega
      · intro _; rfl
theorem nd_apart {L : List Pk} (hn : L.Nodup) {i : Nat} (hi : i < L.length) (q : Pk) : (q ∈ L.take i ∨ q ∈ L.drop (i + 1)) ↔ (q ∈ L ∧ q ≠ L[i]) := by
  have hp := List.pairwise_iff_getElem.1 hn
  constructor
  · rintro (h | h)
    · obtain ⟨j, hj, rfl⟩ := List.getElem_of_mem h
      have hj' : j < i ∧ j < L.length := by simp at hj; omega
      rw [List.getElem_take]
      exact ⟨List.getElem_mem _, hp j i hj'.2 hi hj'.1⟩
    · obtain ⟨j, hj, rfl⟩ := List.getElem_of_mem h
      have hj' : i + 1 + j < L.length := by simp at hj; omega
      rw [List.getElem_drop]
      exact ⟨List.getElem_mem _, fun e => hp i (i + 1 + j) hi hj' (by omega) e.symm⟩
  · rintro ⟨h, hne⟩
    obtain ⟨j, hj, rfl⟩ := List.getElem_of_mem h
    rcases Nat.lt_trichotomy j i with h1 | h1 | h1
    · left
      rw [List.mem_iff_getElem]
      exact ⟨j, by simp; omega, by simp⟩
    · subst h1; exact absurd rfl hne
    · right
      rw [List.mem_iff_getElem]
      refine ⟨j - (i + 1), by simp; omega, ?_⟩
      rw [List.getElem_drop]
      congr 1
      omega
theorem beside_same {ps : List Pk} {P : List UInt8} {L : List Pk} (ha : Ap ps) (h : Pq ps P L) {i : Nat} (hi : i < L.length) : besideB ps P L[i] = L[i].conf.all (nc1 (L.take i) (L.drop (i + 1))) := by
  unfold besideB
  congr 1
  funext c
  have hpi := h.sub _ (List.getElem_mem hi)
  unfold nc1
  congr 1
  unfold fittedB fdB
  rw [Bool.eq_iff_iff, List.any_eq_true, Bool.or_eq_true, List.any_eq_true, List.any_eq_true]
  have key := nd_apart h.nd hi
  constructor
  · rintro ⟨q, hq, e⟩
    simp only [Bool.and_eq_true, Bool.not_eq_true', beq_eq_false_iff_ne] at e
    have hqL := (h.mem ha hq).1 e.1.1
    have hne : q ≠ L[i] := fun e' => e.2 (by rw [e'])
    rcases (key q).2 ⟨hqL, hne⟩ with h1 | h1
    · exact Or.inl ⟨q, h1, e.1.2⟩
    · exact Or.inr ⟨q, h1, e.1.2⟩
  · rintro (⟨q, hq, e⟩ | ⟨q, hq, e⟩)
    · obtain ⟨hqL, hne⟩ := (key q).1 (Or.inl hq)
      refine ⟨q, h.sub q hqL, ?_⟩
      have h2 : (pkI q == pkI L[i]) = false := by rw [beq_eq_false_iff_ne]; exact fun e' => hne (ha.key (h.sub q hqL) hpi e')
      rw [(h.mem ha (h.sub q hqL)).2 hqL, e, h2]
      rfl
    · obtain ⟨hqL, hne⟩ := (key q).1 (Or.inr hq)
      refine ⟨q, h.sub q hqL, ?_⟩
      have h2 : (pkI q == pkI L[i]) = false := by rw [beq_eq_false_iff_ne]; exact fun e' => hne (ha.key (h.sub q hqL) hpi e')
      rw [(h.mem ha (h.sub q hqL)).2 hqL, e, h2]
      rfl
theorem nc_same {ps : List Pk} {P : List UInt8} {L : List Pk} (ha : Ap ps) (h : Pq ps P L) : ps.all (r2 ps P) = ncB L := by
  have h1 : ps.all (r2 ps P) = L.all (besideB ps P) := all_picked ha h (besideB ps P) (besideB ps P) (fun _ _ => rfl)
  rw [h1, Bool.eq_iff_iff, List.all_eq_true]
  unfold ncB
  rw [nc_iff (L.length + 1) 0 (by omega)]
  constructor
  · intro hx i hi _
    rw [← beside_same ha h hi]
    exact hx _ (List.getElem_mem hi)
  · intro hx p hp
    obtain ⟨i, hi, rfl⟩ := List.getElem_of_mem hp
    rw [beside_same ha h hi]
    exact hx i hi (Nat.zero_le _)

end Go.Proofs.YtdfnnpakdbhhpaaGreatDoor

/-
  Valid: the versions of a name; the rules 3 and 6; the answer: plain mathematics.
-/
namespace Go.Proofs.YtdfnnpakdbhhpaaGreatDoor

theorem all_cong {α : Type} {f g : α → Bool} : ∀ {l : List α}, (∀ a ∈ l, f a = g a) → l.all f = l.all g
  | [], _ => rfl
  | a :: l, h => by
    rw [List.all_cons, List.all_cons, h a (by simp), all_cong (fun b hb => h b (by simp [hb]))]
theorem mem_vIn {ps : List Pk} {P N : List UInt8} {now : Bool} {v : Nat} {x : UInt8} : x ∈ vIn ps P N now v ↔ ∃ p ∈ ps, vA P now p = true ∧ [b8 p.n] = N ∧ p.v = v ∧ x = b8 p.v := by
  unfold vIn vHas
  rw [List.mem_map]
  constructor
  · rintro ⟨p, hp, rfl⟩
    obtain ⟨h1, h2⟩ := List.mem_filter.1 hp
    simp only [Bool.and_eq_true, beq_iff_eq] at h2
    exact ⟨p, h1, h2.1.1, h2.1.2, h2.2, rfl⟩
  · rintro ⟨p, h1, h2, h3, h4, rfl⟩
    refine ⟨p, List.mem_filter.2 ⟨h1, ?_⟩, rfl⟩
    simp [h2, h3, h4]
theorem mem_vers {ps : List Pk} {P N : List UInt8} {now : Bool} {x : UInt8} : ∀ (a : Nat), x ∈ vers ps P N now a ↔ ∃ p ∈ ps, vA P now p = true ∧ [b8 p.n] = N ∧ 49 ≤ p.v ∧ p.v < 49 + a ∧ x = b8 p.v
  | 0 => by
    simp only [vers, List.not_mem_nil, false_iff]
    rintro ⟨p, _, _, _, h1, h2, _⟩
    omega
  | a + 1 => by
    rw [vers, List.mem_append, mem_vers a, mem_vIn]
    constructor
    · rintro (⟨p, h1, h2, h3, h4, h5, h6⟩ | ⟨p, h1, h2, h3, h4, h5⟩)
      · exact ⟨p, h1, h2, h3, h4, by omega, h6⟩
      · exact ⟨p, h1, h2, h3, by omega, by omega, h5⟩
    · rintro ⟨p, h1, h2, h3, h4, h5, h6⟩
      rcases Nat.lt_or_ge p.v (49 + a) with h7 | h7
      · exact Or.inl ⟨p, h1, h2, h3, h4, h7, h6⟩
      · exact Or.inr ⟨p, h1, h2, h3, by omega, h6⟩
theorem mem_versT {ps : List Pk} (ha : Ap ps) {P N : List UInt8} {now : Bool} {x : UInt8} : x ∈ versT ps P N now ↔ ∃ p ∈ ps, vA P now p = true ∧ [b8 p.n] = N ∧ x = b8 p.v := by
  unfold versT
  rw [mem_vers]
  constructor
  · rintro ⟨p, h1, h2, h3, _, _, h6⟩; exact ⟨p, h1, h2, h3, h6⟩
  · rintro ⟨p, h1, h2, h3, h6⟩
    have := ha.v h1
    exact ⟨p, h1, h2, h3, by omega, by omega, h6⟩
theorem filt_split (q : Pk → Bool) (n : Nat) : ∀ (ps : List Pk), (ps.filter fun p => q p && decide (p.v < n + 1)).length = (ps.filter fun p => q p && decide (p.v < n)).length + (ps.filter fun p => q p && p.v == n).length
  | [] => rfl
  | p :: r => by
    have ih := filt_split q n r
    simp only [List.filter_cons]
    cases hq : q p with
    | false => simpa using ih
    | true =>
      simp only [Bool.true_and]
      rcases Nat.lt_trichotomy p.v n with h | h | h
      · have h1 : decide (p.v < n + 1) = true := by simp; omega
        have h2 : decide (p.v < n) = true := by simp; omega
        have h3 : (p.v == n) = false := by rw [beq_eq_false_iff_ne]; omega
        rw [h1, h2, h3]
        simp only [if_true, Bool.false_eq_true, if_false, List.length_cons]
        omega
      · have h1 : decide (p.v < n + 1) = true := by simp; omega
        have h2 : decide (p.v < n) = false := by simp; omega
        have h3 : (p.v == n) = true := by rw [beq_iff_eq]; omega
        rw [h1, h2, h3]
        simp only [if_true, Bool.false_eq_true, if_false, List.length_cons]
        omega
      · have h1 : decide (p.v < n + 1) = false := by simp; omega
        have h2 : decide (p.v < n) = false := by simp; omega
        have h3 : (p.v == n) = false := by rw [beq_eq_false_iff_ne]; omega
        rw [h1, h2, h3]
        simp only [Bool.false_eq_true, if_false]
        exact ih
theorem len_vers {ps : List Pk} {P N : List UInt8} {now : Bool} (hv : ∀ p ∈ ps, 49 ≤ p.v) : ∀ (a : Nat), (vers ps P N now a).length = (ps.filter fun p => (vA P now p && [b8 p.n] == N) && decide (p.v < 49 + a)).length
  | 0 => by
    have : (ps.filter fun p => (vA P now p && [b8 p.n] == N) && decide (p.v < 49 + 0)) = [] := by
      rw [List.filter_eq_nil_iff]
      intro p hp
      have := hv p hp
      simp
      omega
    rw [this]
    rfl
  | a + 1 => by
    rw [vers, List.length_append, len_vers hv a]
    have h1 := filt_split (fun p => vA P now p && [b8 p.n] == N) (49 + a) ps
    rw [show 49 + (a + 1) = 49 + a + 1 by omega, h1]
    congr 1
    unfold vIn
    rw [List.length_map]
    rfl
theorem len_versT {ps : List Pk} (ha : Ap ps) {P N : List UInt8} {now : Bool} : (versT ps P N now).length = (ps.filter fun p => vA P now p && [b8 p.n] == N).length := by
  unfold versT
  rw [len_vers (fun p hp => (ha.v hp).1)]
  congr 1
  refine List.filter_congr (fun p hp => ?_)
  have := ha.v hp
  have h : decide (p.v < 49 + 9) = true := by simp; omega
  rw [h, Bool.and_true]

/-- The last one. -/
def lastD (l : List UInt8) : UInt8 := l.getD (l.length - 1) 0
theorem last_vers {ps : List Pk} (ha : Ap ps) {P N : List UInt8} {now : Bool} : ∀ (a : Nat), a ≤ 9 → ∀ x ∈ vers ps P N now a, x.toNat ≤ (lastD (vers ps P N now a)).toNat
  | 0, _, x, hx => by simp [vers] at hx
  | a + 1, h9, x, hx => by
    rw [vers] at hx ⊢
    rcases hB : vIn ps P N now (49 + a) with _ | ⟨y, r⟩
    · rw [hB] at hx
      simp only [List.append_nil] at hx ⊢
      exact last_vers ha a (by omega) x hx
    · have hall : ∀ z ∈ y :: r, z = b8 (49 + a) := by
        intro z hz
        rw [← hB] at hz
        obtain ⟨p, _, _, _, h4, h5⟩ := mem_vIn.1 hz
        rw [h5, h4]
      have hlast : lastD (vers ps P N now a ++ (y :: r)) = b8 (49 + a) := by
        unfold lastD
        have hl : (vers ps P N now a ++ (y :: r)).length - 1 < (vers ps P N now a ++ (y :: r)).length := by simp
        rw [List.getD_eq_getElem?_getD, List.getElem?_eq_getElem hl, Option.getD_some, List.getElem_append_right (by simp)]
        exact hall _ (List.getElem_mem _)
      rw [hlast, b8_val (by omega)]
      rw [hB] at hx
      rcases List.mem_append.1 hx with hx | hx
      · obtain ⟨p, _, _, _, _, h5, h6⟩ := (mem_vers a).1 hx
        rw [h6, b8_val (by omega)]
        omega
      · rw [hall x hx, b8_val (by omega)]
        exact Nat.le_refl _
theorem last_mem {l : List UInt8} (h : l ≠ []) : lastD l ∈ l := by
  unfold lastD
  have hl : l.length - 1 < l.length := by have := List.length_pos_iff.2 h; omega
  rw [List.getD_eq_getElem?_getD, List.getElem?_eq_getElem hl]
  exact List.getElem_mem _

theorem gt_props (a : Nat) : ∀ (ps : List Pk) (g : Nat), g ≤ gtG a ps g ∧ (∀ p ∈ ps, p.n = a → p.v ≤ gtG a ps g) ∧ (gtG a ps g = g ∨ ∃ p ∈ ps, p.n = a ∧ gtG a ps g = p.v)
  | [], g => ⟨Nat.le_refl _, fun p hp => by simp at hp, Or.inl rfl⟩
  | q :: r, g => by
    rw [gtG]
    by_cases h : q.n = a ∧ g < q.v
    · rw [if_pos h]
      obtain ⟨h1, h2, h3⟩ := gt_props a r q.v
      refine ⟨by omega, fun p hp hn => ?_, ?_⟩
      · rcases List.mem_cons.1 hp with rfl | hp
        · exact h1
        · exact h2 p hp hn
      · rcases h3 with h3 | ⟨p, hp, hn, e⟩
        · exact Or.inr ⟨q, by simp, h.1, h3⟩
        · exact Or.inr ⟨p, by simp [hp], hn, e⟩
    · rw [if_neg h]
      obtain ⟨h1, h2, h3⟩ := gt_props a r g
      refine ⟨h1, fun p hp hn => ?_, ?_⟩
      · rcases List.mem_cons.1 hp with rfl | hp
        · have : p.v ≤ g := by
            rcases Nat.lt_or_ge g p.v with h4 | h4
            · exact absurd ⟨hn, h4⟩ h
            · exact h4
          omega
        · exact h2 p hp hn
      · rcases h3 with h3 | ⟨p, hp, hn, e⟩
        · exact Or.inl h3
        · exact Or.inr ⟨p, by simp [hp], hn, e⟩

theorem one_name {p : Pk} {a : Nat} (hp : p.n < 256) (ha : a < 256) : [b8 p.n] = [b8 a] ↔ p.n = a := by
  constructor
  · intro h; simp only [List.cons.injEq, and_true] at h; exact b8_inj hp ha h
  · intro h; rw [h]

/-- Versions now: none, or the greatest is the last. -/
theorem now_last {ps : List Pk} (ha : Ap ps) (P : List UInt8) {a : Nat} (hna : a < 256) : (versT ps P [b8 a] true = [] ∧ gtT (nowL ps) a = 0) ∨ (versT ps P [b8 a] true ≠ [] ∧ gtT (nowL ps) a = (lastD (versT ps P [b8 a] true)).toNat) := by
  obtain ⟨_, g2, g3⟩ := gt_props a (nowL ps) 0
  have hN : ∀ p, p ∈ nowL ps ↔ p ∈ ps ∧ vA P true p = true := fun p => by unfold nowL vA; rw [List.mem_filter]; simp
  by_cases hO : versT ps P [b8 a] true = []
  · refine Or.inl ⟨hO, ?_⟩
    rcases g3 with g3 | ⟨p, hp, hn, e⟩
    · exact g3
    · exfalso
      have h1 := (hN p).1 hp
      have : b8 p.v ∈ versT ps P [b8 a] true := (mem_versT ha).2 ⟨p, h1.1, h1.2, by rw [hn], rfl⟩
      rw [hO] at this
      simp at this
  · refine Or.inr ⟨hO, ?_⟩
    obtain ⟨p, hp, hA, hn, e⟩ := (mem_versT ha).1 (last_mem hO)
    have hpn := (one_name (by have := ha.n hp; omega) hna).1 hn
    have hpv := ha.v hp
    have hle := g2 p ((hN p).2 ⟨hp, hA⟩) hpn
    have hlast : (lastD (versT ps P [b8 a] true)).toNat = p.v := by rw [e, b8_val (by omega)]
    rcases g3 with g3 | ⟨q, hq, hqn, eq⟩
    · exfalso; omega
    · have h1 := (hN q).1 hq
      have hq2 : b8 q.v ∈ versT ps P [b8 a] true := (mem_versT ha).2 ⟨q, h1.1, h1.2, by rw [hqn], rfl⟩
      have h2 := last_vers ha 9 (Nat.le_refl _) _ hq2
      have hqv := ha.v h1.1
      rw [b8_val (by omega)] at h2
      have h3 : q.v ≤ (lastD (versT ps P [b8 a] true)).toNat := h2
      unfold gtT
      rw [eq] at hle ⊢
      omega

theorem vA_pick {ps : List Pk} {P : List UInt8} {L : List Pk} (ha : Ap ps) (h : Pq ps P L) {p : Pk} (hp : p ∈ ps) : vA P false p = true ↔ p ∈ L := h.mem ha hp
theorem vers_empty {ps : List Pk} {P : List UInt8} {L : List Pk} (ha : Ap ps) (h : Pq ps P L) {a : Nat} (hna : a < 256) : (versT ps P [b8 a] false).isEmpty = !hnB L a := by
  unfold hnB
  rw [Bool.eq_iff_iff, List.isEmpty_iff, Bool.not_eq_true', List.any_eq_false]
  constructor
  · intro he p hp hn
    have hps := h.sub p hp
    have hn' : p.n = a := by simpa using hn
    have : b8 p.v ∈ versT ps P [b8 a] false := (mem_versT ha).2 ⟨p, hps, (vA_pick ha h hps).2 hp, by rw [hn'], rfl⟩
    rw [he] at this
    simp at this
  · intro hx
    rw [List.eq_nil_iff_forall_not_mem]
    intro x hxm
    obtain ⟨p, hp, hA, hn, _⟩ := (mem_versT ha).1 hxm
    have hpn := (one_name (by have := ha.n hp; omega) hna).1 hn
    exact hx p ((vA_pick ha h hp).1 hA) (by simp [hpn])
theorem am_same {ps : List Pk} {P : List UInt8} {L : List Pk} (ha : Ap ps) (h : Pq ps P L) {p : Pk} (hp : p ∈ ps) : amB L p.n p.v = inB P (pkI p) := by
  rw [Bool.eq_iff_iff, h.mem ha hp]
  unfold amB
  rw [List.any_eq_true]
  constructor
  · rintro ⟨q, hq, e⟩
    simp at e
    rw [← ha.ap q (h.sub q hq) p hp e.1 e.2]
    exact hq
  · intro hL; exact ⟨p, hL, by simp⟩
theorem stay_same {ps : List Pk} {P : List UInt8} {L : List Pk} (ha : Ap ps) (h : Pq ps P L) : staysB ps P = ps.all (mk1 L) := by
  unfold staysB
  refine all_cong (fun p hp => ?_)
  have hn := ha.n hp
  unfold stay1 mk1
  rw [vers_empty ha h (by omega), am_same ha h hp]
  show _ = (!(p.m == 2 && !inB P [b8 p.n, b8 p.v]) && _)
  rw [Bool.not_or]
theorem fu_find {ps : List Pk} (ha : Ap ps) {q : Pk} (hq : q ∈ ps) (c : Cn) : ∀ (r : List Pk), (∀ p ∈ r, p ∈ ps) → q ∈ r → fu (pkI q) c r = fitB q c
  | [], _, h => by simp at h
  | p :: r, hs, h => by
    rw [fu]
    by_cases e : pkI p = pkI q
    · have : p = q := ha.key (hs p (by simp)) hq e
      subst this
      rw [if_pos (by simp [pkI])]
    · have h1 : ([b8 p.n, b8 p.v] == pkI q) = false := by rw [beq_eq_false_iff_ne]; exact e
      rw [h1]
      simp only [Bool.false_eq_true, if_false]
      refine fu_find ha hq c r (fun x hx => hs x (by simp [hx])) ?_
      rcases List.mem_cons.1 h with rfl | h
      · exact absurd rfl e
      · exact h
theorem up_same {ps : List Pk} {P : List UInt8} {L : List Pk} (ha : Ap ps) (h : Pq ps P L) {c : Cn} (hc : c.n < 256) : upgB ps P c = up1 (nowL ps) L c := by
  have hlen : (versT ps P [b8 c.n] false).length = (wnL L c.n).length := by
    rw [len_versT ha]
    haveI : DecidableEq Pk := fun a b => Classical.propDecidable (a = b)
    refine nodup_len (ha.nd.sublist List.filter_sublist) (h.nd.sublist List.filter_sublist) (fun p => ?_)
    unfold wnL
    rw [List.mem_filter, List.mem_filter, Bool.and_eq_true, beq_iff_eq, beq_iff_eq]
    constructor
    · rintro ⟨hp, hA, hn⟩
      exact ⟨(vA_pick ha h hp).1 hA, (one_name (by have := ha.n hp; omega) hc).1 hn⟩
    · rintro ⟨hp, hn⟩
      exact ⟨h.sub p hp, (vA_pick ha h (h.sub p hp)).2 hp, by rw [hn]⟩
  unfold upgB up1
  rcases hW : wnL L c.n with _ | ⟨q, _ | ⟨q2, W⟩⟩
  · rw [hW] at hlen
    unfold upgV upV
    rw [hlen]
    rfl
  · rw [hW] at hlen
    have hq : q ∈ wnL L c.n := by rw [hW]; simp
    unfold wnL at hq
    obtain ⟨hqL, hqn⟩ := List.mem_filter.1 hq
    simp at hqn
    have hqs := h.sub q hqL
    have hqv := ha.v hqs
    have hm : b8 q.v ∈ versT ps P [b8 c.n] false := (mem_versT ha).2 ⟨q, hqs, (vA_pick ha h hqs).2 hqL, by rw [hqn], rfl⟩
    match hV : versT ps P [b8 c.n] false, hlen, hm with
    | [x], _, hm =>
      simp at hm
      subst hm
      have e1 : b8 c.n :: [b8 q.v] = pkI q := by unfold pkI; rw [hqn]
      unfold upgV upV
      rw [e1, fu_find ha hqs c ps (fun _ hp => hp) hqs]
      have e2 : ((([b8 q.v] : List UInt8).getD 0 0).toNat) = q.v := by show (b8 q.v).toNat = _; rw [b8_val (by omega)]
      rw [e2]
      rcases now_last ha [] hc with ⟨hO, hg⟩ | ⟨hO, hg⟩
      · rw [hO, hg]; simp
      · rw [hg]
        have : (versT ps [] [b8 c.n] true).isEmpty = false := by
          cases hx : (versT ps [] [b8 c.n] true).isEmpty with
          | false => rfl
          | true => exact absurd (List.isEmpty_iff.1 hx) hO
        rw [this]
        rfl
  · rw [hW] at hlen
    unfold upgV upV
    rw [hlen]
    simp

/-- The rule that a pick breaks. -/
theorem rule_same {d : Dc} (hok : DcOk d) (ha : Ap d.packs) {P : List UInt8} {L : List Pk} (h : Pq d.packs P L) : ruleN d P = fbN d L := by
  have e1 : d.packs.all (r1 d.packs P) = L.all (fun p => nmetB L p.needs) := all_picked ha h (metB d.packs P) (fun p => nmetB L p.needs) (fun p _ => met_same ha h p)
  have e2 := nc_same ha h
  have e3 := stay_same ha h
  have e4 : d.ins.all (fun c => fittedB d.packs P c []) = d.ins.all (fdB L) := all_cong (fun c _ => fit_same ha h c)
  have e5 : d.rem.all (fun c => !fittedB d.packs P c []) = d.rem.all (fun c => !fdB L c) := all_cong (fun c _ => by rw [fit_same ha h c])
  have e6 : d.upg.all (fun c => upgB d.packs P c) = d.upg.all (up1 (nowL d.packs) L) := all_cong (fun c hc => up_same ha h (by have := nm_rng (hok.upg c hc).n; omega))
  unfold ruleN fbN fb2 fb3 fb4 fb5 fb6
  rw [e1, e2, e3, e4, e5, e6]

theorem valid_same (t P : List UInt8) : uvE t P = vaE t P ∧ uvR t P = vaR t P := by
  unfold uvE uvR vaE vaR
  by_cases h : rdE t = 0
  · have ha := Ap.of h
    obtain ⟨_, r2, _, r4, _⟩ := rd_ok h
    rw [if_pos h, if_pos h, if_pos h, if_pos h, pick_same ha r4]
    unfold prE
    rcases hp : prL (dcV t).packs P with _ | L
    · exact ⟨rfl, rfl⟩
    · exact ⟨rfl, (rule_same r2 ha (Pq.of ha hp)).symm⟩
  · rw [if_neg h, if_neg h, if_neg h, if_neg h]
    exact ⟨rfl, rfl⟩

end Go.Proofs.YtdfnnpakdbhhpaaGreatDoor

namespace Go.Proofs.YtdfnnpakdbhhpaaGreatDoor
open Go.RowKit

theorem ex_one (X : ByteArray) (hX : ∀ j : Fin 10, ((X.data.toList.take (j.val + 1)).drop j.val) = digT j.val) (i : Nat) (h : i < 10) : X.extract i (i + 1) = bs (digT i) := by
  rw [extract_bs, hX ⟨i, h⟩]
theorem ex_two (X : ByteArray) (hX : ∀ j : Fin 17, ((X.data.toList.take ((j.val + 10) * 2 + 2)).drop ((j.val + 10) * 2)) = digT (j.val + 10)) (i : Nat) (h : ¬ i < 10) (hi : i ≤ 26) : X.extract (i * 2) (i * 2 + 2) = bs (digT i) := by
  have := hX ⟨i - 10, by omega⟩
  simp only [show i - 10 + 10 = i by omega] at this
  rw [extract_bs, this]

set_option maxHeartbeats 800000 in
set_option maxRecDepth 100000 in
theorem it_small (i : Nat) (w : World) (hi : i ≤ 26) : Calls Tryz.prog 116 #[.int .i64 i] w fun e w' => e = .returned (.string (bs (digT i))) ∧ w' = w := by
  by_cases h : i < 10
  · have h' : (i : Int) < 10 := by omega
    go_enter Tryz.func116, Tryz.ntmps116
    go_wp2
    go_ret
    exact ⟨ret_str (ex_one _ (by decide +kernel) i h), rfl⟩
  · have h' : ¬ (i : Int) < 10 := by omega
    go_enter Tryz.func116, Tryz.ntmps116
    go_wp2
    go_ret
    exact ⟨ret_str (ex_two _ (by decide +kernel) i h hi), rfl⟩

set_option maxHeartbeats 800000 in
theorem it_FormatInt (i : Nat) (w : World) (hi : i ≤ 26) : Calls Tryz.prog 111 #[.int .i64 i, .int .i64 10] w fun e w' => e = .returned (.string (bs (digT i))) ∧ w' = w := by
  have h0 : (0 : Int) ≤ (i : Int) := by omega
  have h1 : (i : Int) < 100 := by omega
  go_enter Tryz.func111, Tryz.ntmps111
  go_wp2_with fail
  refine (it_small i _ hi).mono ?_
  rintro e w1 ⟨rfl, rfl⟩
  go_wp2
  go_ret
  exact ⟨rfl, rfl⟩
theorem it_Itoa (i : Nat) (w : World) (hi : i ≤ 26) : Calls Tryz.prog 92 #[.int .i64 i] w fun e w' => e = .returned (.string (bs (digT i))) ∧ w' = w := by
  go_enter Tryz.func92, Tryz.ntmps92
  go_wp2_with fail
  refine (it_FormatInt i _ hi).mono ?_
  rintro e w1 ⟨rfl, rfl⟩
  go_wp2
  go_ret
  exact ⟨rfl, rfl⟩
theorem std_Itoa (i : Nat) (w : World) (hi : i ≤ 26) : Calls Tryz.prog 56 #[.int .i64 i] w fun e w' => e = .returned (.string (bs (digT i))) ∧ w' = w := by
  go_enter Tryz.func56, Tryz.ntmps56
  go_wp2_with fail
  refine (it_Itoa i _ hi).mono ?_
  rintro e w1 ⟨rfl, rfl⟩
  go_wp2
  go_ret
  exact ⟨rfl, rfl⟩

end Go.Proofs.YtdfnnpakdbhhpaaGreatDoor

namespace Go.Proofs.YtdfnnpakdbhhpaaGreatDoor
open Go.RowKit

def sgnB (x : Nat) : Bool := x == 45 || x == 43
def letB (y : Nat) : Bool := y == 114 || y == 110 || y == 99 || y == 117

set_option maxHeartbeats 800000 in
theorem sc_isSign (x : Nat) (w : World) : Calls Tryz.prog 53 #[.int .u8 x] w fun e w' => e = .returned (.bool (sgnB x)) ∧ w' = w := by
  by_cases h1 : x = 45
  · have e1 : ((x : Int) == 45) = true := by rw [beq_iff_eq]; omega
    have HF : Hid (sgnB x = true) := by show _ = _; simp [sgnB, h1]
    clear h1
    go_enter Tryz.func53, Tryz.ntmps53
    go_wp2
    go_ret
    exact ⟨ret_bool HF.out.symm, rfl⟩
  · have e1 : ((x : Int) == 45) = false := by rw [beq_eq_false_iff_ne]; omega
    have HF : Hid (((x : Int) == 43) = sgnB x) := by show _ = _; rw [Bool.eq_iff_iff]; simp [sgnB, h1]; omega
    clear h1
    go_enter Tryz.func53, Tryz.ntmps53
    go_wp2
    go_ret
    exact ⟨ret_bool HF.out, rfl⟩

set_option maxHeartbeats 800000 in
theorem sc_isLetter (x : Nat) (w : World) : Calls Tryz.prog 54 #[.int .u8 x] w fun e w' => e = .returned (.bool (letB x)) ∧ w' = w := by
  by_cases h1 : x = 114
  · have e1 : ((x : Int) == 114) = true := by rw [beq_iff_eq]; omega
    have HF : Hid (letB x = true) := by show _ = _; simp [letB, h1]
    clear h1
    go_enter Tryz.func54, Tryz.ntmps54
    go_wp2
    go_ret
    exact ⟨ret_bool HF.out.symm, rfl⟩
  have e1 : ((x : Int) == 114) = false := by rw [beq_eq_false_iff_ne]; omega
  by_cases h2 : x = 110
  · have e2 : ((x : Int) == 110) = true := by rw [beq_iff_eq]; omega
    have HF : Hid (letB x = true) := by show _ = _; simp [letB, h2]
    clear h1 h2
    go_enter Tryz.func54, Tryz.ntmps54
    go_wp2
    go_ret
    exact ⟨ret_bool HF.out.symm, rfl⟩
  have e2 : ((x : Int) == 110) = false := by rw [beq_eq_false_iff_ne]; omega
  by_cases h3 : x = 99
  · have e3 : ((x : Int) == 99) = true := by rw [beq_iff_eq]; omega
    have HF : Hid (letB x = true) := by show _ = _; simp [letB, h3]
    clear h1 h2 h3
    go_enter Tryz.func54, Tryz.ntmps54
    go_wp2
    go_ret
    exact ⟨ret_bool HF.out.symm, rfl⟩
  have e3 : ((x : Int) == 99) = false := by rw [beq_eq_false_iff_ne]; omega
  have HF : Hid (((x : Int) == 117) = letB x) := by show _ = _; rw [Bool.eq_iff_iff]; simp [letB, h1, h2, h3]; omega
  clear h1 h2 h3
  go_enter Tryz.func54, Tryz.ntmps54
  go_wp2
  go_ret
  exact ⟨ret_bool HF.out, rfl⟩

/-- The letters of criteria; none: the text is none. -/
def rdC : List UInt8 → Option (List Nat)
  | a :: b :: r => if sgnB a.toNat && letB b.toNat then (rdC r).map (b.toNat :: ·) else none
  | _ => some []
def crL (C : List UInt8) : Option (List Nat) := if C.length = 0 then none else if 8 < C.length then none else if C.length % 2 = 0 then rdC C else none
def crE (C : List UInt8) : Nat := if (crL C).isSome then 0 else 6
/-- Bytes of an own row. -/
def BO (w wr : World) (v : Value) (l : List Nat) : Prop := wr.ownsRow w.heap.size 5 1 v l.length (l.map fun (c : Nat) => .int .u8 (c : Int))
theorem BO.bv {w wr : World} {v : Value} {l : List Nat} (h : BO w wr v l) (hl : l.length ≤ 801) : BV wr v l := by
  rcases own_shape h with ⟨rfl, h0⟩ | ⟨g, cap, rfl, hc⟩
  · have : l = [] := List.eq_nil_of_length_eq_zero h0
    subst this
    exact ⟨hl, none, 0, rfl, fun j h => by simp at h⟩
  · exact ⟨hl, _, _, rfl, fun j hj => ⟨g, 0, rfl, own_lt h, by rw [Nat.zero_add]; exact own_cell h j _ (by simp [hj])⟩⟩

end Go.Proofs.YtdfnnpakdbhhpaaGreatDoor

namespace Go.Proofs.YtdfnnpakdbhhpaaGreatDoor
open Go.RowKit

theorem sc_bad {C : List UInt8} (h : crL C = none) : crE C = 6 := by unfold crE; rw [h]; rfl

set_option maxHeartbeats 3200000 in
set_option maxRecDepth 100000 in
theorem sc_Read (C : List UInt8) (w : World) (hCm : (C.length : Int) ≤ maxLen) :
    Calls Tryz.prog 26 #[.string (bs C)] w fun e w' => ∃ a n c, e = .returned (.agg #[.slice a n c, .int .i64 (crE C : Nat)]) ∧ Below w.heap.size w w' ∧ (∀ L, crL C = some L → BV w' (.slice a n c) L) := by
  obtain ⟨i0, hi0, hz0, hz1, hz2⟩ := info_parts Tryz.infoU8
  have hsz : (bs C).size = C.length := bs_size C
  unfold maxLen at hCm
  have HBK0 : Hid ((w.alloc (.cells #[.slice none 0 0, .int .i64 0] 61)).heap[w.heap.size]? = some (.cells #[.slice none 0 0, .int .i64 0] 61 (0, 0))) := blk_new _ _
  by_cases h0 : C.length = 0
  · have e0 : ((C.length : Int) == 0) = true := by rw [beq_iff_eq]; omega
    have HF : Hid (crL C = none) := by show _ = _; unfold crL; rw [if_pos h0]
    clear h0
    go_enter Tryz.func26, Tryz.ntmps26
    go_wp2
    refine bodyPost_ret (v := .agg #[.slice none 0 0, .int .i64 6]) ?_ rfl ⟨none, 0, 0, ?_, ?_, fun L h => ?_⟩
    · simp [results, Tryz.results26, go_sem]
    · rw [sc_bad HF.out]; rfl
    · exact (Below.refl _ _).alloc (Nat.le_refl _) _
    · rw [HF.out] at h; cases h
  have e0 : ((C.length : Int) == 0) = false := by rw [beq_eq_false_iff_ne]; omega
  by_cases h8 : 8 < C.length
  · have e8 : (8 : Int) < (C.length : Int) := by omega
    have HF : Hid (crL C = none) := by show _ = _; unfold crL; rw [if_neg h0, if_pos h8]
    clear h0 h8
    go_enter Tryz.func26, Tryz.ntmps26
    go_wp2
    refine bodyPost_ret (v := .agg #[.slice none 0 0, .int .i64 6]) ?_ rfl ⟨none, 0, 0, ?_, ?_, fun L h => ?_⟩
    · simp [results, Tryz.results26, go_sem]
    · rw [sc_bad HF.out]; rfl
    · exact (Below.refl _ _).alloc (Nat.le_refl _) _
    · rw [HF.out] at h; cases h
  have e8 : ¬ (8 : Int) < (C.length : Int) := by omega
  have d8 : decide (8 < C.length) = false := by simp; omega
  by_cases hev : C.length % 2 = 0
  · have hev' : (C.length : Int) % 2 = 0 := by omega
    have HPR : Hid (crL C = rdC C) := by show _ = _; unfold crL; rw [if_neg h0, if_neg h8, if_pos hev]
    have HEV : Hid (C.length % 2 = 0) := hev
    have HLG : Hid (C.length ≤ 8) := by show _ ≤ _; omega
    clear hev h8 h0
    go_enter Tryz.func26, Tryz.ntmps26
    go_wp2
    go_loopw [3, 4] (fun o i wr => ∃ (k : Nat) (acc : List Nat), 2 * k ≤ C.length ∧ i = .int .i64 ((2 * k : Nat) : Int) ∧ acc.length = k ∧ Hid (BO w wr o acc) ∧ Hid (rdC C = (rdC (C.drop (2 * k))).map (acc ++ ·)) ∧ Below w.heap.size w wr ∧ wr.heap[w.heap.size]? = some (.cells #[.slice none 0 0, .int .i64 0] 61 (0, 0))) (fun _ i _ => C.length - (intOf i).toNat)
    case atStart => exact ⟨0, [], by omega, rfl, rfl, World.ownsRow_nil _ _ _ _, by show _ = Option.map id _; rw [Option.map_id]; rfl, (Below.refl _ _).alloc (Nat.le_refl _) _, HBK0.out⟩
    case round =>
      obtain ⟨k, acc, hk, rfl, hacc, HO, HQ, hb, hblk⟩ := hrel
      have hbs := hb.size
      have hltb := ltAt hblk
      have HBK : Hid (wr.heap[w.heap.size]? = some (.cells #[.slice none 0 0, .int .i64 0] 61 (0, 0))) := hblk
      have d0 : wr.cell? ⟨w.heap.size, 0, none⟩ = some (.slice none 0 0) := by rw [cellAt hblk]; rfl
      have d1 : wr.cell? ⟨w.heap.size, 1, none⟩ = some (.int .i64 0) := by rw [cellAt hblk]; rfl
      have f0 := freeAt hblk 0
      have f1 := freeAt hblk 1
      have HB : Hid (Below w.heap.size w wr) := hb
      clear hb hblk
      by_cases hlt : 2 * k < C.length
      · have hlt1 : 2 * k + 1 < C.length := by have := HEV.out; omega
        have hi0' : (2 * (k : Int)) < ((bs C).size : Int) := by rw [hsz]; omega
        have hi1' : (2 * (k : Int)) + 1 < ((bs C).size : Int) := by rw [hsz]; omega
        have hleq : (2 * (k : Int)) + 2 ≤ (C.length : Int) := by omega
        have hk4 : k ≤ 4 := by have := HLG.out; omega
        obtain ⟨X, hX⟩ : ∃ X, X = C[2 * k].toNat := ⟨_, rfl⟩
        obtain ⟨Y, hY⟩ : ∃ Y, Y = C[2 * k + 1].toNat := ⟨_, rfl⟩
        have q0 : ∀ h, ((bs C)[2 * k]'h).toNat = X := fun h => by rw [bs_at, hX]
        have q1 : ∀ h, ((bs C)[2 * k + 1]'h).toNat = Y := fun h => by rw [bs_at, hY]
        have HD : Hid (rdC C = (if sgnB X && letB Y then (rdC (C.drop (2 * (k + 1)))).map (Y :: ·) else none).map (acc ++ ·)) := by
          show _ = _; rw [HQ.out, List.drop_eq_getElem_cons hlt, List.drop_eq_getElem_cons hlt1, rdC, hX, hY]; rfl
        clear HQ hX hY
        cases hs : sgnB X with
        | false =>
          have HF : Hid (crL C = none) := by show _ = _; rw [HPR.out, HD.out, hs]; rfl
          have HS : Hid (sgnB X = false) := hs
          clear hs HD
          go_wp2_with fail
          refine (sc_isSign X _).mono ?_
          rintro e w1 ⟨rfl, rfl⟩
          rw [HS.out]
          go_wp2
          refine bodyPost_ret (v := .agg #[.slice none 0 0, .int .i64 6]) ?_ rfl ⟨none, 0, 0, ?_, ?_, fun L h => ?_⟩
          · simp [results, Tryz.results26, go_sem, d0, d1]
          · rw [sc_bad HF.out]; rfl
          · exact ((HB.out.setCell (by simp) _).setCell (by simp) _)
          · rw [HF.out] at h; cases h
        | true =>
          have HS : Hid (sgnB X = true) := hs
          cases ht : letB Y with
          | false =>
            have HF : Hid (crL C = none) := by show _ = _; rw [HPR.out, HD.out, hs, ht]; rfl
            have HT : Hid (letB Y = false) := ht
            clear hs ht HD
            go_wp2_with fail
            refine (sc_isSign X _).mono ?_
            rintro e w1 ⟨rfl, rfl⟩
            rw [HS.out]
            go_wp2_with fail
            refine (sc_isLetter Y _).mono ?_
            rintro e w1 ⟨rfl, rfl⟩
            rw [HT.out]
            go_wp2
            refine bodyPost_ret (v := .agg #[.slice none 0 0, .int .i64 6]) ?_ rfl ⟨none, 0, 0, ?_, ?_, fun L h => ?_⟩
            · simp [results, Tryz.results26, go_sem, d0, d1]
            · rw [sc_bad HF.out]; rfl
            · exact ((HB.out.setCell (by simp) _).setCell (by simp) _)
            · rw [HF.out] at h; cases h
          | true =>
            have HT : Hid (letB Y = true) := ht
            have HE : Hid (rdC C = (rdC (C.drop (2 * (k + 1)))).map ((acc ++ [Y]) ++ ·)) := by
              show _ = _; rw [HD.out, hs, ht]; cases rdC (C.drop (2 * (k + 1))) <;> simp
            have hown : wr.ownsRow w.heap.size 5 1 _ acc.length (acc.map fun (c : Nat) => .int .u8 (c : Int)) := HO.out
            clear hs ht HD HO
            go_wp2_with fail
            refine (sc_isSign X _).mono ?_
            rintro e w1 ⟨rfl, rfl⟩
            rw [HS.out]
            go_wp2_with fail
            refine (sc_isLetter Y _).mono ?_
            rintro e w1 ⟨rfl, rfl⟩
            rw [HT.out]
            go_wp2_with (at_builtin; refine wpList_append_own _ rfl _ _ 59 rfl w.heap.size 5 i0 (.int .u8 0) 1 1 Tryz.underlying59 hi0 hz0 hz1 hz2 rfl (by decide) _ _ _ rfl (hown.alloc _) ⟨w1.heap.size, 0, none⟩ 1 1 [.int .u8 Y] rfl rfl ?c1 ?c2 ?c3 ?c4 ?c5 ?_)
            case c1 => exact cell_one_new _ _ _
            case c2 => intro u hu; simp at hu; subst hu; rfl
            case c3 => unfold maxLen; omega
            case c4 => omega
            case c5 => simp; omega
            intro v' w2 hown' hgrow _
            have HB2 : Hid (Below w.heap.size w w2) := (HB.out.alloc (by omega) _).grown hgrow (by simp; omega) (fun j hj => (hown.lt j hj).1)
            have HBK2 : Hid (w2.heap[w.heap.size]? = some (.cells #[.slice none 0 0, .int .i64 0] 61 (0, 0))) := (hgrow.block _ (by simp; omega) (own_blk_ne hown HBK.out (by decide))).trans (blk_old HBK.out _)
            have HO2 : Hid (BO w w2 v' (acc ++ [Y])) := by
              show World.ownsRow _ _ _ _ _ _ _
              simpa [hacc] using hown'
            clear hown' hgrow hown
            go_wp2
            go_roundw
            case rel => exact ⟨k + 1, acc ++ [Y], by omega, by go_num, by simp; omega, HO2, HE, HB2.out, HBK2.out⟩
            case measure => simp [intOf]; omega
      · have hkl : 2 * k = C.length := by omega
        have hleq : ¬ (2 * (k : Int)) + 2 ≤ (C.length : Int) := by omega
        have HF : Hid (crL C = some acc) := by show _ = _; rw [HPR.out, HQ.out, hkl, List.drop_of_length_le (Nat.le_refl _)]; simp [rdC]
        obtain ⟨_, ax, cx, hux, _⟩ := HO.out.bv (by have := HLG.out; omega)
        subst hux
        clear hkl HQ
        go_wp2
        refine bodyPost_ret (v := .agg #[.slice ax acc.length cx, .int .i64 0]) ?_ rfl ⟨ax, acc.length, cx, ?_, ?_, fun L h => ?_⟩
        · simp [results, Tryz.results26, go_sem, d0, d1, hacc]
        · unfold crE; rw [HF.out]; rfl
        · exact ((HB.out.setCell (by simp) _).setCell (by simp) _)
        · rw [HF.out] at h
          injection h with h
          subst h
          exact BO.bv (own_setT (own_setT HO.out HBK.out (by decide) 0 _) (setAt HBK.out 0 _) (by decide) 1 _) (by have := HLG.out; omega)
  · have hev' : ¬ (C.length : Int) % 2 = 0 := by omega
    have HF : Hid (crL C = none) := by show _ = _; unfold crL; rw [if_neg h0, if_neg h8, if_neg hev]
    clear h0 h8 hev
    go_enter Tryz.func26, Tryz.ntmps26
    go_wp2
    all_goals
      refine bodyPost_ret (v := .agg #[.slice none 0 0, .int .i64 6]) ?_ rfl ⟨none, 0, 0, ?_, ?_, fun L h => ?_⟩
      · simp [results, Tryz.results26, go_sem]
      · rw [sc_bad HF.out]; rfl
      · exact (Below.refl _ _).alloc (Nat.le_refl _) _
      · rw [HF.out] at h; cases h

end Go.Proofs.YtdfnnpakdbhhpaaGreatDoor

namespace Go.Proofs.YtdfnnpakdbhhpaaGreatDoor
open Go.RowKit

/-- The same versions of a name, from v on. -/
def svF (now L : List Pk) (a : Nat) : Nat → Nat → Bool
  | 0, _ => true
  | f + 1, v => (amB now a v == amB L a v) && svF now L a f (v + 1)
def svB (now L : List Pk) (a : Nat) : Bool := svF now L a 9 49
/-- What a letter says of a name. -/
def cnt1 (ps now L : List Pk) (c b : Nat) : Bool :=
  if c = 114 then hnB now b && !hnB L b
  else if c = 110 then hnB L b && !hnB now b
  else if c = 99 then !svB now L b
  else if c = 117 then hnB L b && !amB L b (gtT ps b)
  else false
def scN (ps now L : List Pk) (c : Nat) : Nat → Nat
  | 0 => 0
  | a + 1 => scN ps now L c a + (if cnt1 ps now L c (97 + a) then 1 else 0)
theorem scN_le (ps now L : List Pk) (c : Nat) : ∀ a, scN ps now L c a ≤ a
  | 0 => Nat.le_refl _
  | a + 1 => by
    have := scN_le ps now L c a
    rw [scN]
    split <;> omega

set_option maxHeartbeats 1600000 in
set_option maxRecDepth 100000 in
theorem sc_sameVersions (an : Option Addr) (cn : Nat) (now : List Pk) (aq : Option Addr) (cq : Nat) (L : List Pk) (a : Nat) (w : World) (hn : PV w an now) (hq : PV w aq L) :
    Calls Tryz.prog 110 #[.slice an now.length cn, .slice aq L.length cq, .int .u8 a] w fun e w' => e = .returned (.bool (svB now L a)) ∧ Below w.heap.size w w' := by
  have hln := hn.1
  have hlq := hq.1
  have HN : Hid (∀ w', Below w.heap.size w w' → ∀ j (h : j < now.length), PkRw w' an j now[j]) := fun w' hb => (hn.below hb).rows
  have HQ : Hid (∀ w', Below w.heap.size w w' → ∀ j (h : j < L.length), PkRw w' aq j L[j]) := fun w' hb => (hq.below hb).rows
  clear hn hq
  go_enter Tryz.func110, Tryz.ntmps110
  go_wp2
  go_loopw [7] (fun i wr => ∃ B : Nat, 49 ≤ B ∧ B ≤ 58 ∧ i = .int .u8 (B : Int) ∧ Hid (svB now L a = svF now L a (58 - B) B) ∧ Below w.heap.size w wr) (fun i _ => 60 - (intOf i).toNat)
  case atStart => exact ⟨49, by omega, by omega, rfl, by show _ = _; rfl, Below.refl _ _⟩
  case round =>
    obtain ⟨B, h49, h58, rfl, HP, hb⟩ := hrel
    have hbs := hb.size
    have HB : Hid (Below w.heap.size w wr) := hb
    clear hb
    by_cases hlt : B < 58
    · have hle : (B : Int) ≤ 57 := by omega
      have HD : Hid (svB now L a = ((amB now a B == amB L a B) && svF now L a (58 - (B + 1)) (B + 1))) := by
        show _ = _; rw [HP.out, show 58 - B = (58 - (B + 1)) + 1 by omega, svF]
      clear HP
      obtain ⟨x, hx⟩ : ∃ x, amB now a B = x := ⟨_, rfl⟩
      obtain ⟨y, hy⟩ : ∃ y, amB L a B = y := ⟨_, rfl⟩
      rw [hx, hy] at HD
      have HX : Hid (amB now a B = x) := hx
      have HY : Hid (amB L a B = y) := hy
      clear hx hy
      go_wp2_with fail
      refine (doc_Has an now.length cn now a B _ hln rfl (HN.out _ HB.out)).mono ?_
      rintro e w1 ⟨rfl, hb1⟩
      rw [HX.out]
      have HB1 : Hid (Below w.heap.size w w1) := HB.out.trans (hb1.mono hbs)
      clear hb1
      go_wp2_with fail
      refine (doc_Has aq L.length cq L a B _ hlq rfl (HQ.out _ HB1.out)).mono ?_
      rintro e w2 ⟨rfl, hb2⟩
      rw [HY.out]
      have HB2 : Hid (Below w.heap.size w w2) := HB1.out.trans (hb2.mono HB1.out.size)
      clear hb2
      cases x with
      | false =>
        cases y with
        | false =>
          have HF : Hid (svB now L a = svF now L a (58 - (B + 1)) (B + 1)) := by show _ = _; rw [HD.out]; rfl
          clear HD
          go_wp2
          go_roundw
          case rel => exact ⟨B + 1, by omega, by omega, by go_num, HF, HB2.out⟩
          case measure => simp [intOf]; omega
        | true =>
          have HF : Hid (svB now L a = false) := by show _ = _; rw [HD.out]; rfl
          clear HD
          go_wp2
          go_ret
          exact ⟨ret_bool HF.out.symm, HB2.out⟩
      | true =>
        cases y with
        | false =>
          have HF : Hid (svB now L a = false) := by show _ = _; rw [HD.out]; rfl
          clear HD
          go_wp2
          go_ret
          exact ⟨ret_bool HF.out.symm, HB2.out⟩
        | true =>
          have HF : Hid (svB now L a = svF now L a (58 - (B + 1)) (B + 1)) := by show _ = _; rw [HD.out]; rfl
          clear HD
          go_wp2
          go_roundw
          case rel => exact ⟨B + 1, by omega, by omega, by go_num, HF, HB2.out⟩
          case measure => simp [intOf]; omega
    · have hle : ¬ (B : Int) ≤ 57 := by omega
      have HF : Hid (svB now L a = true) := by show _ = _; rw [HP.out, show 58 - B = 0 by omega]; rfl
      go_wp2
      go_ret
      exact ⟨ret_bool HF.out.symm, HB.out⟩

set_option maxHeartbeats 1600000 in
set_option maxRecDepth 100000 in
theorem sc_counts (c b : Nat) (ao : Option Addr) (cap : Nat) (ps : List Pk) (an : Option Addr) (cn : Nat) (now : List Pk) (aq : Option Addr) (cq : Nat) (L : List Pk) (w : World) (hp : PV w ao ps) (hn : PV w an now) (hq : PV w aq L) :
    Calls Tryz.prog 91 #[.int .u8 c, .int .u8 b, .slice ao ps.length cap, .slice an now.length cn, .slice aq L.length cq] w fun e w' => e = .returned (.bool (cnt1 ps now L c b)) ∧ Below w.heap.size w w' := by
  have hlq := hq.1
  have HPS : Hid (∀ w', Below w.heap.size w w' → PV w' ao ps) := fun w' hb => hp.below hb
  have HN : Hid (∀ w', Below w.heap.size w w' → PV w' an now) := fun w' hb => hn.below hb
  have HQ : Hid (∀ w', Below w.heap.size w w' → PV w' aq L) := fun w' hb => hq.below hb
  clear hp hn hq
  obtain ⟨x, HX⟩ : ∃ x, Hid (hnB now b = x) := ⟨_, rfl⟩
  obtain ⟨y, HY⟩ : ∃ y, Hid (hnB L b = y) := ⟨_, rfl⟩
  go_enter Tryz.func91, Tryz.ntmps91
  go_wp2_with fail
  refine (doc_HasName an cn now b _ (HN.out _ (Below.refl _ _))).mono ?_
  rintro e w1 ⟨rfl, hb1⟩
  rw [HX.out]
  have HB1 : Hid (Below w.heap.size w w1) := hb1
  clear hb1
  go_wp2_with fail
  refine (doc_HasName aq cq L b _ (HQ.out _ HB1.out)).mono ?_
  rintro e w2 ⟨rfl, hb2⟩
  rw [HY.out]
  have HB2 : Hid (Below w.heap.size w w2) := HB1.out.trans (hb2.mono HB1.out.size)
  clear hb2
  by_cases h1 : c = 114
  · have e1 : ((c : Int) == 114) = true := by rw [beq_iff_eq]; omega
    have HF : Hid (cnt1 ps now L c b = (x && !y)) := by show _ = _; unfold cnt1; rw [if_pos h1, HX.out, HY.out]
    clear h1
    cases x <;> cases y <;> (go_wp2; go_ret; exact ⟨ret_bool HF.out.symm, HB2.out⟩)
  have e1 : ((c : Int) == 114) = false := by rw [beq_eq_false_iff_ne]; omega
  by_cases h2 : c = 110
  · have e2 : ((c : Int) == 110) = true := by rw [beq_iff_eq]; omega
    have HF : Hid (cnt1 ps now L c b = (y && !x)) := by show _ = _; unfold cnt1; rw [if_neg h1, if_pos h2, HX.out, HY.out]
    clear h1 h2
    cases x <;> cases y <;> (go_wp2; go_ret; exact ⟨ret_bool HF.out.symm, HB2.out⟩)
  have e2 : ((c : Int) == 110) = false := by rw [beq_eq_false_iff_ne]; omega
  by_cases h3 : c = 99
  · have e3 : ((c : Int) == 99) = true := by rw [beq_iff_eq]; omega
    have HF : Hid (cnt1 ps now L c b = !svB now L b) := by show _ = _; unfold cnt1; rw [if_neg h1, if_neg h2, if_pos h3]
    clear h1 h2 h3
    go_wp2_with fail
    refine (sc_sameVersions an cn now aq cq L b _ (HN.out _ HB2.out) (HQ.out _ HB2.out)).mono ?_
    rintro e w3 ⟨rfl, hb3⟩
    have HB3 : Hid (Below w.heap.size w w3) := HB2.out.trans (hb3.mono HB2.out.size)
    clear hb3
    go_wp2
    go_ret
    exact ⟨ret_bool HF.out.symm, HB3.out⟩
  have e3 : ((c : Int) == 99) = false := by rw [beq_eq_false_iff_ne]; omega
  by_cases h4 : c = 117
  · have e4 : ((c : Int) == 117) = true := by rw [beq_iff_eq]; omega
    have HF : Hid (cnt1 ps now L c b = (y && !amB L b (gtT ps b))) := by show _ = _; unfold cnt1; rw [if_neg h1, if_neg h2, if_neg h3, if_pos h4, HY.out]
    clear h1 h2 h3 h4
    go_wp2_with fail
    refine (doc_Greatest ao cap ps b _ (HPS.out _ HB2.out)).mono ?_
    rintro e w3 ⟨rfl, hb3⟩
    have HB3 : Hid (Below w.heap.size w w3) := HB2.out.trans (hb3.mono HB2.out.size)
    clear hb3
    generalize gtT ps b = G at *
    cases y with
    | false =>
      go_wp2
      go_ret
      exact ⟨ret_bool HF.out.symm, HB3.out⟩
    | true =>
      go_wp2_with fail
      refine (doc_Has aq L.length cq L b G _ hlq rfl (HQ.out _ HB3.out).rows).mono ?_
      rintro e w4 ⟨rfl, hb4⟩
      have HB4 : Hid (Below w.heap.size w w4) := HB3.out.trans (hb4.mono HB3.out.size)
      clear hb4
      go_wp2
      go_ret
      exact ⟨ret_bool (by rw [HF.out, Bool.true_and]), HB4.out⟩
  have e4 : ((c : Int) == 117) = false := by rw [beq_eq_false_iff_ne]; omega
  have HF : Hid (cnt1 ps now L c b = false) := by show _ = _; unfold cnt1; rw [if_neg h1, if_neg h2, if_neg h3, if_neg h4]
  clear h1 h2 h3 h4
  go_wp2
  go_ret
  exact ⟨ret_bool HF.out.symm, HB2.out⟩

set_option maxHeartbeats 1600000 in
set_option maxRecDepth 100000 in
theorem sc_count (c : Nat) (ao : Option Addr) (cap : Nat) (ps : List Pk) (aq : Option Addr) (cq : Nat) (L : List Pk) (w : World) (hp : PV w ao ps) (hq : PV w aq L) :
    Calls Tryz.prog 55 #[.int .u8 c, .slice ao ps.length cap, .slice aq L.length cq] w fun e w' => e = .returned (.int .i64 (scN ps (nowL ps) L c 26 : Nat)) ∧ Below w.heap.size w w' := by
  have HPS : Hid (∀ w', Below w.heap.size w w' → PV w' ao ps) := fun w' hb => hp.below hb
  have HQ : Hid (∀ w', Below w.heap.size w w' → PV w' aq L) := fun w' hb => hq.below hb
  clear hp hq
  go_enter Tryz.func55, Tryz.ntmps55
  go_wp2_with fail
  refine (doc_Now ao cap ps _ (HPS.out _ (Below.refl _ _))).mono ?_
  rintro e w1 ⟨an, cn, rfl, hb1, hpn⟩
  have HB1 : Hid (Below w.heap.size w w1) := hb1
  have hw1 := hb1.size
  have HNW : Hid (∀ w', Below w1.heap.size w1 w' → PV w' an (nowL ps)) := fun w' hb => hpn.below hb
  clear hb1 hpn
  generalize hNE : nowL ps = NW at *
  have HNE : Hid (nowL ps = NW) := hNE
  clear hNE
  go_wp2
  go_loopw [8, 9] (fun n v wr => ∃ a B : Nat, a ≤ 26 ∧ B = 97 + a ∧ v = .int .u8 (B : Int) ∧ n = .int .i64 (scN ps NW L c a : Nat) ∧ Below w1.heap.size w1 wr) (fun _ v _ => 130 - (intOf v).toNat)
  case atStart => exact ⟨0, 97, by omega, rfl, rfl, rfl, Below.refl _ _⟩
  case round =>
    obtain ⟨a, B, ha, hB, rfl, rfl, hb⟩ := hrel
    have HB : Hid (Below w1.heap.size w1 wr) := hb
    have HBE : Hid (B = 97 + a) := hB
    have hB9 : 97 ≤ B := by omega
    have hB3 : B ≤ 123 := by omega
    have hbs := hb.size
    have hnl := scN_le ps NW L c a
    have HBW : Hid (Below w.heap.size w wr) := HB1.out.trans (hb.mono hw1)
    clear hb
    by_cases ha9 : a < 26
    · have HN : Hid (scN ps NW L c (a + 1) = scN ps NW L c a + (if cnt1 ps NW L c B then 1 else 0)) := by show _ = _; rw [hB]; rfl
      have hle : (B : Int) ≤ 122 := by omega
      clear hB
      generalize scN ps NW L c a = M at *
      go_wp2_with fail
      refine (sc_counts c B ao cap ps an cn NW aq cq L _ (HPS.out _ HBW.out) (HNW.out _ HB.out) (HQ.out _ HBW.out)).mono ?_
      rintro e w2 ⟨rfl, hb2⟩
      have HB2 : Hid (Below w1.heap.size w1 w2) := HB.out.trans (hb2.mono hbs)
      clear hb2
      generalize cnt1 ps NW L c B = K at *
      cases K with
      | false =>
        have HE : Hid (scN ps NW L c (a + 1) = M) := HN.out
        clear HN
        go_wp2
        go_roundw
        case rel => first | exact ⟨a + 1, B + 1, by omega, by have := HBE.out; omega, by go_num, by rw [HE.out], HB2.out⟩ | ((repeat apply Exists.intro); exact ⟨⟨a + 1, B + 1, by omega, by have := HBE.out; omega, by go_num, by rw [HE.out], HB2.out⟩, rfl⟩)
        case measure => simp [intOf]; omega
      | true =>
        have HE : Hid (scN ps NW L c (a + 1) = M + 1) := HN.out
        clear HN
        go_wp2
        go_roundw
        case rel => first | exact ⟨a + 1, B + 1, by omega, by have := HBE.out; omega, by go_num, by rw [HE.out]; go_num, HB2.out⟩ | ((repeat apply Exists.intro); exact ⟨⟨a + 1, B + 1, by omega, by have := HBE.out; omega, by go_num, by rw [HE.out]; go_num, HB2.out⟩, rfl⟩)
        case measure => simp [intOf]; omega
    · have ha' : a = 26 := by omega
      have hle : ¬ (B : Int) ≤ 122 := by omega
      have HF : Hid (scN ps (nowL ps) L c 26 = scN ps NW L c a) := by show _ = _; rw [HNE.out, ha']
      clear ha' hB
      generalize scN ps NW L c a = M at *
      go_wp2
      go_ret
      exact ⟨ret_int (by rw [HF.out]), HBW.out⟩

end Go.Proofs.YtdfnnpakdbhhpaaGreatDoor

namespace Go.Proofs.YtdfnnpakdbhhpaaGreatDoor
open Go.RowKit

/-- The numbers for the letters. -/
def txA (ps L : List Pk) (ls : List Nat) : Nat → List UInt8
  | 0 => []
  | m + 1 => (if 0 < m then txA ps L ls m ++ [44] else txA ps L ls m) ++ digT (scN ps (nowL ps) L (ls.getD m 0) 26)
theorem txA_len (ps L : List Pk) (ls : List Nat) : ∀ m, (txA ps L ls m).length ≤ 3 * m
  | 0 => by simp [txA]
  | m + 1 => by
    have h1 := txA_len ps L ls m
    have h2 := digT_len (scN ps (nowL ps) L (ls.getD m 0) 26)
    rw [txA, List.length_append]
    split
    · rw [List.length_append, List.length_singleton]; omega
    · omega

set_option maxHeartbeats 3200000 in
set_option maxRecDepth 100000 in
theorem sc_Text (v : Value) (ls : List Nat) (ao : Option Addr) (cap : Nat) (ps : List Pk) (aq : Option Addr) (cq : Nat) (L : List Pk) (w : World) (hv : BV w v ls) (hl4 : ls.length ≤ 4) (hp : PV w ao ps) (hq : PV w aq L) :
    Calls Tryz.prog 27 #[v, .slice ao ps.length cap, .slice aq L.length cq] w fun e w' => e = .returned (.string (bs (txA ps L ls ls.length))) ∧ Below w.heap.size w w' := by
  obtain ⟨_, al, cl, rfl, hrow⟩ := hv
  have HR : Hid _ := hrow
  have HPS : Hid (∀ w', Below w.heap.size w w' → PV w' ao ps) := fun w' hb => hp.below hb
  have HQ : Hid (∀ w', Below w.heap.size w w' → PV w' aq L) := fun w' hb => hq.below hb
  clear hrow hp hq
  go_enter Tryz.func27, Tryz.ntmps27
  go_wp2
  go_loopw [7, 13] (fun t i wr => ∃ m : Nat, m ≤ ls.length ∧ i = .int .i64 m ∧ t = .string (bs (txA ps L ls m)) ∧ Below w.heap.size w wr) (fun _ i _ => ls.length - (intOf i).toNat)
  case atStart => exact ⟨0, by omega, rfl, rfl, Below.refl _ _⟩
  case round =>
    obtain ⟨m, hm, rfl, rfl, hb⟩ := hrel
    have hbs := hb.size
    have HB : Hid (Below w.heap.size w wr) := hb
    by_cases hlt : m < ls.length
    · obtain ⟨g, off, rfl, hg, x0⟩ := HR.out m hlt
      rw [← hb.cell (p := ⟨g, _, none⟩) hg] at x0
      have HN : Hid (txA ps L ls (m + 1) = (if 0 < m then txA ps L ls m ++ [44] else txA ps L ls m) ++ digT (scN ps (nowL ps) L ls[m] 26)) := by
        show _ = _; rw [txA, List.getD_eq_getElem?_getD, List.getElem?_eq_getElem hlt]; rfl
      have hTl : (bs (txA ps L ls m)).size ≤ 30 := by rw [bs_size]; have := txA_len ps L ls m; omega
      clear hb
      generalize txA ps L ls m = T at *
      generalize ls[m] = K at *
      have hD2 := digT_len (scN ps (nowL ps) L K 26)
      have hNl := scN_le ps (nowL ps) L K 26
      by_cases hm0 : m = 0
      · have HE : Hid (txA ps L ls (m + 1) = T ++ digT (scN ps (nowL ps) L K 26)) := by show _ = _; rw [HN.out, if_neg (by omega)]
        have hmz : ¬ (0 : Int) < (m : Int) := by omega
        clear HN hm0
        go_wp2_with fail
        refine (sc_count K ao cap ps aq cq L _ (HPS.out _ HB.out) (HQ.out _ HB.out)).mono ?_
        rintro e w1 ⟨rfl, hb1⟩
        have HB1 : Hid (Below w.heap.size w w1) := HB.out.trans (hb1.mono hbs)
        clear hb1
        generalize scN ps (nowL ps) L K 26 = M at *
        go_wp2_with fail
        refine (std_Itoa M _ hNl).mono ?_
        rintro e w2 ⟨rfl, rfl⟩
        have hD3 : (bs (digT M)).size ≤ 2 := by rw [bs_size]; exact hD2
        go_wp2
        go_roundw
        case rel => first | exact ⟨m + 1, by omega, by go_num, by rw [HE.out]; rw [bs_app], HB1.out⟩ | ((repeat apply Exists.intro); exact ⟨⟨m + 1, by omega, by go_num, by rw [HE.out]; rw [bs_app], HB1.out⟩, rfl⟩)
        case measure => simp [intOf]; omega
      · have HE : Hid (txA ps L ls (m + 1) = T ++ [44] ++ digT (scN ps (nowL ps) L K 26)) := by show _ = _; rw [HN.out, if_pos (by omega)]
        have hmz : (0 : Int) < (m : Int) := by omega
        clear HN hm0
        go_wp2_with fail
        refine (sc_count K ao cap ps aq cq L _ (HPS.out _ HB.out) (HQ.out _ HB.out)).mono ?_
        rintro e w1 ⟨rfl, hb1⟩
        have HB1 : Hid (Below w.heap.size w w1) := HB.out.trans (hb1.mono hbs)
        clear hb1
        generalize scN ps (nowL ps) L K 26 = M at *
        go_wp2_with fail
        refine (std_Itoa M _ hNl).mono ?_
        rintro e w2 ⟨rfl, rfl⟩
        have hD3 : (bs (digT M)).size ≤ 2 := by rw [bs_size]; exact hD2
        go_wp2
        go_roundw
        case rel => first | exact ⟨m + 1, by omega, by go_num, by rw [HE.out]; rw [← bs_app, ← bs_app]; rfl, HB1.out⟩ | ((repeat apply Exists.intro); exact ⟨⟨m + 1, by omega, by go_num, by rw [HE.out]; rw [← bs_app, ← bs_app]; rfl, HB1.out⟩, rfl⟩)
        case measure => simp [intOf]; omega
    · have hml : m = ls.length := by omega
      subst hml
      clear hb
      obtain ⟨T, HT⟩ : ∃ T, Hid (txA ps L ls ls.length = T) := ⟨_, rfl⟩
      rw [HT.out]
      go_wp2
      go_ret
      exact ⟨ret_str (by rw [HT.out]), HB.out⟩

def usE (t C P : List UInt8) : Nat := if rdE t = 0 then (match crL C with | some _ => prE (dcV t).packs P | none => 6) else rdE t
def usT (t C P : List UInt8) : List UInt8 := if rdE t = 0 then (match crL C, prL (dcV t).packs P with | some ls, some L => txA (dcV t).packs L ls ls.length | _, _ => []) else []
theorem rdC_len : ∀ (n : Nat) (C : List UInt8) (ls : List Nat), C.length ≤ n → rdC C = some ls → ls.length = C.length / 2
  | _, [], ls, _, h => by simp [rdC] at h; subst h; simp
  | _, [c], ls, _, h => by simp [rdC] at h; subst h; simp
  | 0, c :: d :: r, ls, hn, _ => by simp at hn
  | n + 1, c :: d :: r, ls, hn, h => by
    rw [rdC] at h
    split at h
    · cases hr : rdC r with
      | none => rw [hr] at h; simp at h
      | some M =>
        rw [hr] at h
        simp at h
        subst h
        have := rdC_len n r M (by simp at hn; omega) hr
        simp only [List.length_cons]
        omega
    · cases h
theorem crL_len {C : List UInt8} {ls : List Nat} (h : crL C = some ls) : ls.length = C.length / 2 ∧ C.length ≤ 8 := by
  unfold crL at h
  split at h
  · cases h
  · split at h
    · cases h
    · split at h
      · exact ⟨rdC_len C.length C ls (Nat.le_refl _) h, by omega⟩
      · cases h

set_option maxHeartbeats 3200000 in
set_option maxRecDepth 100000 in
theorem up_Score (s : ByteArray) (C P : List UInt8) (w : World) (hs : s.size ≤ maxLen) (hCm : (C.length : Int) ≤ maxLen) (hPm : (P.length : Int) ≤ maxLen) : Calls Tryz.prog 13 #[.string s, .string (bs C), .string (bs P)] w fun e w' => e = .returned (.tuple #[.string (bs (usT s.data.toList C P)), .int .i64 (usE s.data.toList C P : Nat)]) ∧ Below w.heap.size w w' := by
  by_cases h : rdE s.data.toList = 0
  · obtain ⟨r1, r2, r3, _⟩ := rd_ok h
    have HSM : Hid (DcSm (dcV s.data.toList)) := dc_small r2 (by rw [← r1]; exact r3)
    have HTE : Hid (usE s.data.toList C P = match crL C with | some _ => prE (dcV s.data.toList).packs P | none => 6) := by show _ = _; unfold usE; rw [if_pos h]
    have HTR : Hid (usT s.data.toList C P = match crL C, prL (dcV s.data.toList).packs P with | some ls, some L => txA (dcV s.data.toList).packs L ls ls.length | _, _ => []) := by show _ = _; unfold usT; rw [if_pos h]
    have HE : Hid (rdE s.data.toList = 0) := h
    clear r1 r2 r3 h
    go_enter Tryz.func13, Tryz.ntmps13
    go_wp2_with fail
    refine (doc_Read s _ hs).mono ?_
    rintro e w1 ⟨ap, np, cp, ai, ni, ci, ar, nr, cr, au, nu, cu, rfl, hb, hd⟩
    have HD : Hid (∀ w', Below w1.heap.size w1 w' → DcV w' (dcV s.data.toList) ap np cp ai ni ci ar nr cr au nu cu) := fun w' hb => ((hd HE.out).views HSM.out).below hb
    have hnp := ((hd HE.out).views HSM.out).len
    have HB : Hid (Below w.heap.size w w1) := hb
    have hws := hb.size
    have hz : ((rdE s.data.toList : Int) != 0) = false := by rw [HE.out]; rfl
    clear hd hb
    generalize dcV s.data.toList = D at *
    subst hnp
    have HBA : Hid (Below w1.heap.size w1 (w1.alloc (.cells #[.slice ap D.packs.length cp, .slice ai ni ci, .slice ar nr cr, .slice au nu cu, .int .i64 (rdE s.data.toList), .int .i64 (rdP s.data.toList)] 52))) := (Below.refl _ _).alloc (Nat.le_refl _) _
    have HKA : Hid ((w1.alloc (.cells #[.slice ap D.packs.length cp, .slice ai ni ci, .slice ar nr cr, .slice au nu cu, .int .i64 (rdE s.data.toList), .int .i64 (rdP s.data.toList)] 52)).heap[w1.heap.size]? = some (.cells #[.slice ap D.packs.length cp, .slice ai ni ci, .slice ar nr cr, .slice au nu cu, .int .i64 (rdE s.data.toList), .int .i64 (rdP s.data.toList)] 52 (0, 0))) := blk_new _ _
    go_wp2_with fail
    refine (sc_Read C _ hCm).mono ?_
    rintro e w2 ⟨al, nl, cl, rfl, hb2, hq2⟩
    have HK2 : Hid (w2.heap[w1.heap.size]? = some (.cells #[.slice ap D.packs.length cp, .slice ai ni ci, .slice ar nr cr, .slice au nu cu, .int .i64 (rdE s.data.toList), .int .i64 (rdP s.data.toList)] 52 (0, 0))) := blk_below hb2 HKA.out (by simp)
    have HB2 : Hid (Below w1.heap.size w1 w2) := HBA.out.trans (hb2.mono (by simp))
    have y0 : w2.cell? ⟨w1.heap.size, 0, none⟩ = some (.slice ap D.packs.length cp) := (cellAt HK2.out 0).trans rfl
    have hl2 := ltAt HK2.out
    have HQ2 : Hid _ := hq2
    clear hb2 hq2 HKA HBA
    rcases hcr : crL C with _ | ls
    · have hce : crE C = 6 := sc_bad hcr
      have HF : Hid (usT s.data.toList C P = []) := by show _ = _; rw [HTR.out, hcr]
      have HF2 : Hid (usE s.data.toList C P = 6) := by show _ = _; rw [HTE.out, hcr]
      rw [hce]
      clear hcr hce HQ2
      go_wp2_with fail
      go_quiet (fail)
      go_wp2
      go_ret2
      exact ⟨by rw [HF.out, HF2.out]; rfl, ((HB.out.trans (HB2.out.mono hws)).alloc (by omega) _).trans ⟨rfl, rfl, rfl, Nat.le_refl _, fun _ _ => rfl⟩⟩
    · have hce : crE C = 0 := by unfold crE; rw [hcr]; rfl
      obtain ⟨hll, hC8⟩ := crL_len hcr
      have hls : ls.length ≤ 4 := by omega
      have HBV : Hid (BV w2 (.slice al nl cl) ls) := HQ2.out ls hcr
      have HTE2 : Hid (usE s.data.toList C P = prE D.packs P) := by show _ = _; rw [HTE.out, hcr]
      have HTR2 : Hid (usT s.data.toList C P = match prL D.packs P with | some L => txA D.packs L ls ls.length | none => []) := by show _ = _; rw [HTR.out, hcr]; cases prL D.packs P <;> rfl
      rw [hce]
      clear hcr hce HQ2 hll HTE HTR
      obtain ⟨W, hW⟩ : ∃ W, W = w2.alloc (.cells #[.slice al nl cl, .int .i64 0] 61) := ⟨_, rfl⟩
      have HB3 : Hid (Below w2.heap.size w2 W) := by show Below _ _ _; rw [hW]; exact (Below.refl _ _).alloc (Nat.le_refl _) _
      have HB13 : Hid (Below w1.heap.size w1 W) := HB2.out.trans (HB3.out.mono HB2.out.size)
      have HKL : Hid (W.heap[w2.heap.size]? = some (.cells #[.slice al nl cl, .int .i64 0] 61 (0, 0))) := by show _ = _; rw [hW]; exact blk_new _ _
      have HKD : Hid (W.heap[w1.heap.size]? = some (.cells #[.slice ap D.packs.length cp, .slice ai ni ci, .slice ar nr cr, .slice au nu cu, .int .i64 (rdE s.data.toList), .int .i64 (rdP s.data.toList)] 52 (0, 0))) := blk_below HB3.out HK2.out hl2
      go_wp2_with fail
      rw [← hW]
      clear hW
      refine (pk_Read ap cp D.packs P _ hPm (HD.out _ HB13.out).packs).mono ?_
      rintro e w3 ⟨aq, nq, cq, rfl, hb3, hq3⟩
      have HB34 : Hid (Below W.heap.size W w3) := hb3
      have hWs := hb3.size
      have HB15 : Hid (Below w1.heap.size w1 w3) := HB13.out.trans (hb3.mono HB13.out.size)
      have HKL3 : Hid (w3.heap[w2.heap.size]? = some (.cells #[.slice al nl cl, .int .i64 0] 61 (0, 0))) := blk_below hb3 HKL.out (ltAt HKL.out)
      have HKD3 : Hid (w3.heap[w1.heap.size]? = some (.cells #[.slice ap D.packs.length cp, .slice ai ni ci, .slice ar nr cr, .slice au nu cu, .int .i64 (rdE s.data.toList), .int .i64 (rdP s.data.toList)] 52 (0, 0))) := blk_below hb3 HKD.out (ltAt HKD.out)
      have z0 : w3.cell? ⟨w2.heap.size, 0, none⟩ = some (.slice al nl cl) := (cellAt HKL3.out 0).trans rfl
      have z1 : w3.cell? ⟨w1.heap.size, 0, none⟩ = some (.slice ap D.packs.length cp) := (cellAt HKD3.out 0).trans rfl
      have hl3 := ltAt HKL3.out
      have hl4 := ltAt HKD3.out
      have HQ3 : Hid _ := hq3
      clear hb3 hq3 y0
      rcases hpr : prL D.packs P with _ | L
      · have hpe : prE D.packs P = 5 := by unfold prE; rw [hpr]; rfl
        have HF : Hid (usT s.data.toList C P = []) := by show _ = _; rw [HTR2.out, hpr]
        have HF2 : Hid (usE s.data.toList C P = 5) := by show _ = _; rw [HTE2.out, hpe]
        rw [hpe]
        clear hpr hpe HQ3
        go_wp2_with fail
        go_quiet (fail)
        go_wp2
        go_ret2
        exact ⟨by rw [HF.out, HF2.out]; rfl, ((HB.out.trans (HB15.out.mono hws)).alloc (by omega) _).trans ⟨rfl, rfl, rfl, Nat.le_refl _, fun _ _ => rfl⟩⟩
      · have hpe : prE D.packs P = 0 := by unfold prE; rw [hpr]; rfl
        have HF : Hid (usT s.data.toList C P = txA D.packs L ls ls.length) := by show _ = _; rw [HTR2.out, hpr]
        have HF2 : Hid (usE s.data.toList C P = 0) := by show _ = _; rw [HTE2.out, hpe]
        obtain ⟨hn, _, hpv⟩ := HQ3.out L hpr
        subst hn
        rw [hpe]
        have HPV : Hid (PV w3 aq L) := hpv
        clear hpr hpe HQ3 hpv
        have HB5 : Hid (Below w3.heap.size w3 (w3.alloc (.cells #[.slice aq L.length cq, .int .i64 0] 56))) := (Below.refl _ _).alloc (Nat.le_refl _) _
        have HB16 : Hid (Below w1.heap.size w1 (w3.alloc (.cells #[.slice aq L.length cq, .int .i64 0] 56))) := HB15.out.alloc HB15.out.size _
        have HBVf : Hid (BV (w3.alloc (.cells #[.slice aq L.length cq, .int .i64 0] 56)) (.slice al nl cl) ls) := ((HBV.out.below HB3.out).below HB34.out).below HB5.out
        go_wp2_with fail
        refine (sc_Text (.slice al nl cl) ls ap cp D.packs aq cq L _ HBVf.out hls (HD.out _ HB16.out).packs (HPV.out.below HB5.out)).mono ?_
        rintro e w4 ⟨rfl, hb4⟩
        have HB4 : Hid (Below w.heap.size w w4) := HB.out.trans ((HB16.out.trans (hb4.mono (by simp; omega))).mono hws)
        clear hb4
        go_wp2
        go_ret2
        exact ⟨by rw [HF.out, HF2.out]; rfl, HB4.out⟩
  · have HT : Hid (usT s.data.toList C P = []) := by show _ = _; unfold usT; rw [if_neg h]
    have HT2 : Hid (usE s.data.toList C P = rdE s.data.toList) := by show _ = _; unfold usE; rw [if_neg h]
    have hz : ((rdE s.data.toList : Int) != 0) = true := by rw [bne_iff_ne]; omega
    go_enter Tryz.func13, Tryz.ntmps13
    go_wp2_with fail
    refine (doc_Read s _ hs).mono ?_
    rintro e w1 ⟨ap, np, cp, ai, ni, ci, ar, nr, cr, au, nu, cu, rfl, hb, hd⟩
    have HB : Hid (Below w.heap.size w w1) := hb
    clear hd hb
    go_wp2_with fail
    go_quiet (fail)
    go_wp2
    go_ret2
    exact ⟨by rw [HT.out, HT2.out]; rfl, (HB.out.alloc HB.out.size _).trans ⟨rfl, rfl, rfl, Nat.le_refl _, fun _ _ => rfl⟩⟩

end Go.Proofs.YtdfnnpakdbhhpaaGreatDoor

/-
  Score: what the program answers is what the document asks: plain mathematics.
-/
namespace Go.Proofs.YtdfnnpakdbhhpaaGreatDoor

theorem cr_ok (x y : Nat) : crOk x y = (sgnB x && letB y) := rfl
theorem crP_some : ∀ (n : Nat) (C : List UInt8), C.length ≤ n → crP C = (rdC C).isSome
  | _, [], _ => rfl
  | _, [c], _ => rfl
  | 0, c :: d :: r, h => by simp at h
  | n + 1, c :: d :: r, h => by
    rw [crP, rdC, cr_ok, crP_some n r (by simp at h; omega)]
    cases sgnB c.toNat && letB d.toNat <;> simp
theorem crit_same (C : List UInt8) : critB C = (crL C).isSome := by
  unfold critB crL
  rw [crP_some C.length C (Nat.le_refl _)]
  by_cases h0 : C.length = 0
  · rw [if_pos h0]; simp [h0]
  · rw [if_neg h0]
    by_cases h8 : 8 < C.length
    · rw [if_pos h8]
      have : decide (C.length ≤ 8) = false := by simp; omega
      simp [this]
    · rw [if_neg h8]
      have a1 : decide (C.length ≤ 8) = true := by simp; omega
      by_cases he : C.length % 2 = 0
      · rw [if_pos he]
        have a2 : decide (2 ≤ C.length) = true := by simp; omega
        simp [a1, a2, he]
      · rw [if_neg he]
        have : (C.length % 2 == 0) = false := by rw [beq_eq_false_iff_ne]; exact he
        simp [this]
theorem rdC_get : ∀ (n : Nat) (C : List UInt8) (ls : List Nat), C.length ≤ n → rdC C = some ls → ∀ m, m < ls.length → ls.getD m 0 = (C.getD (2 * m + 1) 0).toNat ∧ letB (ls.getD m 0) = true
  | _, [], ls, _, h, m, hm => by simp [rdC] at h; subst h; simp at hm
  | _, [c], ls, _, h, m, hm => by simp [rdC] at h; subst h; simp at hm
  | 0, c :: d :: r, ls, hn, _, _, _ => by simp at hn
  | n + 1, c :: d :: r, ls, hn, h, m, hm => by
    rw [rdC] at h
    split at h
    · rename_i hc
      rw [Bool.and_eq_true] at hc
      cases hr : rdC r with
      | none => rw [hr] at h; simp at h
      | some M =>
        rw [hr] at h
        simp at h
        subst h
        match m, hm with
        | 0, _ => exact ⟨rfl, hc.2⟩
        | m + 1, hm =>
          have := rdC_get n r M (by simp at hn; omega) hr m (by simpa using hm)
          rw [show 2 * (m + 1) + 1 = 2 * m + 1 + 1 + 1 by omega]
          simpa using this
    · cases h
theorem crL_get {C : List UInt8} {ls : List Nat} (h : crL C = some ls) : ∀ m, m < ls.length → ls.getD m 0 = (C.getD (2 * m + 1) 0).toNat ∧ letB (ls.getD m 0) = true := by
  unfold crL at h
  split at h
  · cases h
  · split at h
    · cases h
    · split at h
      · exact rdC_get C.length C ls (Nat.le_refl _) h
      · cases h

/-- The greatest version, as a text. -/
def encG (g : Nat) : List UInt8 := if g = 0 then [] else [b8 g]
theorem gre_go {a : Nat} (hna : a < 256) : ∀ (r : List Pk) (g : Nat), g < 256 → (∀ p ∈ r, p.n < 256 ∧ 1 ≤ p.v ∧ p.v < 256) → r.foldl (gStep [b8 a]) (encG g) = encG (gtG a r g)
  | [], g, _, _ => rfl
  | p :: r, g, hg, hr => by
    rw [List.foldl_cons, gtG]
    obtain ⟨h1, h2, h3⟩ := hr p (by simp)
    have key : gStep [b8 a] (encG g) p = encG (if p.n = a ∧ g < p.v then p.v else g) := by
      unfold gStep
      by_cases hn : p.n = a
      · have e1 : ([b8 p.n] == [b8 a]) = true := by rw [hn]; simp
        have e2 : gtB [b8 p.v] (encG g) = decide (g < p.v) := by
          rw [gt_less]
          unfold encG
          by_cases h0 : g = 0
          · rw [if_pos h0]
            have : decide (g < p.v) = true := by simp; omega
            rw [this]
            rfl
          · rw [if_neg h0]
            simp only [Op.bytesLess, Bool.and_false, Bool.or_false]
            rw [Bool.eq_iff_iff]
            simp only [decide_eq_true_eq, UInt8.lt_iff_toNat_lt, b8_val h3, b8_val hg]
        rw [e1, e2, Bool.true_and]
        by_cases hlt : g < p.v
        · rw [if_pos (by simpa using hlt), if_pos ⟨hn, hlt⟩]
          unfold encG
          rw [if_neg (by omega)]
        · rw [if_neg (by simpa using hlt), if_neg (fun h => hlt h.2)]
      · have e1 : ([b8 p.n] == [b8 a]) = false := by
          rw [beq_eq_false_iff_ne]
          intro e
          exact hn ((one_name h1 hna).1 e)
        rw [e1, if_neg (by simp), if_neg (fun h => hn h.1)]
    rw [key]
    refine gre_go hna r _ ?_ (fun q hq => hr q (by simp [hq]))
    split <;> omega
theorem gre_same {ps : List Pk} (ha : Ap ps) {a : Nat} (hna : a < 256) : greT ps [b8 a] = encG (gtT ps a) := by
  unfold greT gtT
  exact gre_go hna ps 0 (by omega) (fun p hp => by have := ha.n hp; have := ha.v hp; omega)
theorem gt_zero {ps : List Pk} (ha : Ap ps) (a : Nat) : gtT ps a = 0 ↔ hnB ps a = false := by
  obtain ⟨_, g2, g3⟩ := gt_props a ps 0
  unfold hnB
  rw [List.any_eq_false]
  constructor
  · intro h p hp hn
    have := g2 p hp (by simpa using hn)
    have hv := ha.v hp
    unfold gtT at h
    omega
  · intro h
    rcases g3 with g3 | ⟨p, hp, hn, _⟩
    · exact g3
    · exact absurd (by simp [hn]) (h p hp)

theorem now_empty {ps : List Pk} (ha : Ap ps) (P : List UInt8) {a : Nat} (hna : a < 256) : (versT ps P [b8 a] true).isEmpty = !hnB (nowL ps) a := by
  unfold hnB
  rw [Bool.eq_iff_iff, List.isEmpty_iff, Bool.not_eq_true', List.any_eq_false]
  have hN : ∀ p, p ∈ nowL ps ↔ p ∈ ps ∧ vA P true p = true := fun p => by unfold nowL vA; rw [List.mem_filter]; simp
  constructor
  · intro he p hp hn
    obtain ⟨h1, h2⟩ := (hN p).1 hp
    have hn' : p.n = a := by simpa using hn
    have : b8 p.v ∈ versT ps P [b8 a] true := (mem_versT ha).2 ⟨p, h1, h2, by rw [hn'], rfl⟩
    rw [he] at this
    simp at this
  · intro hx
    rw [List.eq_nil_iff_forall_not_mem]
    intro x hxm
    obtain ⟨p, hp, hA, hn, _⟩ := (mem_versT ha).1 hxm
    have hpn := (one_name (by have := ha.n hp; omega) hna).1 hn
    exact hx p ((hN p).2 ⟨hp, hA⟩) (by simp [hpn])
theorem sv_iff (now L : List Pk) (a : Nat) : ∀ (f v : Nat), svF now L a f v = true ↔ ∀ u, v ≤ u → u < v + f → amB now a u = amB L a u
  | 0, v => ⟨fun _ u h1 h2 => by omega, fun _ => rfl⟩
  | f + 1, v => by
    rw [svF, Bool.and_eq_true, sv_iff now L a f (v + 1), beq_iff_eq]
    constructor
    · rintro ⟨h1, h2⟩ u hu hu2
      rcases Nat.lt_or_ge v u with h3 | h3
      · exact h2 u h3 (by omega)
      · have : u = v := by omega
        subst this
        exact h1
    · intro h
      exact ⟨h v (Nat.le_refl _) (by omega), fun u h1 h2 => h u (by omega) (by omega)⟩
/-- There is one with the name and the version, or none. -/
theorem vIn_one {ps : List Pk} (ha : Ap ps) {P : List UInt8} {a : Nat} (hna : a < 256) {now : Bool} (u : Nat) : vIn ps P [b8 a] now u = [] ∨ vIn ps P [b8 a] now u = [b8 u] := by
  unfold vIn
  have hnd : (ps.filter (vHas P [b8 a] now u)).Nodup := ha.nd.sublist List.filter_sublist
  have hm : ∀ p ∈ ps.filter (vHas P [b8 a] now u), p ∈ ps ∧ p.n = a ∧ p.v = u := by
    intro p hp
    obtain ⟨h1, h2⟩ := List.mem_filter.1 hp
    unfold vHas at h2
    simp only [Bool.and_eq_true, beq_iff_eq] at h2
    exact ⟨h1, (one_name (by have := ha.n h1; omega) hna).1 h2.1.2, h2.2⟩
  rcases hF : ps.filter (vHas P [b8 a] now u) with _ | ⟨p, _ | ⟨q, r⟩⟩
  · exact Or.inl rfl
  · right
    rw [hF] at hm
    obtain ⟨_, _, h3⟩ := hm p (by simp)
    simp [h3]
  · exfalso
    rw [hF] at hm hnd
    obtain ⟨p1, p2, p3⟩ := hm p (by simp)
    obtain ⟨q1, q2, q3⟩ := hm q (by simp)
    have : p = q := ha.ap p p1 q q1 (by omega) (by omega)
    subst this
    simp at hnd
theorem vers_cong {ps : List Pk} {P1 P2 N : List UInt8} {n1 n2 : Bool} : ∀ (k : Nat), (∀ u, 49 ≤ u → u < 49 + k → vIn ps P1 N n1 u = vIn ps P2 N n2 u) → vers ps P1 N n1 k = vers ps P2 N n2 k
  | 0, _ => rfl
  | k + 1, h => by
    rw [vers, vers, vers_cong k (fun u h1 h2 => h u h1 (by omega)), h (49 + k) (by omega) (by omega)]
theorem am_now {ps : List Pk} (ha : Ap ps) (P : List UInt8) {a u : Nat} (hna : a < 256) : amB (nowL ps) a u = true ↔ vIn ps P [b8 a] true u ≠ [] := by
  have hN : ∀ p, p ∈ nowL ps ↔ p ∈ ps ∧ vA P true p = true := fun p => by unfold nowL vA; rw [List.mem_filter]; simp
  unfold amB
  rw [List.any_eq_true]
  constructor
  · rintro ⟨p, hp, e⟩ hx
    simp at e
    obtain ⟨h1, h2⟩ := (hN p).1 hp
    have : b8 p.v ∈ vIn ps P [b8 a] true u := mem_vIn.2 ⟨p, h1, h2, by rw [e.1], e.2, rfl⟩
    rw [hx] at this
    simp at this
  · intro hx
    obtain ⟨x, hxm⟩ := List.exists_mem_of_ne_nil _ hx
    obtain ⟨p, h1, h2, h3, h4, _⟩ := mem_vIn.1 hxm
    exact ⟨p, (hN p).2 ⟨h1, h2⟩, by simp [(one_name (by have := ha.n h1; omega) hna).1 h3, h4]⟩
theorem am_pick {ps : List Pk} {P : List UInt8} {L : List Pk} (ha : Ap ps) (h : Pq ps P L) {a u : Nat} (hna : a < 256) : amB L a u = true ↔ vIn ps P [b8 a] false u ≠ [] := by
  unfold amB
  rw [List.any_eq_true]
  constructor
  · rintro ⟨p, hp, e⟩ hx
    simp at e
    have : b8 p.v ∈ vIn ps P [b8 a] false u := mem_vIn.2 ⟨p, h.sub p hp, (vA_pick ha h (h.sub p hp)).2 hp, by rw [e.1], e.2, rfl⟩
    rw [hx] at this
    simp at this
  · intro hx
    obtain ⟨x, hxm⟩ := List.exists_mem_of_ne_nil _ hx
    obtain ⟨p, h1, h2, h3, h4, _⟩ := mem_vIn.1 hxm
    exact ⟨p, (vA_pick ha h h1).1 h2, by simp [(one_name (by have := ha.n h1; omega) hna).1 h3, h4]⟩
theorem chg_same {ps : List Pk} {P : List UInt8} {L : List Pk} (ha : Ap ps) (h : Pq ps P L) {a : Nat} (hna : a < 256) : (versT ps [] [b8 a] true == versT ps P [b8 a] false) = svB (nowL ps) L a := by
  rw [Bool.eq_iff_iff, beq_iff_eq]
  unfold svB
  rw [sv_iff]
  have hin : ∀ u, 49 ≤ u → u < 58 → ((amB (nowL ps) a u = amB L a u) ↔ vIn ps [] [b8 a] true u = vIn ps P [b8 a] false u) := by
    intro u hu hu2
    have e1 := am_now ha [] (u := u) hna
    have e2 := am_pick ha h (u := u) hna
    rw [Bool.eq_iff_iff, e1, e2]
    rcases vIn_one ha (P := []) hna (now := true) u with h1 | h1 <;> rcases vIn_one ha (P := P) hna (now := false) u with h2 | h2 <;> rw [h1, h2] <;> simp
  constructor
  · intro hOV u hu hu2
    rw [Bool.eq_iff_iff]
    have mem : ∀ (P' : List UInt8) (n' : Bool), b8 u ∈ versT ps P' [b8 a] n' ↔ vIn ps P' [b8 a] n' u ≠ [] := by
      intro P' n'
      rw [mem_versT ha]
      constructor
      · rintro ⟨p, h1, h2, h3, h4⟩ hx
        have hv := ha.v h1
        have : u = p.v := b8_inj (by omega) (by omega) h4
        have : b8 p.v ∈ vIn ps P' [b8 a] n' u := mem_vIn.2 ⟨p, h1, h2, h3, this.symm, rfl⟩
        rw [hx] at this
        simp at this
      · intro hx
        obtain ⟨x, hxm⟩ := List.exists_mem_of_ne_nil _ hx
        obtain ⟨p, h1, h2, h3, h4, _⟩ := mem_vIn.1 hxm
        exact ⟨p, h1, h2, h3, by rw [h4]⟩
    rw [am_now ha [] hna, am_pick ha h hna, ← mem, ← mem, hOV]
  · intro hx
    unfold versT
    exact vers_cong 9 (fun u h1 h2 => (hin u h1 (by omega)).1 (hx u h1 (by omega)))

theorem hn_sub {ps L : List Pk} (hs : ∀ p ∈ L, p ∈ ps) {a : Nat} (h : hnB ps a = false) : hnB L a = false := by
  unfold hnB at h ⊢
  rw [List.any_eq_false] at h ⊢
  exact fun p hp => h p (hs p hp)
theorem cnt_same {ps : List Pk} {P : List UInt8} {L : List Pk} (ha : Ap ps) (h : Pq ps P L) {a : Nat} (hna : a < 256) {c : Nat} (hc : letB c = true) : num1 ps P c a = cnt1 ps (nowL ps) L c a := by
  unfold num1 cntB cntV cnt1
  rw [now_empty ha [] hna, vers_empty ha h hna, chg_same ha h hna, gre_same ha hna]
  have hsubN : ∀ p ∈ nowL ps, p ∈ ps := fun p hp => (List.mem_filter.1 hp).1
  by_cases hg : gtT ps a = 0
  · have h0 := (gt_zero ha a).1 hg
    have h1 := hn_sub hsubN h0
    have h2 := hn_sub h.sub h0
    have h3 : svB (nowL ps) L a = true := by
      unfold svB
      rw [sv_iff]
      intro u _ _
      have z : ∀ M : List Pk, hnB M a = false → amB M a u = false := by
        intro M hM
        unfold hnB at hM
        unfold amB
        rw [List.any_eq_false] at hM ⊢
        intro p hp hx
        have := hM p hp
        simp at hx this
        exact this hx.1
      rw [z _ h1, z _ h2]
    have he : encG (gtT ps a) = [] := by unfold encG; rw [if_pos hg]
    rw [he, h1, h2, h3]
    simp
  · have he : encG (gtT ps a) = [b8 (gtT ps a)] := by unfold encG; rw [if_neg hg]
    rw [he]
    have hT : inB P ([b8 a] ++ [b8 (gtT ps a)]) = amB L a (gtT ps a) := by
      obtain ⟨_, _, g3⟩ := gt_props a ps 0
      rcases g3 with g3 | ⟨p, hp, hn, e⟩
      · exact absurd g3 hg
      · have e' : gtT ps a = p.v := e
        rw [e', ← hn]
        exact (am_same ha h hp).symm
    rw [hT]
    have e0 : (!([b8 (gtT ps a)] : List UInt8).isEmpty) = true := rfl
    rw [e0, Bool.true_and]
    unfold letB at hc
    simp only [Bool.or_eq_true, beq_iff_eq] at hc
    by_cases c1 : c = 114
    · rw [if_pos c1, if_pos c1, Bool.not_not]
    · rw [if_neg c1, if_neg c1]
      by_cases c2 : c = 110
      · rw [if_pos c2, if_pos c2, Bool.not_not, Bool.and_comm]
      · rw [if_neg c2, if_neg c2]
        by_cases c3 : c = 99
        · rw [if_pos c3, if_pos c3]
        · rw [if_neg c3, if_neg c3, if_pos (by omega), Bool.not_not]
theorem num_same {ps : List Pk} {P : List UInt8} {L : List Pk} (ha : Ap ps) (h : Pq ps P L) {c : Nat} (hc : letB c = true) : ∀ k, k ≤ 26 → numA ps P c k = scN ps (nowL ps) L c k
  | 0, _ => rfl
  | k + 1, hk => by
    rw [numA, scN, num_same ha h hc k (by omega), cnt_same ha h (by omega) hc]
theorem text_same {ps : List Pk} {P C : List UInt8} {L : List Pk} {ls : List Nat} (ha : Ap ps) (h : Pq ps P L) (hc : crL C = some ls) : ∀ m, m ≤ ls.length → scA ps P C m = txA ps L ls m
  | 0, _ => rfl
  | m + 1, hm => by
    obtain ⟨h1, h2⟩ := crL_get hc m (by omega)
    rw [scA, txA, text_same ha h hc m (by omega), ← h1]
    unfold numT
    rw [num_same ha h h2 26 (Nat.le_refl _)]

theorem score_same (t C P : List UInt8) : usE t C P = scE t C P ∧ usT t C P = scT t C P := by
  unfold usE usT scE scT
  by_cases h : rdE t = 0
  · have ha := Ap.of h
    obtain ⟨_, _, _, r4, _⟩ := rd_ok h
    rw [if_pos h, if_pos h, if_pos h, if_pos h, crit_same, pick_same ha r4]
    rcases hc : crL C with _ | ls
    · exact ⟨rfl, rfl⟩
    · unfold prE
      rcases hp : prL (dcV t).packs P with _ | L
      · exact ⟨rfl, rfl⟩
      · refine ⟨rfl, ?_⟩
        have := text_same ha (Pq.of ha hp) hc ls.length (Nat.le_refl _)
        rw [(crL_len hc).1] at this
        simp only [Option.isSome_some, if_true]
        rw [this, (crL_len hc).1]
  · rw [if_neg h, if_neg h, if_neg h, if_neg h]
    exact ⟨rfl, rfl⟩

end Go.Proofs.YtdfnnpakdbhhpaaGreatDoor

namespace Go.Proofs.YtdfnnpakdbhhpaaGreatDoor
open Go.RowKit

set_option maxHeartbeats 800000 in
theorem law_plays4 (n : Int) (S T U : ByteArray) (w : World) (hS : S.size ≤ maxLen) (hT : T.size ≤ maxLen) (hU : U.size ≤ maxLen) : Calls Tryz.prog 9 #[.agg #[.int .i64 4, .int .i64 n, .string S, .string T, .string U]] w fun e w' => e = .returned (.bool true) ∧ Below w.heap.size w w' := by
  obtain ⟨P, rfl⟩ : ∃ P, T = bs P := ⟨_, (bs_data T).symm⟩
  obtain ⟨C, rfl⟩ : ∃ C, U = bs C := ⟨_, (bs_data U).symm⟩
  rw [bs_size] at hT hU
  have hT' : (P.length : Int) ≤ maxLen := by exact_mod_cast hT
  have hU' : (C.length : Int) ≤ maxLen := by exact_mod_cast hU
  go_enter Tryz.func9, Tryz.ntmps9
  go_wp2_with fail
  refine (up_Score S C P _ hS hU' hT').mono ?_
  rintro e w1 ⟨rfl, hb1⟩
  rw [(score_same _ _ _).1, (score_same _ _ _).2]
  have hb : Below w.heap.size w w1 := ((Below.refl _ _).alloc (Nat.le_refl _) _).trans (hb1.mono (by simp))
  have hbx := blk_below hb1 (blk_new w (.cells #[.int .i64 4, .int .i64 n, .string S, .string (bs P), .string (bs C)] 27)) (by simp)
  have c2 := cellAt hbx 2
  have c3 := cellAt hbx 3
  have c4 := cellAt hbx 4
  simp at c2 c3 c4
  have HB : Hid (Below w.heap.size w w1) := hb
  clear hb hb1 hbx
  go_wp2_with fail
  refine (ref_Score S C P _ hS hU hT).mono ?_
  rintro e w2 ⟨rfl, hb2⟩
  have HB2 : Hid (Below w.heap.size w w2) := HB.out.trans (hb2.mono HB.out.size)
  clear hb2 HB c2 c3 c4
  go_wp2_with (go_at_call 18; refine (law_num _ _).mono ?_; rintro e w' ⟨rfl, rfl⟩)
  all_goals go_ret
  all_goals exact ⟨ret_bool (by simp), HB2.out⟩

/-- The document's own example of Score. -/
def head4T : List UInt8 := [97, 49, 43, 58, 58, 58, 59, 98, 49, 43, 58, 58, 58, 59, 98, 50, 58, 58, 58, 59, 99, 49, 58, 58, 58, 59, 47, 47, 47]
def head4C : List UInt8 := [45, 114, 45, 110, 45, 99, 45, 117]
def head4P : List UInt8 := [98, 49, 99, 49]
def head4U : List UInt8 := [49, 44, 49, 44, 50, 44, 49]
theorem head4E : usE head4T head4C head4P = 0 := by decide +kernel
theorem head4R : usT head4T head4C head4P = head4U := by decide +kernel

set_option maxHeartbeats 800000 in
theorem law_heads4 (w : World) : Calls Tryz.prog 8 #[.int .i64 4] w fun e w' => e = .returned (.bool true) ∧ Below w.heap.size w w' := by
  go_enter Tryz.func8, Tryz.ntmps8
  go_wp2_with fail
  refine (up_Score (bs head4T) head4C head4P _ (by unfold maxLen; decide) (by unfold maxLen; decide) (by unfold maxLen; decide)).mono ?_
  rintro e w1 ⟨rfl, hb1⟩
  rw [bs_list, head4E, head4R]
  have he : ((bs head4U).toList == [49, 44, 49, 44, 50, 44, 49]) = true := by rw [tl]; decide
  go_wp2
  go_ret
  exact ⟨rfl, hb1⟩

end Go.Proofs.YtdfnnpakdbhhpaaGreatDoor

namespace Go.Proofs.YtdfnnpakdbhhpaaGreatDoor
open Go.ChangeShapes Go.WideShapes Go.ChangeAt Go.RowKit
open Go.ChangeMaps (open_string shut_string)

theorem own : ownKnob Tryz.prog.godebug = none := by kernel_rfl
theorem laidOut : laidOutB Tryz.prog = true := by kernel_rfl
theorem cellsInt : Tryz.prog.cellsOf 3 = 1 := by kernel_rfl
theorem cellsStr : Tryz.prog.cellsOf 9 = 1 := by kernel_rfl
theorem cellsOp : Tryz.prog.cellsOf 27 = 5 := by kernel_rfl

set_option maxHeartbeats 400000 in
theorem law_Scores (ao : Option Addr) (len cap : Nat) (w : World) (hlen : len ≤ maxLen) (hrow : ∀ i, i < len → ∃ b off, ao = some ⟨b, off, none⟩ ∧ OpAt w b off i) :
    Calls Tryz.prog 6 #[.slice ao len cap] w fun e w' => e = .returned (.bool true) ∧ Below w.heap.size w w' := by
  have HR : Hid _ := hrow
  clear hrow
  go_enter Tryz.func6, Tryz.ntmps6
  go_wp2_with fail
  refine (law_upTo 4 (by omega) law_heads4 (fun n S T U w h1 h2 h3 => law_plays4 n S T U w h1 h2 h3) ao len cap _ hlen HR.out).mono ?_
  rintro e w1 ⟨rfl, hb⟩
  go_wp2
  go_ret
  exact ⟨rfl, hb⟩

set_option maxRecDepth 100000 in
/-- The script, opened. -/
theorem open_script {H : Type} {enc : TypeId × Value → H} {W : World} {ao : Option Addr} {len cap fuel : Nat} {x : DataW H × List MemPlace}
    (hf : DataW.trod enc Tryz.prog W 0 (fun _ => true) true fuel 22 [.slice ao len cap] = some x) : len ≤ maxLen ∧ ∀ i, i < len → ∃ b off, ao = some ⟨b, off, none⟩ ∧ OpAt W b off i := by
  rcases Deep.open_slice Tryz.underlying22 hf with ⟨hcs, _⟩ | ⟨a, l, c, m, n, D, Pl, hcs, _, hl, hm, hmm, _, hel⟩
  · simp at hcs
    obtain ⟨rfl, rfl, rfl⟩ := hcs
    exact ⟨Nat.zero_le _, fun i hi => by omega⟩
  · simp at hcs
    obtain ⟨rfl, rfl, rfl⟩ := hcs
    simp at hmm
    refine ⟨by omega, fun i hi => ?_⟩
    obtain ⟨cs', h1, h2⟩ := hel i (by omega)
    rw [cellsOp] at h1
    obtain ⟨_, hcl, hce⟩ := World.cells?_some h1
    obtain ⟨xs, n', _, _, _, hxl, hfl⟩ := DataW.trod_struct Tryz.underlying27 h2
    match cs', hcl with
    | [c0, c1, c2, c3, c4], _ =>
    match xs, hxl with
    | [y0, y1, y2, y3, y4], _ =>
    have g0 : DataW.trod enc Tryz.prog W 0 (fun _ => true) true n' 3 (([c0, c1, c2, c3, c4].drop 0).take (Tryz.prog.cellsOf 3)) = some y0 := hfl 0 _ rfl
    have g1 : DataW.trod enc Tryz.prog W 0 (fun _ => true) true n' 3 (([c0, c1, c2, c3, c4].drop 1).take (Tryz.prog.cellsOf 3)) = some y1 := hfl 1 _ rfl
    have g2 : DataW.trod enc Tryz.prog W 0 (fun _ => true) true n' 9 (([c0, c1, c2, c3, c4].drop 2).take (Tryz.prog.cellsOf 9)) = some y2 := hfl 2 _ rfl
    have g3 : DataW.trod enc Tryz.prog W 0 (fun _ => true) true n' 9 (([c0, c1, c2, c3, c4].drop 3).take (Tryz.prog.cellsOf 9)) = some y3 := hfl 3 _ rfl
    have g4 : DataW.trod enc Tryz.prog W 0 (fun _ => true) true n' 9 (([c0, c1, c2, c3, c4].drop 4).take (Tryz.prog.cellsOf 9)) = some y4 := hfl 4 _ rfl
    rw [cellsInt] at g0 g1
    rw [cellsStr] at g2 g3 g4
    obtain ⟨k, e0, _, _⟩ := DataW.trod_int Tryz.underlying3 g0
    obtain ⟨nn, e1, _, _⟩ := DataW.trod_int Tryz.underlying3 g1
    obtain ⟨S, e2, _, s2⟩ := DataW.trod_string Tryz.underlying9 g2
    obtain ⟨T, e3, _, s3⟩ := DataW.trod_string Tryz.underlying9 g3
    obtain ⟨U, e4, _, s4⟩ := DataW.trod_string Tryz.underlying9 g4
    simp at e0 e1 e2 e3 e4
    subst e0 e1 e2 e3 e4
    obtain ⟨b, off, spot⟩ := a
    have hc0 := hce 0 (by omega)
    have hspot : spot = none := by
      obtain ⟨cs0, h10, _⟩ := hel 0 (by omega)
      rw [cellsOp] at h10
      obtain ⟨_, hcl0, hce0⟩ := World.cells?_some h10
      have h8 := hce0 0 (by omega)
      rw [List.getElem?_eq_getElem (by omega)] at h8
      have h9 := World.cell?_spot h8
      simpa [Addr.add] using h9
    subst hspot
    have hc1 := hce 1 (by omega)
    have hc2 := hce 2 (by omega)
    have hc3 := hce 3 (by omega)
    have hc4 := hce 4 (by omega)
    simp only [Addr.add_lit, List.getElem?_cons_zero, List.getElem?_cons_succ, Nat.add_zero] at hc0 hc1 hc2 hc3 hc4
    exact ⟨b, off, rfl, k, nn, S, T, U, hc0, hc1, hc2, hc3, hc4, s2, s3, s4⟩

set_option maxRecDepth 100000 in
/-- The heap that the variables' own statements leave meets the condition. -/
theorem door_met (os : Os) (args : Array Value) : laidMetH Tryz.prog Rows.scoresRow.laid ((World.doorLaid Tryz.prog 400 os).forCall (fun _ _ => 0) ⟨#[], args, []⟩).memory :=
  laidMetH_of_parts3 (fuel := 8) (laidMet_of_run' 8 (by kernel_rfl) (by kernel_rfl)) (by kernel_rfl) (by kernel_rfl)

set_option maxRecDepth 100000 in
theorem lifted (os : Os) (started : os.Started) (H : Type) (enc : TypeId × Value → H) :
    ReturnsInHanded {} Tryz.checked os 6 .any (fun w args => (Rows.scoresSpec.pre enc Tryz.prog Tryz.f6 [] false w args ∧ laidMetH Tryz.prog Rows.scoresRow.laid w) ∧ sizedMet enc Tryz.prog Tryz.f6 (OpenSpec.ofChange Rows.scoresSpec) false w args)
      (Rows.scoresSpec.post enc Tryz.prog Tryz.f6 false true false false) := by
  refine returnsInHanded_of_change_and (C := Tryz.checked) (X := fun w _ => laidMetH Tryz.prog Rows.scoresRow.laid w) (fun _ _ _ hh h => h.of_heap hh) own started (by kernel_rfl) Tryz.func6
    (ChangeSpec.witness_shaped (enc := enc) (C := Tryz.checked) (os := os) (X := fun w _ => laidMetH Tryz.prog Rows.scoresRow.laid w) false (World.doorLaid Tryz.prog 400 os) #[.slice none 0 0] 8 rfl (World.shaped_of_RefB (by kernel_rfl) (by kernel_rfl)) (by kernel_rfl) (by kernel_rfl) (by kernel_rfl) (door_met os _)) ?_
  intro W base args ds gs before hval0 hW _ _ _ _
  have hval : ∀ (j : Nat) t v, Tryz.f6.params[j]? = some t → args[j]? = some v → Value.okWide Tryz.prog W .any base t v := hval0
  have hW' := hW
  obtain ⟨p, q, hA0, hV, rfl, hfz, hnd⟩ := hW
  have hA : DataW.TrodAll enc Tryz.prog W 0 (fun _ => true) true Tryz.f6.params.toList args.toList ds p := hA0
  rw [Tryz.params6] at hA hval
  obtain ⟨v0, vs0, d0, ds0, p0, q0, hargs, rfl, rfl, h0, r0⟩ := trodAll_cons hA
  obtain ⟨rfl, rfl, rfl⟩ := trodAll_nil r0
  obtain rfl : args = #[v0] := by cases args; simp_all
  obtain ⟨rfl, rfl⟩ := trodVars_none hV
  obtain ⟨a0, len0, cap0, rfl⟩ := okWide_slice Tryz.underlying22 (hval 0 22 v0 rfl rfl)
  have k0 := h0
  have lt0 : ∀ x ∈ p0, x.block < W.heap.size := by obtain ⟨m, hm⟩ := k0; exact DataW.trod_lt m _ _ _ hm
  obtain ⟨hl, hrow⟩ : len0 ≤ maxLen ∧ ∀ i, i < len0 → ∃ b off, a0 = some ⟨b, off, none⟩ ∧ OpAt W b off i := by
    obtain ⟨fuel, hf⟩ := h0
    exact open_script (by simpa [Value.cells] using hf)
  clear hA0 hval0
  refine (law_Scores a0 len0 cap0 W hl hrow).mono fun e W' ⟨he, bel⟩ => ?_
  subst he
  exact ⟨_, rfl, _, _, _, [], _, [], hW', trodAll_mk1 (shut_bool Tryz.underlying4 _), (trodAll_cons_mk (Below.trod laidOut (by kernel_rfl) (of_decide_eq_true (by kernel_rfl)) k0 bel lt0) trodAll_mk0), rfl, bel.frame _, fun h => by cases h⟩

theorem over : Rows.ScoresSaid :=
  OpenClaim.holds_of_wide 6 Tryz.f6 rfl rfl rfl rfl rfl rfl rfl ⟨rfl, rfl, rfl, rfl, rfl⟩ rfl rfl rfl rfl rfl (by kernel_rfl) Tryz.func6 (by kernel_rfl)
    (of_decide_eq_true (by kernel_rfl)) (by unfold Func.isWrapper; first | (rw [if_pos (by decide +kernel)]; kernel_rfl) | (rw [if_neg (by decide +kernel)]; exact ⟨rfl, rfl⟩))
    (fun os started H enc _ => lifted os started H enc)

/-- The card: the row, its listed variables tied to the program's text. -/
theorem scores_holds : Rows.ScoresCardSaid :=
  Claim7.holds_tied_plain_at .later [] [.data, .data, .data] true Rows.scoresCard.stood.harness false
    over (fun _ h => by cases h) (by kernel_rfl) (fun _ h => by cases h) scores_row_tie rfl ⟨rfl, rfl⟩ (by kernel_rfl) rfl
    (fun f fn hf hfn => by
      obtain rfl : f = 6 := Option.some.inj ((show Tryz.prog.funcNamed "upkeep/upkeeplaw.Scores" = some 6 by kernel_rfl).symm.trans hf) |>.symm
      obtain rfl : fn = Tryz.f6 := (Option.some.inj (Tryz.func6.symm.trans hfn)).symm
      exact ⟨by kernel_rfl, fun j t ht => by
        rw [Tryz.params6] at ht
        have hm : t ∈ [22] := by simpa using Array.mem_of_getElem? ht
        have hall : ([22].all fun u => !Tryz.prog.wantsStandIn u) = true := by kernel_rfl
        exact (show Tryz.prog.wantsStandIn t = false by simpa using List.all_eq_true.1 hall t hm)⟩)
    (by kernel_rfl)

end Go.Proofs.YtdfnnpakdbhhpaaGreatDoor
