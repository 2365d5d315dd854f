/-
  Texts that are written, cut again at their signs. Plain mathematics.
-/
import Derived.Test.YtdfnnpakdbhhpaaGreatDoorPlO
import Derived.Test.YtdfnnpakdbhhpaaGreatDoorStrs
namespace Go.Proofs.YtdfnnpakdbhhpaaGreatDoor

def Free (c : UInt8) (l : List UInt8) : Prop := ∀ x ∈ l, x ≠ c
theorem Free.nil (c : UInt8) : Free c [] := by intro x hx; cases hx
theorem Free.cons {c x : UInt8} {l : List UInt8} (hx : x ≠ c) (h : Free c l) : Free c (x :: l) := by
  intro y hy; rcases List.mem_cons.1 hy with rfl | hy
  · exact hx
  · exact h y hy
theorem Free.app {c : UInt8} {a b : List UInt8} (ha : Free c a) (hb : Free c b) : Free c (a ++ b) := by
  intro x hx; rcases List.mem_append.1 hx with h | h
  · exact ha x h
  · exact hb x h

theorem piecesGo_free {c : UInt8} : ∀ {a : List UInt8}, Free c a → ∀ (cur r : List UInt8), piecesGo c cur (a ++ r) = piecesGo c (cur ++ a) r
  | [], _, cur, r => by simp
  | x :: a, h, cur, r => by
    have hx : x ≠ c := h x (by simp)
    rw [List.cons_append, piecesGo, if_neg (by simpa using hx), piecesGo_free (fun y hy => h y (by simp [hy])) (cur ++ [x]) r]
    simp
theorem pieces_join {c : UInt8} : ∀ {l : List (List UInt8)}, l ≠ [] → (∀ a ∈ l, Free c a) → piecesL c (joinT c l) = l
  | [a], _, h => by
    unfold piecesL
    have := piecesGo_free (h a (by simp)) [] []
    simp at this
    simp [joinT, this, piecesGo]
  | a :: b :: l, _, h => by
    have ih := pieces_join (c := c) (l := b :: l) (by simp) (fun x hx => h x (by simp [hx]))
    unfold piecesL at ih ⊢
    rw [joinT_cons (by simp), piecesGo_free (h a (by simp)), piecesGo, if_pos (by simp), ih]
    simp
theorem join_ne {c : UInt8} : ∀ {l : List (List UInt8)}, l ≠ [] → (∀ a ∈ l, a ≠ []) → joinT c l ≠ []
  | [a], _, h => h a (by simp)
  | a :: b :: l, _, h => by rw [joinT_cons (by simp)]; simp
theorem split_join {c : UInt8} {l : List (List UInt8)} (h : ∀ a ∈ l, Free c a) (hne : ∀ a ∈ l, a ≠ []) : splitL c (joinT c l) = l := by
  cases l with
  | nil => rfl
  | cons a l =>
    unfold splitL
    rw [if_neg (by rw [List.isEmpty_iff]; exact join_ne (by simp) hne)]
    exact pieces_join (by simp) h
theorem join_free {c x : UInt8} (hx : x ≠ c) : ∀ {l : List (List UInt8)}, (∀ a ∈ l, Free c a) → Free c (joinT x l)
  | [], _ => Free.nil c
  | [a], h => h a (by simp)
  | a :: b :: l, h => by
    rw [joinT_cons (by simp)]
    exact (h a (by simp)).app (Free.cons hx (join_free hx (fun y hy => h y (by simp [hy]))))

theorem b8_val {n : Nat} (h : n < 256) : (b8 n).toNat = n := by unfold b8; simp; omega
/-- A sign between the parts. -/
def Sep (c : UInt8) : Prop := c = 44 ∨ c = 47 ∨ c = 58 ∨ c = 59 ∨ c = 124
theorem nm_free {n : Nat} (h : nmB n = true) {c : UInt8} (hc : Sep c) : b8 n ≠ c := by
  have := nm_rng h
  intro e
  have h2 := congrArg UInt8.toNat e
  rw [b8_val (by omega)] at h2
  rcases hc with rfl | rfl | rfl | rfl | rfl <;> simp at h2 <;> omega
theorem vr_free {n : Nat} (h : vrB n = true) {c : UInt8} (hc : Sep c) : b8 n ≠ c := by
  have := vr_rng h
  intro e
  have h2 := congrArg UInt8.toNat e
  rw [b8_val (by omega)] at h2
  rcases hc with rfl | rfl | rfl | rfl | rfl <;> simp at h2 <;> omega
theorem sg_free {n : Nat} (h : sgB n = true) {c : UInt8} (hc : Sep c) : b8 n ≠ c := by
  have := sg_ne h
  intro e
  have h2 := congrArg UInt8.toNat e
  rw [b8_val (by omega)] at h2
  rcases hc with rfl | rfl | rfl | rfl | rfl <;> simp at h2 <;> omega
theorem cn_free {c : Cn} (h : CnOk c) {x : UInt8} (hx : Sep x) : Free x (cnT c) := by
  unfold cnT
  rcases h.sv with ⟨h1, _⟩ | ⟨h1, h2⟩
  · rw [if_pos h1]; exact Free.cons (nm_free h.n hx) (Free.nil x)
  · rw [if_neg (by intro e; rw [e] at h1; revert h1; decide)]
    exact Free.cons (nm_free h.n hx) (Free.cons (sg_free h1 hx) (Free.cons (vr_free h2 hx) (Free.nil x)))
theorem cn_ne (c : Cn) : cnT c ≠ [] := by unfold cnT; split <;> simp
theorem ls_free {l : List Cn} (h : ∀ c ∈ l, CnOk c) {x : UInt8} (hx : Sep x) (h44 : x ≠ 44) : Free x (lsT l) :=
  join_free (Ne.symm h44) (fun a ha => by obtain ⟨c, hc, rfl⟩ := List.mem_map.1 ha; exact cn_free (h c hc) hx)
theorem ls_split {l : List Cn} (h : ∀ c ∈ l, CnOk c) : splitL 44 (lsT l) = l.map cnT :=
  split_join (fun a ha => by obtain ⟨c, hc, rfl⟩ := List.mem_map.1 ha; exact cn_free (h c hc) (Or.inl rfl)) (fun a ha => by obtain ⟨c, hc, rfl⟩ := List.mem_map.1 ha; exact cn_ne c)
theorem nd_free {l : List Cn} (h : NdOk l) {x : UInt8} (hx : Sep x) (h124 : x ≠ 124) : Free x (ndT l) :=
  join_free (Ne.symm h124) (fun a ha => by obtain ⟨c, hc, rfl⟩ := List.mem_map.1 ha; exact cn_free (h.2 c hc) hx)
theorem nd_ne {l : List Cn} (h : NdOk l) : ndT l ≠ [] := join_ne (by simpa using h.1) (fun a ha => by obtain ⟨c, hc, rfl⟩ := List.mem_map.1 ha; exact cn_ne c)
theorem nd_split {l : List Cn} (h : NdOk l) : splitL 124 (ndT l) = l.map cnT :=
  split_join (fun a ha => by obtain ⟨c, hc, rfl⟩ := List.mem_map.1 ha; exact cn_free (h.2 c hc) (Or.inr (Or.inr (Or.inr (Or.inr rfl))))) (fun a ha => by obtain ⟨c, hc, rfl⟩ := List.mem_map.1 ha; exact cn_ne c)
theorem ns_free {l : List (List Cn)} (h : ∀ n ∈ l, NdOk n) {x : UInt8} (hx : Sep x) (h44 : x ≠ 44) (h124 : x ≠ 124) : Free x (nsT l) :=
  join_free (Ne.symm h44) (fun a ha => by obtain ⟨c, hc, rfl⟩ := List.mem_map.1 ha; exact nd_free (h c hc) hx h124)
theorem ns_split {l : List (List Cn)} (h : ∀ n ∈ l, NdOk n) : splitL 44 (nsT l) = l.map ndT :=
  split_join (fun a ha => by obtain ⟨c, hc, rfl⟩ := List.mem_map.1 ha; exact nd_free (h c hc) (Or.inl rfl) (by decide)) (fun a ha => by obtain ⟨c, hc, rfl⟩ := List.mem_map.1 ha; exact nd_ne (h c hc))
theorem nm1_free {n : Nat} (h : nmB n = true) {x : UInt8} (hx : Sep x) : Free x [b8 n] := Free.cons (nm_free h hx) (Free.nil x)
theorem nmT_free {l : List Nat} (h : ∀ c ∈ l, nmB (c : Nat) = true) {x : UInt8} (hx : Sep x) (h44 : x ≠ 44) : Free x (nmT l) :=
  join_free (Ne.symm h44) (fun a ha => by obtain ⟨c, hc, rfl⟩ := List.mem_map.1 ha; exact nm1_free (h c hc) hx)
theorem nm_split {l : List Nat} (h : ∀ c ∈ l, nmB (c : Nat) = true) : splitL 44 (nmT l) = l.map fun c => [b8 c] :=
  split_join (fun a ha => by obtain ⟨c, hc, rfl⟩ := List.mem_map.1 ha; exact nm1_free (h c hc) (Or.inl rfl)) (fun a ha => by obtain ⟨c, hc, rfl⟩ := List.mem_map.1 ha; simp)
theorem mk_free (m : Nat) {x : UInt8} (hx : Sep x) : Free x (mkT m) := by
  unfold mkT
  intro y hy
  rcases hx with rfl | rfl | rfl | rfl | rfl <;> (split at hy; · simp at hy) <;> (split at hy; · simp at hy; subst hy; decide) <;> (split at hy <;> (simp at hy; rcases hy with rfl | rfl <;> decide))

/-- A package's text without its last sign. -/
def pkH (p : Pk) : List UInt8 := b8 p.n :: b8 p.v :: mkT p.m
def pkB (p : Pk) : List UInt8 := joinT 58 [pkH p, nsT p.needs, lsT p.conf, nmT p.prov]
theorem pkT_eq (p : Pk) : pkT p = pkB p ++ [59] := by simp [pkT, pkB, pkH, joinT]
theorem pkH_free {p : Pk} (h : PkOk p) {x : UInt8} (hx : Sep x) : Free x (pkH p) := Free.cons (nm_free h.n hx) (Free.cons (vr_free h.v hx) (mk_free p.m hx))
theorem pk_pieces {p : Pk} (h : PkOk p) : piecesL 58 (pkB p) = [pkH p, nsT p.needs, lsT p.conf, nmT p.prov] := by
  have hs : Sep 58 := Or.inr (Or.inr (Or.inl rfl))
  refine pieces_join (by simp) (fun a ha => ?_)
  simp at ha
  rcases ha with rfl | rfl | rfl | rfl
  · exact pkH_free h hs
  · exact ns_free h.needs hs (by decide) (by decide)
  · exact ls_free h.conf hs (by decide)
  · exact nmT_free h.prov hs (by decide)
theorem pkB_free {p : Pk} (h : PkOk p) {x : UInt8} (hx : Sep x) (h44 : x ≠ 44) (h124 : x ≠ 124) (h58 : x ≠ 58) : Free x (pkB p) := by
  refine join_free (Ne.symm h58) (fun a ha => ?_)
  simp at ha
  rcases ha with rfl | rfl | rfl | rfl
  · exact pkH_free h hx
  · exact ns_free h.needs hx h44 h124
  · exact ls_free h.conf hx h44
  · exact nmT_free h.prov hx h44
theorem pks_join : ∀ (ps : List Pk), pksT ps = joinT 59 (ps.map pkB ++ [[]])
  | [] => rfl
  | p :: ps => by
    have ih := pks_join ps
    unfold pksT at ih ⊢
    rw [List.flatMap_cons, ih, List.map_cons, List.cons_append, joinT_cons (by simp), pkT_eq]
    simp
theorem pks_split {ps : List Pk} (h : ∀ p ∈ ps, PkOk p) (hne : ps ≠ []) : splitL 59 (pksT ps) = ps.map pkB ++ [[]] := by
  have hs : Sep 59 := Or.inr (Or.inr (Or.inr (Or.inl rfl)))
  unfold splitL
  rw [if_neg]
  · rw [pks_join]
    refine pieces_join (by simp) (fun a ha => ?_)
    simp at ha
    rcases ha with ⟨p, hp, rfl⟩ | rfl
    · exact pkB_free (h p hp) hs (by decide) (by decide) (by decide)
    · exact Free.nil _
  · cases ps with
    | nil => exact absurd rfl hne
    | cons p ps => rw [List.isEmpty_iff]; simp [pksT, pkT]
theorem pks_free {ps : List Pk} (h : ∀ p ∈ ps, PkOk p) : Free 47 (pksT ps) := by
  rw [pks_join]
  refine join_free (by decide) (fun a ha => ?_)
  simp at ha
  rcases ha with ⟨p, hp, rfl⟩ | rfl
  · exact pkB_free (h p hp) (Or.inr (Or.inl rfl)) (by decide) (by decide) (by decide)
  · exact Free.nil _
theorem dc_pieces {d : Dc} (h : DcOk d) : piecesL 47 (dcT d) = [pksT d.packs, lsT d.ins, lsT d.rem, lsT d.upg] := by
  have hs : Sep 47 := Or.inr (Or.inl rfl)
  rw [show dcT d = joinT 47 [pksT d.packs, lsT d.ins, lsT d.rem, lsT d.upg] by simp [dcT, joinT]]
  refine pieces_join (by simp) (fun a ha => ?_)
  simp at ha
  rcases ha with rfl | rfl | rfl | rfl
  · exact pks_free h.packs
  · exact ls_free h.ins hs (by decide)
  · exact ls_free h.rem hs (by decide)
  · exact ls_free h.upg hs (by decide)

theorem join_len {c : UInt8} : ∀ {l : List (List UInt8)} {a : List UInt8}, a ∈ l → a.length ≤ (joinT c l).length
  | [b], a, h => by simp at h; subst h; exact Nat.le_refl _
  | b :: b' :: l, a, h => by
    rw [joinT_cons (by simp)]
    rcases List.mem_cons.1 h with rfl | h
    · simp
    · have := join_len (c := c) h; simp; omega

end Go.Proofs.YtdfnnpakdbhhpaaGreatDoor
