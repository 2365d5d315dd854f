import Derived.Test.YtenbnmbbfeekpabDoorXA
import Derived.Test.YtenbnmbbfeekpabDoorXF0
import Derived.Test.YtenbnmbbfeekpabDoorXO

/-
  What is written is read back: the text of a document, read, is that document. Plain mathematics.
-/
namespace Go.Proofs.YtenbnmbbfeekpabDoor

def hdN : List UInt8 → Nat
  | [] => 0
  | x :: _ => x.toNat
theorem ah_hd {t : List UInt8} {i : Nat} {r : List UInt8} (h : t.drop i = r) : ahF t i false = hdN r := by
  cases r with
  | nil => exact ahF_end t i (List.drop_eq_nil_iff.1 h) false
  | cons x r =>
    have : t[i]? = some x := by
      have e : (t.drop i)[0]? = some x := by rw [h]; rfl
      rw [List.getElem?_drop] at e
      simpa using e
    unfold ahF
    rw [this]
    rfl
theorem dr1 {t : List UInt8} {i : Nat} {x : UInt8} {r : List UInt8} (h : t.drop i = x :: r) : t.drop (i + 1) = r := by
  have := congrArg (List.drop 1) h
  rw [List.drop_drop] at this
  simpa using this
theorem dr_len {t : List UInt8} {i : Nat} {r : List UInt8} (h : t.drop i = r) : r.length ≤ t.length := by
  rw [← h]; simp
theorem hd_b8 {n : Nat} (r : List UInt8) (h : n < 256) : hdN (b8 n :: r) = n := b8_val h

theorem na_rt {t : List UInt8} {i n : Nat} {r : List UInt8} (h : t.drop i = b8 n :: r) (hn : nmB n = true) : naB t i false = true ∧ naV t i false = n ∧ naS t (i, false) = (i + 1, false) ∧ t.drop (i + 1) = r := by
  have h256 : n < 256 := by have := nm_rng hn; omega
  have e : ahF t i false = n := by rw [ah_hd h, hd_b8 _ h256]
  have hb : naB t i false = true := by unfold naB; rw [e]; exact hn
  refine ⟨hb, by unfold naV; rw [if_pos hb, e], ?_, dr1 h⟩
  unfold naS naI naBad
  simp only
  rw [if_pos hb, if_pos hb]
theorem na_rt0 {t : List UInt8} {i : Nat} {r : List UInt8} (h : t.drop i = r) (hn : nmB (hdN r) = false) : naB t i false = false := by
  unfold naB; rw [ah_hd h]; exact hn
theorem ve_rt {t : List UInt8} {i n : Nat} {r : List UInt8} (h : t.drop i = b8 n :: r) (hn : vrB n = true) : veV t i false = n ∧ veS t (i, false) = (i + 1, false) ∧ t.drop (i + 1) = r := by
  have h256 : n < 256 := by have := vr_rng hn; omega
  have e : ahF t i false = n := by rw [ah_hd h, hd_b8 _ h256]
  have hb : veB t i false = true := by unfold veB; rw [e]; exact hn
  refine ⟨by unfold veV; rw [if_pos hb, e], ?_, dr1 h⟩
  unfold veS veI veBad
  simp only
  rw [if_pos hb, if_pos hb]
theorem ac_rt {t : List UInt8} {i x : Nat} {r : List UInt8} (h : t.drop i = b8 x :: r) (hx : x < 256) (h0 : x ≠ 0) : acB t x i false = true ∧ acS t x (i, false) = (i + 1, false) ∧ exS t x (i, false) = (i + 1, false) ∧ t.drop (i + 1) = r := by
  have e : ahF t i false = x := by rw [ah_hd h, hd_b8 _ hx]
  have hb : acB t x i false = true := by unfold acB; rw [e]; simp [h0]
  refine ⟨hb, ?_, ?_, dr1 h⟩
  · unfold acS acI; simp only; rw [if_pos hb]
  · unfold exS acI exBad; simp only; rw [if_pos hb, if_pos hb]
theorem ac_rt0 {t : List UInt8} {i x : Nat} {r : List UInt8} (h : t.drop i = r) (hx : hdN r ≠ x) : acB t x i false = false ∧ acS t x (i, false) = (i, false) := by
  have hb : acB t x i false = false := by unfold acB; rw [ah_hd h]; simp [hx]
  refine ⟨hb, ?_⟩
  unfold acS acI; simp only; rw [hb]; rfl

theorem cn_rt {t : List UInt8} {i : Nat} {c : Cn} {r : List UInt8} (hc : CnOk c) (h : t.drop i = cnT c ++ r) (hr : sgB (hdN r) = false) :
    cnV t (i, false) = c ∧ ∃ j, cnS t (i, false) = (j, false) ∧ t.drop j = r := by
  obtain ⟨n, s, v⟩ := c
  have hn := hc.n
  have hsv := hc.sv
  simp only at hn hsv
  unfold cnT at h
  simp only at h
  rcases hsv with ⟨rfl, rfl⟩ | ⟨h1, h2⟩
  · rw [if_pos rfl] at h
    obtain ⟨_, a2, a3, a4⟩ := na_rt (r := r) (by simpa using h) hn
    have hs : siB t (i + 1) false = false := by unfold siB; rw [ah_hd a4]; exact hr
    have hv : siV t (i + 1) false = 0 := by unfold siV; rw [hs]; rfl
    have hS : siS t (i + 1, false) = (i + 1, false) := by unfold siS siI; simp only; rw [hs]; rfl
    refine ⟨?_, i + 1, ?_, a4⟩
    · unfold cnV; simp only [a2, a3, hv]; rfl
    · unfold cnS; simp only [a3, hv, hS]; rfl
  · have hs0 : s ≠ 0 := by have := sg_ne h1; omega
    have hs256 : s < 256 := by have := sg_ne h1; omega
    rw [if_neg hs0] at h
    obtain ⟨_, a2, a3, a4⟩ := na_rt (r := b8 s :: b8 v :: r) (by simpa using h) hn
    have e : ahF t (i + 1) false = s := by rw [ah_hd a4, hd_b8 _ hs256]
    have hs : siB t (i + 1) false = true := by unfold siB; rw [e]; exact h1
    have hv : siV t (i + 1) false = s := by unfold siV; rw [if_pos hs, e]
    have hS : siS t (i + 1, false) = (i + 1 + 1, false) := by unfold siS siI; simp only; rw [if_pos hs]
    obtain ⟨b1, b2, b3⟩ := ve_rt (dr1 a4) h2
    have hz : (s == 0) = false := by simpa using hs0
    refine ⟨?_, i + 1 + 1 + 1, ?_, b3⟩
    · unfold cnV; simp only [a2, a3, hv, hS, b1, hz]; rfl
    · unfold cnS; simp only [a3, hv, hS, b2, hz]; rfl
theorem q44 (r : List UInt8) : sgB (hdN (44 :: r)) = false ∧ hdN (44 :: r) ≠ 124 := by
  show sgB ((44 : UInt8).toNat : Nat) = false ∧ (44 : UInt8).toNat ≠ 124
  decide
theorem q58 (r : List UInt8) : sgB (hdN (58 :: r)) = false ∧ hdN (58 :: r) ≠ 44 ∧ hdN (58 :: r) ≠ 124 ∧ nmB (hdN (58 :: r)) = false := by
  show sgB ((58 : UInt8).toNat : Nat) = false ∧ (58 : UInt8).toNat ≠ 44 ∧ (58 : UInt8).toNat ≠ 124 ∧ nmB ((58 : UInt8).toNat : Nat) = false
  decide
theorem q47 (r : List UInt8) : sgB (hdN (47 :: r)) = false ∧ hdN (47 :: r) ≠ 44 ∧ nmB (hdN (47 :: r)) = false := by
  show sgB ((47 : UInt8).toNat : Nat) = false ∧ (47 : UInt8).toNat ≠ 44 ∧ nmB ((47 : UInt8).toNat : Nat) = false
  decide
theorem cnT_ge1 (c : Cn) : 1 ≤ (cnT c).length := by unfold cnT; split <;> simp
theorem joinT_len {x : UInt8} : ∀ (l : List (List UInt8)), (∀ a ∈ l, 1 ≤ a.length) → l.length ≤ (joinT x l).length
  | [], _ => by simp
  | [a], h => by have := h a (by simp); simpa [joinT] using this
  | a :: b :: l, h => by
    rw [joinT_cons (by simp)]
    have := joinT_len (x := x) (b :: l) (fun y hy => h y (by simp [hy]))
    simp at this ⊢
    omega

/-- Constraints with x between. -/
theorem ap_rt {t : List UInt8} {x : Nat} (hx : x < 256) (hx0 : x ≠ 0) (hxs : sgB x = false) {r : List UInt8} (hr : sgB (hdN r) = false) (hrx : hdN r ≠ x) :
    ∀ (l : List Cn) (f i : Nat), l ≠ [] → (∀ c ∈ l, CnOk c) → t.drop i = joinT (b8 x) (l.map cnT) ++ r → l.length ≤ f → ∃ j, apF t x f (i, false) = (l, (j, false)) ∧ t.drop j = r
  | [], f, i, h, _, _, _ => absurd rfl h
  | [c], 0, i, _, _, _, hf => by simp at hf
  | [c], f + 1, i, _, hc, h, _ => by
    obtain ⟨e1, j, e2, e3⟩ := cn_rt (hc c (by simp)) (by simpa [joinT] using h) hr
    obtain ⟨b1, b2⟩ := ac_rt0 e3 hrx
    refine ⟨j, ?_, e3⟩
    rw [apF_no (by rw [e2]; exact b1), e1, e2, b2]
  | c :: d :: l, 0, i, _, _, _, hf => by simp at hf
  | c :: d :: l, f + 1, i, _, hc, h, hf => by
    rw [List.map_cons, List.map_cons, joinT_cons (by simp), ← List.map_cons] at h
    obtain ⟨e1, j, e2, e3⟩ := cn_rt (r := b8 x :: (joinT (b8 x) ((d :: l).map cnT) ++ r)) (hc c (by simp)) (by simpa using h) (by rw [hd_b8 _ hx]; exact hxs)
    obtain ⟨b1, b2, _, b4⟩ := ac_rt e3 hx hx0
    obtain ⟨k, k1, k2⟩ := ap_rt hx hx0 hxs hr hrx (d :: l) f (j + 1) (by simp) (fun y hy => hc y (by simp [hy])) b4 (by simp at hf ⊢; omega)
    refine ⟨k, ?_, k2⟩
    rw [apF_yes (by rw [e2]; exact b1), e1, e2, b2, k1]
theorem cs_len (x : UInt8) (l : List Cn) : l.length ≤ (joinT x (l.map cnT)).length := by
  have := joinT_len (x := x) (l.map cnT) (fun a ha => by obtain ⟨c, _, rfl⟩ := List.mem_map.1 ha; exact cnT_ge1 c)
  simpa using this
theorem apT_rt {t : List UInt8} {x : Nat} (hx : x < 256) (hx0 : x ≠ 0) (hxs : sgB x = false) {r : List UInt8} (hr : sgB (hdN r) = false) (hrx : hdN r ≠ x) {l : List Cn} {i : Nat} (hl : l ≠ []) (hc : ∀ c ∈ l, CnOk c) (h : t.drop i = joinT (b8 x) (l.map cnT) ++ r) : ∃ j, apT t x (i, false) = (l, (j, false)) ∧ t.drop j = r := by
  refine ap_rt hx hx0 hxs hr hrx l _ i hl hc h ?_
  have h1 := dr_len h
  have h2 := cs_len (b8 x) l
  simp at h1
  omega
theorem cn_hd {c : Cn} (hc : CnOk c) (r : List UInt8) : nmB (hdN (cnT c ++ r)) = true := by
  have h256 : c.n < 256 := by have := nm_rng hc.n; omega
  have : hdN (cnT c ++ r) = c.n := by
    unfold cnT
    split <;> exact hd_b8 _ h256
  rw [this]; exact hc.n
theorem join_hd {x : UInt8} {a : List UInt8} {l : List (List UInt8)} (r : List UInt8) : ∃ r', joinT x (a :: l) ++ r = a ++ r' := by
  cases l with
  | nil => exact ⟨r, rfl⟩
  | cons b l => exact ⟨x :: (joinT x (b :: l) ++ r), by rw [joinT_cons (by simp)]; simp⟩
theorem na_of {t : List UInt8} {i : Nat} {r : List UInt8} (h : t.drop i = r) (hn : nmB (hdN r) = true) : naB t i false = true := by unfold naB; rw [ah_hd h]; exact hn

/-- A list of constraints that may be empty. -/
theorem cs_rt {t : List UInt8} {l : List Cn} {i : Nat} {r : List UInt8} (hc : ∀ c ∈ l, CnOk c) (h : t.drop i = lsT l ++ r) (hr : sgB (hdN r) = false) (hrx : hdN r ≠ 44) (hrn : nmB (hdN r) = false) : ∃ j, csF t (i, false) = (l, (j, false)) ∧ t.drop j = r := by
  unfold csF
  cases l with
  | nil =>
    have hd : t.drop i = r := by simpa [lsT, joinT] using h
    refine ⟨i, ?_, hd⟩
    rw [show naB t (i, false).1 (i, false).2 = false from na_rt0 hd hrn]
    rfl
  | cons c l =>
    obtain ⟨r', e⟩ := join_hd (x := 44) (a := cnT c) (l := l.map cnT) r
    have hn : naB t i false = true := na_of h (by unfold lsT; rw [List.map_cons, e]; exact cn_hd (hc c (by simp)) r')
    rw [if_pos (show naB t (i, false).1 (i, false).2 = true from hn)]
    exact apT_rt (by decide) (by decide) (by decide) hr hrx (by simp) hc h

/-- Needs. -/
theorem ndT_len {l : List Cn} (h : NdOk l) : 1 ≤ (ndT l).length := by
  have h1 := cs_len 124 l
  have h2 : l.length ≠ 0 := fun e => h.1 (List.eq_nil_of_length_eq_zero e)
  unfold ndT
  omega
theorem nd_rt {t : List UInt8} {r : List UInt8} (hr : sgB (hdN r) = false) (hrx : hdN r ≠ 44) (hry : hdN r ≠ 124) :
    ∀ (l : List (List Cn)) (f i : Nat), l ≠ [] → (∀ n ∈ l, NdOk n) → t.drop i = nsT l ++ r → l.length < f → ∃ j, ndF t f true (i, false) = (l, (j, false)) ∧ t.drop j = r
  | [], f, i, h, _, _, _ => absurd rfl h
  | n :: l, 0, i, _, _, _, hf => by simp at hf
  | [n], f + 1, i, _, hc, h, _ => by
    have hn := hc n (by simp)
    obtain ⟨j, e1, e2⟩ := apT_rt (x := 124) (by decide) (by decide) (by decide) hr hry hn.1 hn.2 (by show t.drop i = ndT n ++ r; simpa [nsT, joinT] using h)
    obtain ⟨b1, b2⟩ := ac_rt0 e2 hrx
    refine ⟨j, ?_, e2⟩
    rw [ndF_yes, e1]
    simp only
    rw [b1, ndF_no, b2]
  | n :: m :: l, f + 1, i, _, hc, h, hf => by
    have hn := hc n (by simp)
    unfold nsT at h
    rw [List.map_cons, List.map_cons, joinT_cons (by simp), ← List.map_cons] at h
    obtain ⟨j, e1, e2⟩ := apT_rt (x := 124) (r := 44 :: (nsT (m :: l) ++ r)) (by decide) (by decide) (by decide) (q44 _).1 (q44 _).2 hn.1 hn.2 (by show t.drop i = ndT n ++ 44 :: (nsT (m :: l) ++ r); unfold nsT; simpa using h)
    obtain ⟨b1, b2, _, b4⟩ := ac_rt (x := 44) e2 (by decide) (by decide)
    obtain ⟨k, k1, k2⟩ := nd_rt hr hrx hry (m :: l) f (j + 1) (by simp) (fun y hy => hc y (by simp [hy])) b4 (by simp at hf ⊢; omega)
    refine ⟨k, ?_, k2⟩
    rw [ndF_yes, e1]
    simp only
    rw [b1, b2, k1]
theorem ne_rt {t : List UInt8} {l : List (List Cn)} {i : Nat} {r : List UInt8} (hc : ∀ n ∈ l, NdOk n) (h : t.drop i = nsT l ++ r) (hr : sgB (hdN r) = false) (hrx : hdN r ≠ 44) (hry : hdN r ≠ 124) (hrn : nmB (hdN r) = false) : ∃ j, neF t (i, false) = (l, (j, false)) ∧ t.drop j = r := by
  unfold neF
  cases l with
  | nil =>
    have hd : t.drop i = r := by simpa [nsT, joinT] using h
    refine ⟨i, ?_, hd⟩
    rw [show naB t (i, false).1 (i, false).2 = false from na_rt0 hd hrn, ndF_no]
  | cons n l =>
    obtain ⟨hn1, hn2⟩ := hc n (by simp)
    cases n with
    | nil => exact absurd rfl hn1
    | cons c n =>
      obtain ⟨r', e⟩ := join_hd (x := 44) (a := ndT (c :: n)) (l := l.map ndT) r
      obtain ⟨r'', e'⟩ := join_hd (x := 124) (a := cnT c) (l := n.map cnT) r'
      have hn : naB t i false = true := na_of h (by unfold nsT; rw [List.map_cons, e]; unfold ndT; rw [List.map_cons, e']; exact cn_hd (hn2 c (by simp)) r'')
      rw [show naB t (i, false).1 (i, false).2 = true from hn]
      refine nd_rt hr hrx hry _ _ i (by simp) hc h ?_
      have h1 := dr_len h
      have h2 := joinT_len (x := 44) (((c :: n) :: l).map ndT) (fun a ha => by obtain ⟨y, hy, rfl⟩ := List.mem_map.1 ha; exact ndT_len (hc y hy))
      unfold nsT at h1
      simp at h1 h2 ⊢
      omega

/-- Names. -/
theorem ns_rt {t : List UInt8} {r : List UInt8} (hrx : hdN r ≠ 44) :
    ∀ (l : List Nat) (f i : Nat), l ≠ [] → (∀ c ∈ l, nmB (c : Nat) = true) → t.drop i = nmT l ++ r → l.length < f → ∃ j, nsF t f true (i, false) = (l, (j, false)) ∧ t.drop j = r
  | [], f, i, h, _, _, _ => absurd rfl h
  | n :: l, 0, i, _, _, _, hf => by simp at hf
  | [n], f + 1, i, _, hc, h, _ => by
    obtain ⟨_, a2, a3, a4⟩ := na_rt (r := r) (by simpa [nmT, joinT] using h) (hc n (by simp))
    obtain ⟨b1, b2⟩ := ac_rt0 a4 hrx
    refine ⟨i + 1, ?_, a4⟩
    rw [nsF_yes, a3]
    simp only
    rw [b1, nsF_no, b2, a2]
  | n :: m :: l, f + 1, i, _, hc, h, hf => by
    have e : nmT (n :: m :: l) = b8 n :: 44 :: nmT (m :: l) := rfl
    rw [e] at h
    obtain ⟨_, a2, a3, a4⟩ := na_rt (r := 44 :: (nmT (m :: l) ++ r)) h (hc n (by simp))
    obtain ⟨b1, b2, _, b4⟩ := ac_rt (x := 44) a4 (by decide) (by decide)
    obtain ⟨k, k1, k2⟩ := ns_rt hrx (m :: l) f (i + 1 + 1) (by simp) (fun y hy => hc y (by simp [hy])) b4 (by simp at hf ⊢; omega)
    refine ⟨k, ?_, k2⟩
    rw [nsF_yes, a3]
    simp only
    rw [b1, b2, k1, a2]
theorem nms_rt {t : List UInt8} {l : List Nat} {i : Nat} {r : List UInt8} (hc : ∀ c ∈ l, nmB (c : Nat) = true) (h : t.drop i = nmT l ++ r) (hrx : hdN r ≠ 44) (hrn : nmB (hdN r) = false) : ∃ j, nmsF t (i, false) = (l, (j, false)) ∧ t.drop j = r := by
  unfold nmsF
  cases l with
  | nil =>
    have hd : t.drop i = r := by simpa [nmT, joinT] using h
    refine ⟨i, ?_, hd⟩
    rw [show naB t (i, false).1 (i, false).2 = false from na_rt0 hd hrn, nsF_no]
  | cons n l =>
    obtain ⟨r', e⟩ := join_hd (x := 44) (a := [b8 n]) (l := l.map fun c => [b8 c]) r
    have hn : naB t i false = true := na_of h (by
      unfold nmT; rw [List.map_cons, e]
      have := hc n (by simp)
      have h256 : n < 256 := by have := nm_rng this; omega
      show nmB (hdN (b8 n :: r')) = true
      rw [hd_b8 _ h256]; exact this)
    rw [show naB t (i, false).1 (i, false).2 = true from hn]
    refine ns_rt hrx _ _ i (by simp) hc h ?_
    have h1 := dr_len h
    have h2 := joinT_len (x := 44) ((n :: l).map fun c => [b8 c]) (fun a ha => by obtain ⟨y, hy, rfl⟩ := List.mem_map.1 ha; simp)
    unfold nmT at h1
    simp at h1 h2 ⊢
    omega

/-- Marks. -/
theorem mk_rt {t : List UInt8} {m i : Nat} {r : List UInt8} (hm : m ≤ 3) (h : t.drop i = mkT m ++ 58 :: r) : mkV t (i, false) = m ∧ ∃ j, mkS t (i, false) = (j, false) ∧ t.drop j = 58 :: r := by
  rcases (by omega : m = 0 ∨ m = 1 ∨ m = 2 ∨ m = 3) with rfl | rfl | rfl | rfl
  · have hd : t.drop i = 58 :: r := by simpa [mkT] using h
    obtain ⟨a1, a2⟩ := ac_rt0 (x := 43) hd (by decide : (58 : UInt8).toNat ≠ 43)
    refine ⟨by unfold mkV; simp [a1], i, by unfold mkS; simp [a1, a2], hd⟩
  · have hd : t.drop i = b8 43 :: 58 :: r := h
    obtain ⟨a1, a2, _, a4⟩ := ac_rt hd (by decide) (by decide)
    obtain ⟨b1, b2⟩ := ac_rt0 (x := 33) a4 (by decide : (58 : UInt8).toNat ≠ 33)
    obtain ⟨c1, c2⟩ := ac_rt0 (x := 94) a4 (by decide : (58 : UInt8).toNat ≠ 94)
    refine ⟨by unfold mkV; simp [a1, a2, b1, b2, c1], i + 1, by unfold mkS; simp [a1, a2, b1, b2, c2], a4⟩
  · have hd : t.drop i = b8 43 :: b8 33 :: 58 :: r := h
    obtain ⟨a1, a2, _, a4⟩ := ac_rt hd (by decide) (by decide)
    obtain ⟨b1, b2, _, b4⟩ := ac_rt a4 (by decide) (by decide)
    refine ⟨by unfold mkV; simp [a1, a2, b1], i + 1 + 1, by unfold mkS; simp [a1, a2, b1, b2], b4⟩
  · have hd : t.drop i = b8 43 :: b8 94 :: 58 :: r := h
    obtain ⟨a1, a2, _, a4⟩ := ac_rt hd (by decide) (by decide)
    obtain ⟨b1, b2⟩ := ac_rt0 (x := 33) a4 (by decide : (b8 94).toNat ≠ 33)
    obtain ⟨c1, c2, _, c4⟩ := ac_rt a4 (by decide) (by decide)
    refine ⟨by unfold mkV; simp [a1, a2, b1, b2, c1], i + 1 + 1, by unfold mkS; simp [a1, a2, b1, b2, c2], c4⟩

/-- A package. -/
theorem pk_rt {t : List UInt8} {p : Pk} {i : Nat} {r : List UInt8} (hp : PkOk p) (h : t.drop i = pkT p ++ r) : naB t i false = true ∧ pkV t (i, false) = p ∧ ∃ j, p5 t (i, false) = (j, false) ∧ t.drop j = r := by
  obtain ⟨n, v, m, nd, cf, pr⟩ := p
  obtain ⟨hn, hv, hm, hnd, hcf, hpr⟩ := hp
  simp only at hn hv hm hnd hcf hpr
  unfold pkT at h
  simp only at h
  obtain ⟨a1, a2, a3, a4⟩ := na_rt (r := b8 v :: (mkT m ++ 58 :: (nsT nd ++ 58 :: (lsT cf ++ 58 :: (nmT pr ++ 59 :: r))))) (by simpa using h) hn
  obtain ⟨b1, b2, b3⟩ := ve_rt a4 hv
  have E1 : p1 t (i, false) = (i + 1 + 1, false) := by unfold p1; rw [a3, b2]
  obtain ⟨c1, j, c2, c3⟩ := mk_rt hm b3
  obtain ⟨_, _, x1, x2⟩ := ac_rt (x := 58) c3 (by decide) (by decide)
  have E2 : p2 t (i, false) = (j + 1, false) := by unfold p2; rw [E1, c2, x1]
  obtain ⟨j2, d1, d2⟩ := ne_rt (r := 58 :: (lsT cf ++ 58 :: (nmT pr ++ 59 :: r))) hnd x2 (q58 _).1 (q58 _).2.1 (q58 _).2.2.1 (q58 _).2.2.2
  obtain ⟨_, _, x3, x4⟩ := ac_rt (x := 58) d2 (by decide) (by decide)
  have E3 : p3 t (i, false) = (j2 + 1, false) := by unfold p3; rw [E2, d1, x3]
  obtain ⟨j3, e1, e2⟩ := cs_rt (r := 58 :: (nmT pr ++ 59 :: r)) hcf x4 (q58 _).1 (q58 _).2.1 (q58 _).2.2.2
  obtain ⟨_, _, x5, x6⟩ := ac_rt (x := 58) e2 (by decide) (by decide)
  have E4 : p4 t (i, false) = (j3 + 1, false) := by unfold p4; rw [E3, e1, x5]
  obtain ⟨j4, f1, f2⟩ := nms_rt (r := 59 :: r) hpr x6 (by decide : (59 : UInt8).toNat ≠ 44) (by decide : nmB ((59 : UInt8).toNat : Nat) = false)
  obtain ⟨_, _, x7, x8⟩ := ac_rt (x := 59) f2 (by decide) (by decide)
  refine ⟨a1, ?_, j4 + 1, by unfold p5; rw [E4, f1, x7], x8⟩
  unfold pkV
  simp only [a2, a3, b1, E1, c1, E2, d1, E3, e1, E4, f1]
theorem pks_rt {t : List UInt8} {r : List UInt8} (hrn : nmB (hdN r) = false) : ∀ (l : List Pk) (f i : Nat), (∀ p ∈ l, PkOk p) → t.drop i = pksT l ++ r → l.length < f → ∃ j, pksF t f (i, false) = (l, (j, false)) ∧ t.drop j = r
  | l, 0, i, _, _, hf => by simp at hf
  | [], f + 1, i, _, h, _ => by
    have hd : t.drop i = r := by simpa [pksT] using h
    refine ⟨i, ?_, hd⟩
    rw [pksF]
    simp only
    rw [na_rt0 hd hrn]
    rfl
  | p :: l, f + 1, i, hp, h, hf => by
    obtain ⟨a1, a2, j, a3, a4⟩ := pk_rt (r := pksT l ++ r) (hp p (by simp)) (by simpa [pksT] using h)
    obtain ⟨k, k1, k2⟩ := pks_rt hrn l f j (fun q hq => hp q (by simp [hq])) a4 (by simp at hf; omega)
    refine ⟨k, ?_, k2⟩
    rw [pksF]
    simp only
    rw [if_pos a1, a2, a3, k1]
theorem pksT_len : ∀ (l : List Pk), l.length ≤ (pksT l).length
  | [] => by simp
  | p :: l => by
    have := pksT_len l
    have e : pksT (p :: l) = pkT p ++ pksT l := by simp [pksT]
    rw [e]
    unfold pkT
    simp
    omega

/-- The whole document. -/
theorem dc_rt {d : Dc} (h : DcOk d) : dcV (dcT d) = d ∧ dcBad (dcT d) = false := by
  obtain ⟨ps, li, lr, lu⟩ := d
  obtain ⟨hp, hi, hr, hu⟩ := h
  simp only at hp hi hr hu
  generalize ht : dcT { packs := ps, ins := li, rem := lr, upg := lu } = t
  have h0 : t.drop 0 = pksT ps ++ (47 :: (lsT li ++ 47 :: (lsT lr ++ 47 :: lsT lu))) := by rw [← ht]; simp [dcT]
  have hl : ps.length < t.length + 2 := by
    have h1 := dr_len h0
    have h2 := pksT_len ps
    simp at h1
    omega
  obtain ⟨j, a1, a2⟩ := pks_rt (r := 47 :: (lsT li ++ 47 :: (lsT lr ++ 47 :: lsT lu))) (q47 _).2.2 ps (t.length + 2) 0 hp h0 hl
  have E0 : d0 t = (ps, (j, false)) := a1
  obtain ⟨_, _, x1, x2⟩ := ac_rt (x := 47) a2 (by decide) (by decide)
  have E1 : d1 t = (j + 1, false) := by unfold d1; rw [E0, x1]
  obtain ⟨j2, b1, b2⟩ := cs_rt (r := 47 :: (lsT lr ++ 47 :: lsT lu)) hi x2 (q47 _).1 (q47 _).2.1 (q47 _).2.2
  obtain ⟨_, _, x3, x4⟩ := ac_rt (x := 47) b2 (by decide) (by decide)
  have E2 : d2 t = (j2 + 1, false) := by unfold d2; rw [E1, b1, x3]
  obtain ⟨j3, c1, c2⟩ := cs_rt (r := 47 :: lsT lu) hr x4 (q47 _).1 (q47 _).2.1 (q47 _).2.2
  obtain ⟨_, _, x5, x6⟩ := ac_rt (x := 47) c2 (by decide) (by decide)
  have E3 : d3 t = (j3 + 1, false) := by unfold d3; rw [E2, c1, x5]
  obtain ⟨j4, e1, e2⟩ := cs_rt (r := []) hu (by simpa using x6) (by decide) (by decide) (by decide)
  have hj4 : t.length ≤ j4 := List.drop_eq_nil_iff.1 e2
  refine ⟨?_, ?_⟩
  · unfold dcV
    rw [E0, E1, E2, E3, b1, c1, e1]
  · unfold dcBad dcI
    rw [E3, e1]
    simp only
    rw [if_neg (by omega)]

end Go.Proofs.YtenbnmbbfeekpabDoor

/-
  A list in its usual order, as a list: which parts it has, that each comes once, that the order is one alone. Plain mathematics.
-/
namespace Go.Proofs.YtenbnmbbfeekpabDoor

def Ls (a b : List UInt8) : Prop := Op.bytesLess a b = true
theorem ls_irr : ∀ (a : List UInt8), ¬ Ls a a
  | [] => by unfold Ls; simp [Op.bytesLess]
  | x :: a => by
    have := ls_irr a
    unfold Ls at this ⊢
    simp [Op.bytesLess] at this ⊢
    simpa using this
theorem ls_cons (x y : UInt8) (a b : List UInt8) : Ls (x :: a) (y :: b) ↔ x < y ∨ (x = y ∧ Ls a b) := by
  unfold Ls
  simp [Op.bytesLess]
theorem ls_nil (a : List UInt8) : ¬ Ls a [] := by unfold Ls; cases a <;> simp [Op.bytesLess]
theorem ls_of (x : UInt8) (a : List UInt8) : Ls [] (x :: a) := by unfold Ls; simp [Op.bytesLess]
theorem ls_pos {a : List UInt8} (h : a ≠ []) : Ls [] a := by cases a with
  | nil => exact absurd rfl h
  | cons x a => exact ls_of x a
theorem ls_trans : ∀ {a b c : List UInt8}, Ls a b → Ls b c → Ls a c
  | _, [], _, h, _ => absurd h (ls_nil _)
  | _, _ :: _, [], _, h => absurd h (ls_nil _)
  | [], _ :: _, z :: c, _, _ => ls_of z c
  | x :: a, y :: b, z :: c, h1, h2 => by
    rw [ls_cons] at h1 h2 ⊢
    rcases h1 with h1 | ⟨rfl, h1⟩
    · rcases h2 with h2 | ⟨rfl, _⟩
      · exact Or.inl (UInt8.lt_trans h1 h2)
      · exact Or.inl h1
    · rcases h2 with h2 | ⟨rfl, h2⟩
      · exact Or.inl h2
      · exact Or.inr ⟨rfl, ls_trans h1 h2⟩
theorem ls_tri : ∀ (a b : List UInt8), Ls a b ∨ a = b ∨ Ls b a
  | [], [] => Or.inr (Or.inl rfl)
  | [], y :: b => Or.inl (ls_of y b)
  | x :: a, [] => Or.inr (Or.inr (ls_of x a))
  | x :: a, y :: b => by
    rw [ls_cons, ls_cons]
    rcases (by rcases Nat.lt_trichotomy x.toNat y.toNat with h | h | h; exact Or.inl (UInt8.lt_iff_toNat_lt.2 h); exact Or.inr (Or.inl (UInt8.toNat_inj.1 h)); exact Or.inr (Or.inr (UInt8.lt_iff_toNat_lt.2 h)) : x < y ∨ x = y ∨ y < x) with h | h | h
    · exact Or.inl (Or.inl h)
    · subst h
      rcases ls_tri a b with h | h | h
      · exact Or.inl (Or.inr ⟨rfl, h⟩)
      · exact Or.inr (Or.inl (by rw [h]))
      · exact Or.inr (Or.inr (Or.inr ⟨rfl, h⟩))
    · exact Or.inr (Or.inr (Or.inl h))
theorem ls_asym {a b : List UInt8} (h : Ls a b) : ¬ Ls b a := fun g => ls_irr a (ls_trans h g)
theorem gt_ls (a b : List UInt8) : gtB a b = true ↔ Ls b a := by
  unfold gtB
  rw [Bool.not_eq_true', Bool.or_eq_false_iff, beq_eq_false_iff_ne]
  constructor
  · rintro ⟨h1, h2⟩
    rcases ls_tri a b with h | h | h
    · unfold Ls at h; rw [h1] at h; cases h
    · exact absurd h h2
    · exact h
  · intro h
    refine ⟨?_, fun e => ls_irr a (by rw [e] at h ⊢; exact h)⟩
    cases e : Op.bytesLess a b with
    | false => rfl
    | true => exact absurd e (ls_asym h)

/-- What is selected. -/
theorem sel_go (fl : List UInt8) : ∀ (l : List (List UInt8)) (le : List UInt8), (∀ a ∈ l, a ≠ []) → (le = [] ∨ Ls fl le) →
    (l.foldl (selStep fl) le = [] ∧ le = [] ∧ ∀ a ∈ l, ¬ Ls fl a) ∨
    (l.foldl (selStep fl) le ≠ [] ∧ (l.foldl (selStep fl) le = le ∨ l.foldl (selStep fl) le ∈ l) ∧ Ls fl (l.foldl (selStep fl) le) ∧ (∀ a ∈ l, Ls fl a → ¬ Ls a (l.foldl (selStep fl) le)) ∧ (le ≠ [] → ¬ Ls le (l.foldl (selStep fl) le)))
  | [], le, _, h => by
    rw [List.foldl_nil]
    by_cases e : le = []
    · exact Or.inl ⟨e, e, fun a ha => by simp at ha⟩
    · exact Or.inr ⟨e, Or.inl rfl, h.resolve_left e, fun a ha => by simp at ha, fun _ => ls_irr le⟩
  | x :: l, le, hn, h => by
    rw [List.foldl_cons]
    have hx : x ≠ [] := hn x (by simp)
    have hl : ∀ a ∈ l, a ≠ [] := fun a ha => hn a (by simp [ha])
    by_cases hc : Ls fl x ∧ (le = [] ∨ Ls x le)
    · have e : selStep fl le x = x := by
        unfold selStep
        rw [if_pos]
        rw [Bool.and_eq_true, Bool.or_eq_true, gt_ls, List.isEmpty_iff]
        exact hc
      rw [e]
      rcases sel_go fl l x hl (Or.inr hc.1) with ⟨_, h2, _⟩ | ⟨h1, h2, h3, h4, h5⟩
      · exact absurd h2 hx
      · refine Or.inr ⟨h1, Or.inr ?_, h3, fun a ha hfa => ?_, fun hle => ?_⟩
        · rcases h2 with h2 | h2
          · rw [h2]; simp
          · simp [h2]
        · rcases List.mem_cons.1 ha with rfl | ha
          · exact h5 hx
          · exact h4 a ha hfa
        · have hxl := hc.2.resolve_left hle
          intro g
          exact h5 hx (ls_trans hxl g)
    · have e : selStep fl le x = le := by
        unfold selStep
        rw [if_neg]
        rw [Bool.and_eq_true, Bool.or_eq_true, gt_ls, List.isEmpty_iff]
        exact hc
      rw [e]
      rcases sel_go fl l le hl h with ⟨h1, h2, h3⟩ | ⟨h1, h2, h3, h4, h5⟩
      · refine Or.inl ⟨h1, h2, fun a ha => ?_⟩
        rcases List.mem_cons.1 ha with rfl | ha
        · exact fun g => hc ⟨g, Or.inl h2⟩
        · exact h3 a ha
      · refine Or.inr ⟨h1, h2.imp id (fun g => by simp [g]), h3, fun a ha hfa => ?_, h5⟩
        rcases List.mem_cons.1 ha with rfl | ha
        · intro g
          by_cases hle : le = []
          · exact hc ⟨hfa, Or.inl hle⟩
          · rcases ls_tri a le with q | q | q
            · exact hc ⟨hfa, Or.inr q⟩
            · subst q; exact h5 hle g
            · exact h5 hle (ls_trans q g)
        · exact h4 a ha hfa
theorem sel_spec {l : List (List UInt8)} (hn : ∀ a ∈ l, a ≠ []) (fl : List UInt8) :
    (sel l fl = [] ∧ ∀ a ∈ l, ¬ Ls fl a) ∨ (sel l fl ≠ [] ∧ sel l fl ∈ l ∧ Ls fl (sel l fl) ∧ ∀ a ∈ l, Ls fl a → ¬ Ls a (sel l fl)) := by
  rcases sel_go fl l [] hn (Or.inl rfl) with ⟨h1, _, h3⟩ | ⟨h1, h2, h3, h4, _⟩
  · exact Or.inl ⟨h1, h3⟩
  · exact Or.inr ⟨h1, h2.resolve_left h1, h3, h4⟩

def oGo (l : List (List UInt8)) : Nat → List UInt8 → List (List UInt8)
  | 0, _ => []
  | f + 1, last => if (sel l last).isEmpty then [] else sel l last :: oGo l f (sel l last)
/-- The list in its usual order. -/
def usoL (l : List (List UInt8)) : List (List UInt8) := oGo l l.length []
def joinS (s : List UInt8) : List (List UInt8) → List UInt8
  | [] => []
  | a :: r => a ++ r.flatMap (s ++ ·)
theorem ordGo_list (s : List UInt8) (l : List (List UInt8)) : ∀ (f : Nat) (t last : List UInt8), last ≠ [] → ordGo s l f t last = t ++ (oGo l f last).flatMap (s ++ ·)
  | 0, t, last, _ => by simp [ordGo, oGo]
  | f + 1, t, last, h => by
    rw [ordGo, oGo]
    by_cases e : (sel l last).isEmpty = true
    · rw [if_pos e, if_pos e]; simp
    · rw [if_neg e, if_neg e, ordGo_list s l f _ _ (by simpa using e)]
      have : last.isEmpty = false := by simpa using h
      rw [this]
      simp
theorem ordT_list (s : List UInt8) (l : List (List UInt8)) : ordT s l = joinS s (usoL l) := by
  unfold ordT usoL
  cases l.length with
  | zero => rfl
  | succ f =>
    rw [ordGo, oGo]
    by_cases e : (sel l []).isEmpty = true
    · rw [if_pos e, if_pos e]; rfl
    · rw [if_neg e, if_neg e, ordGo_list s l f _ _ (by simpa using e), joinS]
      simp

theorem cnt_lt {α : Type} {p q : α → Bool} (hpq : ∀ a, q a = true → p a = true) : ∀ (l : List α), (∃ x ∈ l, p x = true ∧ q x = false) → l.countP q < l.countP p
  | [], ⟨x, hx, _⟩ => by simp at hx
  | y :: l, ⟨x, hx, h1, h2⟩ => by
    have hle : l.countP q ≤ l.countP p := List.countP_mono_left (fun a _ => hpq a)
    rw [List.countP_cons, List.countP_cons]
    rcases List.mem_cons.1 hx with rfl | hx
    · rw [h1, h2]; simp; omega
    · have := cnt_lt hpq l ⟨x, hx, h1, h2⟩
      have : (if q y = true then 1 else 0) ≤ (if p y = true then 1 else 0) := by
        cases hq : q y with
        | false => simp
        | true => rw [hpq y hq]; simp
      omega
theorem oGo_mem {l : List (List UInt8)} (hn : ∀ a ∈ l, a ≠ []) : ∀ (f : Nat) (last : List UInt8), l.countP (fun a => Op.bytesLess last a) ≤ f → ∀ a, a ∈ oGo l f last ↔ a ∈ l ∧ Ls last a
  | 0, last, hf, a => by
    rw [oGo]
    constructor
    · intro h; simp at h
    · rintro ⟨h1, h2⟩
      have : l.countP (fun a => Op.bytesLess last a) = 0 := by omega
      rw [List.countP_eq_zero] at this
      exact absurd h2 (this a h1)
  | f + 1, last, hf, a => by
    rw [oGo]
    rcases sel_spec hn last with ⟨h1, h2⟩ | ⟨h1, h2, h3, h4⟩
    · rw [h1]
      simp only [List.isEmpty_nil, if_true]
      constructor
      · intro h; simp at h
      · rintro ⟨g1, g2⟩; exact absurd g2 (h2 a g1)
    · have : (sel l last).isEmpty = false := by simpa using h1
      rw [this]
      simp only [Bool.false_eq_true, if_false]
      have hc := cnt_lt (p := fun a => Op.bytesLess last a) (q := fun a => Op.bytesLess (sel l last) a) (fun b hb => ls_trans h3 hb) l ⟨sel l last, h2, h3, by
        have := ls_irr (sel l last); unfold Ls at this; simpa using this⟩
      rw [List.mem_cons, oGo_mem hn f (sel l last) (by omega)]
      constructor
      · rintro (rfl | ⟨g1, g2⟩)
        · exact ⟨h2, h3⟩
        · exact ⟨g1, ls_trans h3 g2⟩
      · rintro ⟨g1, g2⟩
        rcases ls_tri a (sel l last) with q | q | q
        · exact absurd q (h4 a g1 g2)
        · exact Or.inl q
        · exact Or.inr ⟨g1, q⟩
theorem oGo_asc {l : List (List UInt8)} (hn : ∀ a ∈ l, a ≠ []) : ∀ (f : Nat) (last : List UInt8), (∀ a ∈ oGo l f last, Ls last a) ∧ (oGo l f last).Pairwise Ls
  | 0, last => by rw [oGo]; exact ⟨fun a ha => by simp at ha, List.Pairwise.nil⟩
  | f + 1, last => by
    rw [oGo]
    rcases sel_spec hn last with ⟨h1, _⟩ | ⟨h1, _, h3, _⟩
    · rw [h1]; exact ⟨fun a ha => by simp at ha, List.Pairwise.nil⟩
    · have : (sel l last).isEmpty = false := by simpa using h1
      rw [this]
      simp only [Bool.false_eq_true, if_false]
      obtain ⟨i1, i2⟩ := oGo_asc hn f (sel l last)
      refine ⟨fun a ha => ?_, List.Pairwise.cons i1 i2⟩
      rcases List.mem_cons.1 ha with rfl | ha
      · exact h3
      · exact ls_trans h3 (i1 a ha)
theorem usoL_mem {l : List (List UInt8)} (hn : ∀ a ∈ l, a ≠ []) (a : List UInt8) : a ∈ usoL l ↔ a ∈ l := by
  unfold usoL
  rw [oGo_mem hn l.length [] List.countP_le_length]
  exact ⟨fun h => h.1, fun h => ⟨h, ls_pos (hn a h)⟩⟩
theorem usoL_asc {l : List (List UInt8)} (hn : ∀ a ∈ l, a ≠ []) : (usoL l).Pairwise Ls := (oGo_asc hn _ _).2
/-- The order is one alone. -/
theorem asc_uniq : ∀ {a b : List (List UInt8)}, a.Pairwise Ls → b.Pairwise Ls → (∀ x, x ∈ a ↔ x ∈ b) → a = b
  | [], [], _, _, _ => rfl
  | [], y :: b, _, _, h => by have := (h y).2 (by simp); simp at this
  | x :: a, [], _, _, h => by have := (h x).1 (by simp); simp at this
  | x :: a, y :: b, ha, hb, h => by
    obtain ⟨a1, a2⟩ := List.pairwise_cons.1 ha
    obtain ⟨b1, b2⟩ := List.pairwise_cons.1 hb
    have hxy : x = y := by
      rcases List.mem_cons.1 ((h x).1 (by simp)) with e | e
      · exact e
      · rcases List.mem_cons.1 ((h y).2 (by simp)) with e' | e'
        · exact e'.symm
        · exact absurd (b1 x e) (ls_asym (a1 y e'))
    subst hxy
    rw [asc_uniq a2 b2]
    intro z
    constructor
    · intro hz
      rcases List.mem_cons.1 ((h z).1 (by simp [hz])) with e | e
      · subst e; exact absurd (a1 z hz) (ls_irr z)
      · exact e
    · intro hz
      rcases List.mem_cons.1 ((h z).2 (by simp [hz])) with e | e
      · subst e; exact absurd (b1 z hz) (ls_irr z)
      · exact e
theorem usoL_same {l m : List (List UInt8)} (hl : ∀ a ∈ l, a ≠ []) (hm : ∀ a ∈ m, a ≠ []) (h : ∀ x, x ∈ l ↔ x ∈ m) : usoL l = usoL m :=
  asc_uniq (usoL_asc hl) (usoL_asc hm) fun x => by rw [usoL_mem hl, usoL_mem hm]; exact h x
theorem asc_nodup {l : List (List UInt8)} (h : l.Pairwise Ls) : l.Nodup := List.Pairwise.imp (fun {a b} (g : Ls a b) (e : a = b) => ls_irr a (by rw [← e] at g; exact g)) h

/-- Parts of a list, none twice, are no longer than it. -/
theorem sub_sum {α : Type} [DecidableEq α] (g : α → Nat) : ∀ (L l : List α), L.Nodup → (∀ x ∈ L, x ∈ l) → (L.map g).sum ≤ (l.map g).sum ∧ L.length ≤ l.length
  | [], l, _, _ => by simp
  | x :: L, l, hn, hs => by
    obtain ⟨n1, n2⟩ := List.nodup_cons.1 hn
    have hx : x ∈ l := hs x (by simp)
    have hp := List.perm_cons_erase hx
    obtain ⟨i1, i2⟩ := sub_sum g L (l.erase x) n2 (fun y hy => (List.mem_erase_of_ne (fun e => n1 (by rw [← e]; exact hy))).2 (hs y (by simp [hy])))
    have h1 : (l.map g).sum = ((x :: l.erase x).map g).sum := (hp.map g).sum_nat
    have h2 := hp.length_eq
    simp only [List.map_cons, List.sum_cons, List.length_cons] at h1 h2 ⊢
    omega

end Go.Proofs.YtenbnmbbfeekpabDoor

/-
  The document in its usual form, as a document. Plain mathematics.
-/
namespace Go.Proofs.YtenbnmbbfeekpabDoor

def usl {α : Type} (f : α → List UInt8) (l : List α) : List α := (usoL (l.map f)).filterMap fun x => l.find? fun c => f c == x
theorem fm_map {α : Type} (f : α → List UInt8) (l : List α) : ∀ (xs : List (List UInt8)), (∀ x ∈ xs, ∃ c ∈ l, f c = x) → (xs.filterMap fun x => l.find? fun c => f c == x).map f = xs
  | [], _ => rfl
  | x :: xs, h => by
    obtain ⟨c, hc, e⟩ := h x (by simp)
    have hs : (l.find? fun c => f c == x).isSome = true := by rw [List.find?_isSome]; exact ⟨c, hc, by simpa using e⟩
    obtain ⟨d, hd⟩ := Option.isSome_iff_exists.1 hs
    have hfd : f d = x := by have := List.find?_some hd; simpa using this
    rw [List.filterMap_cons, hd]
    simp only [List.map_cons]
    rw [fm_map f l xs (fun y hy => h y (by simp [hy])), hfd]
theorem usl_map {α : Type} {f : α → List UInt8} {l : List α} (hn : ∀ c ∈ l, f c ≠ []) : (usl f l).map f = usoL (l.map f) := by
  have hn' : ∀ a ∈ l.map f, a ≠ [] := fun a ha => by obtain ⟨c, hc, rfl⟩ := List.mem_map.1 ha; exact hn c hc
  refine fm_map f l _ fun x hx => ?_
  rw [usoL_mem hn'] at hx
  exact List.mem_map.1 hx
theorem usl_mem {α : Type} {f : α → List UInt8} {l : List α} {c : α} (h : c ∈ usl f l) : c ∈ l := by
  obtain ⟨x, _, hx⟩ := List.mem_filterMap.1 h
  exact List.mem_of_find?_eq_some hx
theorem usl_has {α : Type} {f : α → List UInt8} {l : List α} (hn : ∀ c ∈ l, f c ≠ []) {c : α} (h : c ∈ l) : ∃ d ∈ usl f l, f d = f c := by
  have hn' : ∀ a ∈ l.map f, a ≠ [] := fun a ha => by obtain ⟨c, hc, rfl⟩ := List.mem_map.1 ha; exact hn c hc
  have : f c ∈ (usl f l).map f := by rw [usl_map hn, usoL_mem hn']; exact List.mem_map_of_mem h
  exact List.mem_map.1 this
theorem usl_iff {α : Type} {f : α → List UInt8} {l : List α} (hn : ∀ c ∈ l, f c ≠ []) (hi : ∀ c ∈ l, ∀ d ∈ l, f c = f d → c = d) {c : α} : c ∈ usl f l ↔ c ∈ l := by
  refine ⟨usl_mem, fun h => ?_⟩
  obtain ⟨d, hd, e⟩ := usl_has hn h
  rw [← hi d (usl_mem hd) c h e]
  exact hd
theorem usl_nodup {α : Type} {f : α → List UInt8} {l : List α} (hn : ∀ c ∈ l, f c ≠ []) : ((usl f l).map f).Nodup := by
  have hn' : ∀ a ∈ l.map f, a ≠ [] := fun a ha => by obtain ⟨c, hc, rfl⟩ := List.mem_map.1 ha; exact hn c hc
  rw [usl_map hn]
  exact asc_nodup (usoL_asc hn')
theorem usl_len {α : Type} {f : α → List UInt8} {l : List α} (hn : ∀ c ∈ l, f c ≠ []) : (usl f l).length ≤ l.length := by
  have hn' : ∀ a ∈ l.map f, a ≠ [] := fun a ha => by obtain ⟨c, hc, rfl⟩ := List.mem_map.1 ha; exact hn c hc
  have h1 := (sub_sum List.length (usoL (l.map f)) (l.map f) (asc_nodup (usoL_asc hn')) (fun x hx => (usoL_mem hn' x).1 hx)).2
  rw [← usl_map hn] at h1
  simpa using h1
theorem usl_nil {α : Type} {f : α → List UInt8} {l : List α} (hn : ∀ c ∈ l, f c ≠ []) (h : l ≠ []) : usl f l ≠ [] := by
  obtain ⟨c, hc⟩ := List.exists_mem_of_ne_nil l h
  obtain ⟨d, hd, _⟩ := usl_has hn hc
  exact List.ne_nil_of_mem hd

theorem joinS_one (x : UInt8) : ∀ (l : List (List UInt8)), joinS [x] l = joinT x l
  | [] => rfl
  | [a] => by simp [joinS, joinT]
  | a :: b :: l => by
    have ih := joinS_one x (b :: l)
    rw [joinT_cons (by simp), ← ih]
    simp [joinS]
theorem joinS_nil (l : List (List UInt8)) : joinS [] l = l.flatten := by
  cases l with
  | nil => rfl
  | cons a l => rw [joinS, List.flatten_cons, List.flatMap_def]; simp
theorem cnT_ne (c : Cn) : cnT c ≠ [] := by unfold cnT; split <;> simp
theorem ord_one {α : Type} {f : α → List UInt8} {l : List α} (x : UInt8) (hn : ∀ c ∈ l, f c ≠ []) : ordT [x] (l.map f) = joinT x ((usl f l).map f) := by
  rw [ordT_list, joinS_one, usl_map hn]
theorem ndS_T (n : List Cn) : ndS n = ndT (usl cnT n) := by
  unfold ndS ndT
  exact ord_one 124 fun c _ => cnT_ne c
theorem ls_T (l : List Cn) : ordT [44] (l.map cnT) = lsT (usl cnT l) := by
  unfold lsT
  exact ord_one 44 fun c _ => cnT_ne c
theorem nm_T (l : List Nat) : ordT [44] (l.map fun c => [b8 c]) = nmT (usl (fun c => [b8 c]) l) := by
  unfold nmT
  exact ord_one 44 fun c _ => by simp
theorem ndT_ne {n : List Cn} (h : n ≠ []) : ndT n ≠ [] := by
  intro e
  have h1 := cs_len 124 n
  have : (joinT 124 (n.map cnT)).length = 0 := by show (ndT n).length = 0; rw [e]; rfl
  have h2 : n.length ≠ 0 := fun e => h (List.eq_nil_of_length_eq_zero e)
  omega
theorem ndS_ne {n : List Cn} (h : n ≠ []) : ndS n ≠ [] := by
  rw [ndS_T]
  exact ndT_ne (usl_nil (fun c _ => cnT_ne c) h)
def uN (l : List (List Cn)) : List (List Cn) := (usl ndS l).map (usl cnT)
theorem ns_T {l : List (List Cn)} (h : ∀ n ∈ l, NdOk n) : ordT [44] (l.map ndS) = nsT (uN l) := by
  rw [ord_one 44 (fun n hn => ndS_ne (h n hn).1)]
  unfold nsT uN
  rw [List.map_map]
  congr 1
  refine List.map_congr_left fun n _ => ?_
  exact ndS_T n
def uP (p : Pk) : Pk := { n := p.n, v := p.v, m := p.m, needs := uN p.needs, conf := usl cnT p.conf, prov := usl (fun c => [b8 c]) p.prov }
theorem pk_T {p : Pk} (h : PkOk p) : pkS p = pkT (uP p) := by
  unfold pkS pkS0 pkT uP
  simp only
  rw [ns_T h.needs, ls_T, nm_T]
  simp
theorem pkS_ne (p : Pk) : pkS p ≠ [] := by unfold pkS pkS0; simp
def uD (d : Dc) : Dc := { packs := (usl pkS d.packs).map uP, ins := usl cnT d.ins, rem := usl cnT d.rem, upg := usl cnT d.upg }
theorem dc_T {d : Dc} (h : DcOk d) : dcS d = dcT (uD d) := by
  unfold dcS dcT uD
  simp only
  rw [ls_T, ls_T, ls_T, ordT_list, joinS_nil, ← usl_map (fun p _ => pkS_ne p)]
  have : ((usl pkS d.packs).map pkS).flatten = pksT ((usl pkS d.packs).map uP) := by
    unfold pksT
    rw [List.flatMap_def, List.map_map]
    congr 1
    exact List.map_congr_left fun p hp => pk_T (h.packs p (usl_mem hp))
  rw [this]
  simp
theorem nd_uok {n : List Cn} (h : NdOk n) : NdOk (usl cnT n) := ⟨usl_nil (fun c _ => cnT_ne c) h.1, fun c hc => h.2 c (usl_mem hc)⟩
theorem pk_uok {p : Pk} (h : PkOk p) : PkOk (uP p) where
  n := h.n
  v := h.v
  m := h.m
  needs := fun l hl => by
    obtain ⟨n, hn, rfl⟩ := List.mem_map.1 hl
    exact nd_uok (h.needs n (usl_mem hn))
  conf := fun c hc => h.conf c (usl_mem hc)
  prov := fun c hc => h.prov c (usl_mem hc)
theorem dc_uok {d : Dc} (h : DcOk d) : DcOk (uD d) where
  packs := fun p hp => by
    obtain ⟨q, hq, rfl⟩ := List.mem_map.1 hp
    exact pk_uok (h.packs q (usl_mem hq))
  ins := fun c hc => h.ins c (usl_mem hc)
  rem := fun c hc => h.rem c (usl_mem hc)
  upg := fun c hc => h.upg c (usl_mem hc)

/-- No longer than it was. -/
theorem joinT_sum (x : UInt8) : ∀ (l : List (List UInt8)), (joinT x l).length = (l.map List.length).sum + (l.length - 1)
  | [] => rfl
  | [a] => by simp [joinT]
  | a :: b :: l => by
    rw [joinT_cons (by simp), List.length_append, List.length_cons, joinT_sum x (b :: l)]
    simp
    omega
theorem join_le {α : Type} {f g : α → List UInt8} {l : List α} (x : UInt8) (hn : ∀ c ∈ l, f c ≠ []) (hg : ∀ c ∈ l, (f c).length ≤ (g c).length) : (joinT x ((usl f l).map f)).length ≤ (joinT x (l.map g)).length := by
  have hn' : ∀ a ∈ l.map f, a ≠ [] := fun a ha => by obtain ⟨c, hc, rfl⟩ := List.mem_map.1 ha; exact hn c hc
  obtain ⟨h1, h2⟩ := sub_sum List.length (usoL (l.map f)) (l.map f) (asc_nodup (usoL_asc hn')) (fun y hy => (usoL_mem hn' y).1 hy)
  rw [joinT_sum, joinT_sum, usl_map hn]
  have h3 : ((l.map f).map List.length).sum ≤ ((l.map g).map List.length).sum := by
    clear h1 h2 hn hn'
    induction l with
    | nil => simp
    | cons c l ih =>
      have := ih (fun d hd => hg d (by simp [hd]))
      have := hg c (by simp)
      simp at *
      omega
  simp only [List.length_map] at h2 ⊢
  omega
theorem ndS_le (n : List Cn) : (ndS n).length ≤ (ndT n).length := by
  rw [ndS_T]
  exact join_le (f := cnT) (g := cnT) 124 (fun c _ => cnT_ne c) (fun c _ => Nat.le_refl _)
theorem pkS_le {p : Pk} (h : PkOk p) : (pkS p).length ≤ (pkT p).length := by
  have e1 : (ordT [44] (p.needs.map ndS)).length ≤ (nsT p.needs).length := by
    rw [ord_one 44 (fun n hn => ndS_ne (h.needs n hn).1)]
    exact join_le (f := ndS) (g := ndT) 44 (fun n hn => ndS_ne (h.needs n hn).1) (fun n _ => ndS_le n)
  have e2 : (ordT [44] (p.conf.map cnT)).length ≤ (lsT p.conf).length := by
    rw [ord_one 44 (fun c _ => cnT_ne c)]
    exact join_le (f := cnT) (g := cnT) 44 (fun c _ => cnT_ne c) (fun c _ => Nat.le_refl _)
  have e3 : (ordT [44] (p.prov.map fun c => [b8 c])).length ≤ (nmT p.prov).length := by
    rw [ord_one 44 (fun c _ => by simp)]
    exact join_le (f := fun c => [b8 c]) (g := fun c => [b8 c]) 44 (fun c _ => by simp) (fun c _ => Nat.le_refl _)
  unfold pkS pkS0 pkT
  simp only [List.length_append, List.length_cons, List.length_nil]
  omega
theorem ls_le (l : List Cn) : (ordT [44] (l.map cnT)).length ≤ (lsT l).length := by
  rw [ord_one 44 (fun c _ => cnT_ne c)]
  exact join_le (f := cnT) (g := cnT) 44 (fun c _ => cnT_ne c) (fun c _ => Nat.le_refl _)
theorem dcS_le {d : Dc} (h : DcOk d) : (dcS d).length ≤ (dcT d).length := by
  have e1 : (ordT [] (d.packs.map pkS)).length ≤ (pksT d.packs).length := by
    have hn' : ∀ a ∈ d.packs.map pkS, a ≠ [] := fun a ha => by obtain ⟨c, _, rfl⟩ := List.mem_map.1 ha; exact pkS_ne c
    obtain ⟨h1, _⟩ := sub_sum List.length (usoL (d.packs.map pkS)) (d.packs.map pkS) (asc_nodup (usoL_asc hn')) (fun y hy => (usoL_mem hn' y).1 hy)
    rw [ordT_list, joinS_nil, List.length_flatten]
    refine Nat.le_trans h1 ?_
    have hok := h.packs
    generalize d.packs = ps at hok
    clear h1 hn' h
    induction ps with
    | nil => simp
    | cons p ps ih =>
      have := ih (fun q hq => hok q (by simp [hq]))
      have := pkS_le (hok p (by simp))
      simp [pksT] at *
      omega
  have e2 := ls_le d.ins
  have e3 := ls_le d.rem
  have e4 := ls_le d.upg
  unfold dcS dcT
  simp only [List.length_append, List.length_cons, List.length_nil]
  omega

/-- None twice. -/
theorem ft_all {ps : List Pk} : ∀ (f k : Nat), ps.length < f + k → k ≤ ps.length → (∀ i (h : i < ps.length), k ≤ i → amB (ps.take i) ps[i].n ps[i].v = false) → ps.length ≤ ftF ps f k
  | 0, k, hf, hk, _ => by omega
  | f + 1, k, hf, hk, h => by
    rw [ftF]
    rcases Nat.lt_or_ge k ps.length with g | g
    · rw [List.getElem?_eq_getElem g]
      simp only
      rw [h k g (Nat.le_refl _)]
      exact ft_all f (k + 1) (by omega) (by omega) (fun i hi hki => h i hi (by omega))
    · rw [List.getElem?_eq_none g]
      exact g
theorem ft_of {ps : List Pk} (h : (ps.map fun p => (p.n, p.v)).Nodup) : ¬ ftT ps < ps.length := by
  unfold ftT
  have := ft_all (ps := ps) (ps.length + 1) 0 (by omega) (by omega) (fun i hi _ => by
    unfold amB
    rw [List.any_eq_false]
    intro p hp e
    obtain ⟨j, hj, rfl⟩ := List.mem_iff_getElem.1 hp
    rw [List.length_take] at hj
    rw [List.getElem_take] at e
    simp at e
    have hne := List.pairwise_iff_getElem.1 h j i (by simp; omega) (by simpa using hi) (by omega)
    apply hne
    simp [e.1, e.2])
  omega
theorem ft_keys {ps : List Pk} (h : ¬ ftT ps < ps.length) : (ps.map fun p => (p.n, p.v)).Nodup := by
  have hnd := ft_nodup h
  rw [List.Nodup, List.pairwise_map]
  refine List.Pairwise.imp_of_mem (fun {p q} hp hq hne e => hne ?_) hnd
  injection e with e1 e2
  exact ft_apart h hp hq e1 e2
theorem us_keys {ps : List Pk} (h : ¬ ftT ps < ps.length) : ¬ ftT ((usl pkS ps).map uP) < ((usl pkS ps).map uP).length := by
  apply ft_of
  rw [List.map_map]
  have hn := usl_nodup (f := pkS) (l := ps) (fun p _ => pkS_ne p)
  rw [List.Nodup, List.pairwise_map] at hn ⊢
  refine List.Pairwise.imp_of_mem (fun {p q} hp hq hne e => hne ?_) hn
  have e' : (p.n, p.v) = (q.n, q.v) := e
  injection e' with e1 e2
  rw [ft_apart h (usl_mem hp) (usl_mem hq) e1 e2]

/-- The usual form is a document, and it is shown as itself. -/
theorem shown_ok {t : List UInt8} (h : rdE t = 0) : rdE (shT t) = 0 ∧ rdP (shT t) = 0 ∧ dcV (shT t) = uD (dcV t) := by
  obtain ⟨r1, r2, r3, r4, r5⟩ := rd_ok h
  have e : shT t = dcT (uD (dcV t)) := by unfold shT; rw [if_pos h, dc_T r2]
  obtain ⟨q1, q2⟩ := dc_rt (dc_uok r2)
  have hl : (dcT (uD (dcV t))).length ≤ 800 := by
    rw [← dc_T r2]
    have := dcS_le r2
    rw [← r1] at this
    omega
  rw [e]
  have hp : (uD (dcV t)).packs.length ≤ 20 := by
    have := usl_len (f := pkS) (l := (dcV t).packs) (fun p _ => pkS_ne p)
    show ((usl pkS (dcV t).packs).map uP).length ≤ 20
    rw [List.length_map]
    omega
  obtain ⟨a1, a2⟩ := rd_0 (t := dcT (uD (dcV t))) (by omega) q2 (by rw [q1]; omega) (by rw [q1]; exact us_keys r5)
  exact ⟨a1, a2, q1⟩

end Go.Proofs.YtenbnmbbfeekpabDoor

/-
  In the usual form every pick breaks the same rule and has the same numbers. Plain mathematics.
-/
namespace Go.Proofs.YtenbnmbbfeekpabDoor

theorem any_same {α : Type} {l m : List α} {f g : α → Bool} (h : ∀ x, x ∈ l ↔ x ∈ m) (hf : ∀ x ∈ m, f x = g x) : l.any f = m.any g := by
  rw [Bool.eq_iff_iff, List.any_eq_true, List.any_eq_true]
  constructor
  · rintro ⟨x, h1, h2⟩
    have := (h x).1 h1
    exact ⟨x, this, by rw [← hf x this]; exact h2⟩
  · rintro ⟨x, h1, h2⟩
    exact ⟨x, (h x).2 h1, by rw [hf x h1]; exact h2⟩
theorem all_same {α : Type} {l m : List α} {f g : α → Bool} (h : ∀ x, x ∈ l ↔ x ∈ m) (hf : ∀ x ∈ m, f x = g x) : l.all f = m.all g := by
  rw [Bool.eq_iff_iff, List.all_eq_true, List.all_eq_true]
  constructor
  · intro q x hx
    rw [← hf x hx]
    exact q x ((h x).2 hx)
  · intro q x hx
    have := (h x).1 hx
    rw [hf x this]
    exact q x this
/-- The same packages, in another order, each told in another way. -/
structure Eqp (u : Pk → Pk) (ps qs : List Pk) : Prop where
  perm : qs.Perm (ps.map u)
  n : ∀ p ∈ ps, (u p).n = p.n
  v : ∀ p ∈ ps, (u p).v = p.v
  m : ∀ p ∈ ps, (u p).m = p.m
  fit : ∀ p ∈ ps, ∀ c, fitB (u p) c = fitB p c
theorem Eqp.any {u : Pk → Pk} {ps qs : List Pk} (h : Eqp u ps qs) {f g : Pk → Bool} (hf : ∀ p ∈ ps, f (u p) = g p) : qs.any f = ps.any g := by
  rw [Bool.eq_iff_iff, List.any_eq_true, List.any_eq_true]
  constructor
  · rintro ⟨x, h1, h2⟩
    obtain ⟨p, hp, rfl⟩ := List.mem_map.1 (h.perm.mem_iff.1 h1)
    exact ⟨p, hp, by rw [← hf p hp]; exact h2⟩
  · rintro ⟨p, h1, h2⟩
    exact ⟨u p, h.perm.mem_iff.2 (List.mem_map_of_mem h1), by rw [hf p h1]; exact h2⟩
theorem Eqp.all {u : Pk → Pk} {ps qs : List Pk} (h : Eqp u ps qs) {f g : Pk → Bool} (hf : ∀ p ∈ ps, f (u p) = g p) : qs.all f = ps.all g := by
  rw [Bool.eq_iff_iff, List.all_eq_true, List.all_eq_true]
  constructor
  · intro q p hp
    rw [← hf p hp]
    exact q _ (h.perm.mem_iff.2 (List.mem_map_of_mem hp))
  · intro q x hx
    obtain ⟨p, hp, rfl⟩ := List.mem_map.1 (h.perm.mem_iff.1 hx)
    rw [hf p hp]
    exact q p hp
theorem Eqp.I {u : Pk → Pk} {ps qs : List Pk} (h : Eqp u ps qs) {p : Pk} (hp : p ∈ ps) : pkI (u p) = pkI p := by unfold pkI; rw [h.n p hp, h.v p hp]
theorem Eqp.fitted {u : Pk → Pk} {ps qs : List Pk} (h : Eqp u ps qs) (P : List UInt8) (c : Cn) (but : List UInt8) : fittedB qs P c but = fittedB ps P c but := by
  unfold fittedB
  exact h.any fun p hp => by rw [h.I hp, h.fit p hp]
theorem filter_len {u : Pk → Pk} {f g : Pk → Bool} : ∀ (ps : List Pk), (∀ p ∈ ps, f (u p) = g p) → ((ps.map u).filter f).length = (ps.filter g).length
  | [], _ => rfl
  | p :: ps, h => by
    have ih := filter_len ps (fun q hq => h q (by simp [hq]))
    rw [List.map_cons, List.filter_cons, List.filter_cons, h p (by simp)]
    cases g p with
    | true => simp only [if_true, List.length_cons, ih]
    | false => simpa using ih
theorem Eqp.pick {u : Pk → Pk} {ps qs : List Pk} (h : Eqp u ps qs) (P : List UInt8) : pickB qs P = pickB ps P := by
  have h1 : inN qs P = inN ps P := by
    unfold inN
    rw [(h.perm.filter _).length_eq]
    exact filter_len ps fun p hp => by rw [h.I hp]
  have h2 : qs.length = ps.length := by rw [h.perm.length_eq, List.length_map]
  unfold pickB
  rw [h1, h2]
theorem const_perm {l m : List UInt8} {a : UInt8} (h : l.Perm m) (hl : ∀ x ∈ l, x = a) : l = m := by
  have e1 := List.eq_replicate_of_mem hl
  have e2 := List.eq_replicate_of_mem (l := m) (a := a) (fun x hx => hl x (h.mem_iff.2 hx))
  rw [e1, e2, h.length_eq]
theorem filter_map_u {u : Pk → Pk} {f g : Pk → Bool} {k : Pk → UInt8} : ∀ (ps : List Pk), (∀ p ∈ ps, f (u p) = g p ∧ k (u p) = k p) → ((ps.map u).filter f).map k = (ps.filter g).map k
  | [], _ => rfl
  | p :: ps, h => by
    have ih := filter_map_u ps (fun q hq => h q (by simp [hq]))
    obtain ⟨h1, h2⟩ := h p (by simp)
    rw [List.map_cons, List.filter_cons, List.filter_cons, h1]
    cases g p with
    | true => simp only [if_true, List.map_cons, h2, ih]
    | false => simpa using ih
theorem Eqp.vIn {u : Pk → Pk} {ps qs : List Pk} (h : Eqp u ps qs) (P N : List UInt8) (now : Bool) (v : Nat) : vIn qs P N now v = vIn ps P N now v := by
  unfold Proofs.YtenbnmbbfeekpabDoor.vIn
  rw [← filter_map_u (u := u) (f := vHas P N now v) ps (fun p hp => ⟨by unfold vHas vA; rw [h.I hp, h.n p hp, h.v p hp, h.m p hp], by rw [h.v p hp]⟩)]
  refine const_perm (a := b8 v) ((h.perm.filter _).map _) fun x hx => ?_
  obtain ⟨p, hp, rfl⟩ := List.mem_map.1 hx
  have := (List.mem_filter.1 hp).2
  unfold vHas at this
  rw [Bool.and_eq_true, beq_iff_eq] at this
  rw [this.2]
theorem Eqp.vers {u : Pk → Pk} {ps qs : List Pk} (h : Eqp u ps qs) (P N : List UInt8) (now : Bool) : versT qs P N now = versT ps P N now := by
  unfold versT
  generalize 9 = k
  induction k with
  | zero => rfl
  | succ k ih => rw [Proofs.YtenbnmbbfeekpabDoor.vers, Proofs.YtenbnmbbfeekpabDoor.vers, ih, h.vIn]
theorem gre_comm (N : List UInt8) (g : List UInt8) (p q : Pk) : gStep N (gStep N g p) q = gStep N (gStep N g q) p := by
  unfold gStep
  cases hp : ([b8 p.n] == N) <;> cases hq : ([b8 q.n] == N)
  · simp
  · simp
  · simp
  · simp only [Bool.true_and]
    by_cases h1 : gtB [b8 p.v] g = true <;> by_cases h2 : gtB [b8 q.v] g = true
    · simp only [h1, h2, if_true]
      by_cases h3 : gtB [b8 q.v] [b8 p.v] = true
      · have h4 : ¬ gtB [b8 p.v] [b8 q.v] = true := by rw [gt_ls] at h3 ⊢; exact ls_asym h3
        simp only [h3, if_true, h4, Bool.false_eq_true, if_false]
      · by_cases h4 : gtB [b8 p.v] [b8 q.v] = true
        · simp only [h3, h4, if_true, Bool.false_eq_true, if_false]
        · simp only [h3, h4, Bool.false_eq_true, if_false]
          rw [gt_ls] at h3 h4
          rcases ls_tri [b8 p.v] [b8 q.v] with g | g | g
          · exact absurd g h3
          · exact g
          · exact absurd g h4
    · have h4 : ¬ gtB [b8 q.v] [b8 p.v] = true := by
        rw [gt_ls] at h1 h2 ⊢
        exact fun g => h2 (ls_trans h1 g)
      simp only [h1, h2, h4, if_true, Bool.false_eq_true, if_false]
    · have h4 : ¬ gtB [b8 p.v] [b8 q.v] = true := by
        rw [gt_ls] at h1 h2 ⊢
        exact fun g => h1 (ls_trans h2 g)
      simp only [h1, h2, h4, if_true, Bool.false_eq_true, if_false]
    · simp only [h1, h2, Bool.false_eq_true, if_false]
theorem gre_perm (N : List UInt8) {l m : List Pk} (h : l.Perm m) : ∀ g, l.foldl (gStep N) g = m.foldl (gStep N) g := by
  induction h with
  | nil => intro g; rfl
  | cons x _ ih => intro g; rw [List.foldl_cons, List.foldl_cons, ih]
  | swap x y l => intro g; rw [List.foldl_cons, List.foldl_cons, List.foldl_cons, List.foldl_cons, gre_comm]
  | trans _ _ ih1 ih2 => intro g; rw [ih1, ih2]
theorem gre_map (u : Pk → Pk) (N : List UInt8) : ∀ (ps : List Pk) (g : List UInt8), (∀ p ∈ ps, (u p).n = p.n ∧ (u p).v = p.v) → (ps.map u).foldl (gStep N) g = ps.foldl (gStep N) g
  | [], _, _ => rfl
  | p :: ps, g, h => by
    obtain ⟨h1, h2⟩ := h p (by simp)
    have : gStep N g (u p) = gStep N g p := by unfold gStep; rw [h1, h2]
    rw [List.map_cons, List.foldl_cons, List.foldl_cons, this, gre_map u N ps _ (fun q hq => h q (by simp [hq]))]
theorem Eqp.gre {u : Pk → Pk} {ps qs : List Pk} (h : Eqp u ps qs) (N : List UInt8) : greT qs N = greT ps N := by
  unfold greT
  rw [gre_perm N h.perm, gre_map u N ps _ (fun p hp => ⟨h.n p hp, h.v p hp⟩)]
theorem Eqp.num {u : Pk → Pk} {ps qs : List Pk} (h : Eqp u ps qs) (P : List UInt8) (c : Nat) : numT qs P c = numT ps P c := by
  unfold numT
  generalize 26 = k
  induction k with
  | zero => rfl
  | succ k ih =>
    rw [numA, numA, ih]
    unfold num1 cntB
    rw [h.gre, h.vers, h.vers]
theorem Eqp.sc {u : Pk → Pk} {ps qs : List Pk} (h : Eqp u ps qs) (P C : List UInt8) : ∀ k, scA qs P C k = scA ps P C k
  | 0 => rfl
  | k + 1 => by rw [scA, scA, h.sc P C k, h.num]
theorem Eqp.bt {u : Pk → Pk} {ps qs : List Pk} (h : Eqp u ps qs) (A B : List UInt8) : ∀ (n : Nat) (C : List UInt8), C.length ≤ n → btF qs A B C = btF ps A B C
  | _, [], _ => rfl
  | _, [_], _ => rfl
  | 0, _ :: _ :: _, hn => by simp at hn
  | n + 1, a :: b :: r, hn => by
    rw [btF, btF, h.num, h.num, h.bt A B n r (by simp at hn; omega)]
theorem fu_any {ps : List Pk} (ha : Ap ps) (I : List UInt8) (c : Cn) : ∀ (l : List Pk), (∀ p ∈ l, p ∈ ps) → fu I c l = l.any fun p => ([b8 p.n, b8 p.v] == I) && fitB p c
  | [], _ => rfl
  | p :: l, h => by
    rw [fu, List.any_cons, ← fu_any ha I c l (fun q hq => h q (by simp [hq]))]
    by_cases e : ([b8 p.n, b8 p.v] == I) = true
    · rw [if_pos e, e, Bool.true_and]
      cases hf : fitB p c with
      | true => rfl
      | false =>
        rw [Bool.false_or, fu_any ha I c l (fun q hq => h q (by simp [hq]))]
        symm
        rw [List.any_eq_false]
        intro q hq g
        rw [Bool.and_eq_true] at g
        have e1 : [b8 p.n, b8 p.v] = [b8 q.n, b8 q.v] := (beq_iff_eq.1 e).trans (beq_iff_eq.1 g.1).symm
        injection e1 with e1 e2
        injection e2 with e2 _
        have hp := h p (by simp)
        have hq' := h q (by simp [hq])
        have h1 := nm_rng (ha.ok p hp).n
        have h2 := nm_rng (ha.ok q hq').n
        have h3 := vr_rng (ha.ok p hp).v
        have h4 := vr_rng (ha.ok q hq').v
        have : p = q := ha.ap p hp q hq' (b8_inj (by omega) (by omega) e1) (b8_inj (by omega) (by omega) e2)
        rw [← this, hf] at g
        cases g.2
    · rw [if_neg e]
      have : ([b8 p.n, b8 p.v] == I) = false := by simpa using e
      rw [this]
      rfl
theorem Eqp.fu {u : Pk → Pk} {ps qs : List Pk} (h : Eqp u ps qs) (ha : Ap ps) (hb : Ap qs) (I : List UInt8) (c : Cn) : fu I c qs = fu I c ps := by
  rw [fu_any ha I c ps (fun p hp => hp), fu_any hb I c qs (fun p hp => hp)]
  exact h.any fun p hp => by rw [h.n p hp, h.v p hp, h.fit p hp]
theorem Eqp.upg {u : Pk → Pk} {ps qs : List Pk} (h : Eqp u ps qs) (ha : Ap ps) (hb : Ap qs) (P : List UInt8) (c : Cn) : upgB qs P c = upgB ps P c := by
  unfold upgB upgV
  rw [h.vers, h.vers, h.fu ha hb]
theorem Eqp.stays {u : Pk → Pk} {ps qs : List Pk} (h : Eqp u ps qs) (P : List UInt8) : staysB qs P = staysB ps P := by
  unfold staysB
  exact h.all fun p hp => by unfold stay1; rw [h.n p hp, h.v p hp, h.m p hp, h.vers]

/-- A constraint, needs: their texts tell them. -/
theorem cnT_inj {c d : Cn} (hc : CnOk c) (hd : CnOk d) (h : cnT c = cnT d) : c = d := by
  have e1 := (cn_rt (t := cnT c) (i := 0) (r := []) hc (by simp) (by decide)).1
  have e2 := (cn_rt (t := cnT c) (i := 0) (r := []) hd (by simp [h]) (by decide)).1
  rw [← e1, e2]
theorem ndT_inj {l m : List Cn} (hl : NdOk l) (hm : NdOk m) (h : ndT l = ndT m) : l = m := by
  obtain ⟨_, e1, _⟩ := apT_rt (t := ndT l) (x := 124) (i := 0) (r := []) (by decide) (by decide) (by decide) (by decide) (by decide) hl.1 hl.2 (by show ndT l = ndT l ++ []; simp)
  obtain ⟨_, e2, _⟩ := apT_rt (t := ndT l) (x := 124) (i := 0) (r := []) (by decide) (by decide) (by decide) (by decide) (by decide) hm.1 hm.2 (by show ndT l = ndT m ++ []; simp [h])
  rw [e1] at e2
  injection e2
theorem us_cn {l : List Cn} (h : ∀ c ∈ l, CnOk c) (c : Cn) : c ∈ usl cnT l ↔ c ∈ l := usl_iff (fun c _ => cnT_ne c) (fun c hc d hd e => cnT_inj (h c hc) (h d hd) e)
theorem us_any {l : List Cn} (h : ∀ c ∈ l, CnOk c) (f : Cn → Bool) : (usl cnT l).any f = l.any f := any_same (us_cn h) fun _ _ => rfl
theorem us_all {l : List Cn} (h : ∀ c ∈ l, CnOk c) (f : Cn → Bool) : (usl cnT l).all f = l.all f := all_same (us_cn h) fun _ _ => rfl
theorem uN_all {l : List (List Cn)} (h : ∀ n ∈ l, NdOk n) (f : Cn → Bool) : (uN l).all (fun n => n.any f) = l.all fun n => n.any f := by
  unfold uN
  rw [List.all_map]
  rw [Bool.eq_iff_iff, List.all_eq_true, List.all_eq_true]
  constructor
  · intro q n hn
    obtain ⟨d, hd, e⟩ := usl_has (f := ndS) (fun m hm => ndS_ne (h m hm).1) hn
    have hd' := usl_mem hd
    have e' : usl cnT d = usl cnT n := ndT_inj (nd_uok (h d hd')) (nd_uok (h n hn)) (by rw [← ndS_T, ← ndS_T]; exact e)
    have := q d hd
    simp only [Function.comp_apply] at this
    rw [e', us_any (h n hn).2] at this
    exact this
  · intro q n hn
    have hn' := usl_mem hn
    simp only [Function.comp_apply]
    rw [us_any (h n hn').2]
    exact q n hn'
theorem fit_u {p : Pk} (h : PkOk p) (c : Cn) : fitB (uP p) c = fitB p c := by
  unfold fitB uP
  simp only
  have : (usl (fun c => [b8 c]) p.prov).any (fun x => x == c.n) = p.prov.any fun x => x == c.n := by
    refine any_same (fun x => usl_iff (fun c _ => by simp) (fun a ha b hb e => ?_)) (fun _ _ => rfl)
    injection e with e _
    have h1 := nm_rng (h.prov a ha)
    have h2 := nm_rng (h.prov b hb)
    exact b8_inj (by omega) (by omega) e
  rw [this]
theorem us_eqp {ps : List Pk} (hok : ∀ p ∈ ps, PkOk p) (h : ¬ ftT ps < ps.length) : Eqp uP ps ((usl pkS ps).map uP) where
  perm := by
    refine List.Perm.map uP ?_
    have hn : (usl pkS ps).Nodup := by
      have := usl_nodup (f := pkS) (l := ps) (fun p _ => pkS_ne p)
      rw [List.Nodup, List.pairwise_map] at this
      exact List.Pairwise.imp (fun {a b} (g : pkS a ≠ pkS b) (e : a = b) => g (by rw [e])) this
    rw [List.perm_ext_iff_of_nodup hn (ft_nodup h)]
    intro p
    refine usl_iff (fun p _ => pkS_ne p) fun p hp q hq e => ?_
    have e' : [b8 p.n, b8 p.v] ++ (mkT p.m ++ ([58] ++ (ordT [44] (p.needs.map ndS) ++ ([58] ++ (ordT [44] (p.conf.map cnT) ++ ([58] ++ (ordT [44] (p.prov.map fun c => [b8 c]) ++ [59]))))))) = [b8 q.n, b8 q.v] ++ (mkT q.m ++ ([58] ++ (ordT [44] (q.needs.map ndS) ++ ([58] ++ (ordT [44] (q.conf.map cnT) ++ ([58] ++ (ordT [44] (q.prov.map fun c => [b8 c]) ++ [59]))))))) := by
      have := e
      unfold pkS pkS0 at this
      simpa using this
    injection e' with e1 e2
    injection e2 with e2 _
    have h1 := nm_rng (hok p hp).n
    have h2 := nm_rng (hok q hq).n
    have h3 := vr_rng (hok p hp).v
    have h4 := vr_rng (hok q hq).v
    exact ft_apart h hp hq (b8_inj (by omega) (by omega) e1) (b8_inj (by omega) (by omega) e2)
  n := fun _ _ => rfl
  v := fun _ _ => rfl
  m := fun _ _ => rfl
  fit := fun p hp c => fit_u (hok p hp) c

/-- The rule. -/
theorem us_rule {d : Dc} (hok : DcOk d) (h : ¬ ftT d.packs < d.packs.length) (P : List UInt8) : ruleN (uD d) P = ruleN d P := by
  have he : Eqp uP d.packs (uD d).packs := us_eqp hok.packs h
  have ha : Ap d.packs := ⟨hok.packs, fun p hp q hq => ft_apart h hp hq, ft_nodup h⟩
  have hb : Ap (uD d).packs := by
    have h' : ¬ ftT (uD d).packs < (uD d).packs.length := us_keys h
    exact ⟨(dc_uok hok).packs, fun p hp q hq => ft_apart h' hp hq, ft_nodup h'⟩
  have q1 : (uD d).packs.all (Proofs.YtenbnmbbfeekpabDoor.r1 (uD d).packs P) = d.packs.all (Proofs.YtenbnmbbfeekpabDoor.r1 d.packs P) := he.all fun p hp => by
    unfold Proofs.YtenbnmbbfeekpabDoor.r1 metB
    have e1 : ∀ n : List Cn, (n.any fun c => fittedB (uD d).packs P c []) = n.any fun c => fittedB d.packs P c [] := fun n => by rw [show (fun c => fittedB (uD d).packs P c []) = fun c => fittedB d.packs P c [] from funext fun c => he.fitted P c []]
    have e2 : (uP p).needs = uN p.needs := rfl
    have e3 : (uN p.needs).all (fun n => n.any fun c => fittedB (uD d).packs P c []) = p.needs.all fun n => n.any fun c => fittedB d.packs P c [] := by
      rw [← uN_all (hok.packs p hp).needs, show (fun n : List Cn => n.any fun c => fittedB (uD d).packs P c []) = fun n => n.any fun c => fittedB d.packs P c [] from funext e1]
    rw [e2, e3]
    rfl
  have q2 : (uD d).packs.all (Proofs.YtenbnmbbfeekpabDoor.r2 (uD d).packs P) = d.packs.all (Proofs.YtenbnmbbfeekpabDoor.r2 d.packs P) := he.all fun p hp => by
    unfold Proofs.YtenbnmbbfeekpabDoor.r2 besideB
    have e2 : (uP p).conf = usl cnT p.conf := rfl
    have e3 : (usl cnT p.conf).all (fun c => !fittedB (uD d).packs P c (pkI (uP p))) = p.conf.all fun c => !fittedB d.packs P c (pkI p) := by
      rw [us_all (hok.packs p hp).conf, show (fun c => !fittedB (uD d).packs P c (pkI (uP p))) = fun c => !fittedB d.packs P c (pkI p) from funext fun c => by rw [he.fitted, he.I hp]]
    rw [e2, e3]
    rfl
  have q3 := he.stays P
  have q4 : (uD d).ins.all (fun c => fittedB (uD d).packs P c []) = d.ins.all fun c => fittedB d.packs P c [] := by
    show (usl cnT d.ins).all _ = _
    rw [us_all hok.ins, show (fun c => fittedB (uD d).packs P c []) = fun c => fittedB d.packs P c [] from funext fun c => he.fitted P c []]
  have q5 : (uD d).rem.all (fun c => !fittedB (uD d).packs P c []) = d.rem.all fun c => !fittedB d.packs P c [] := by
    show (usl cnT d.rem).all _ = _
    rw [us_all hok.rem, show (fun c => !fittedB (uD d).packs P c []) = fun c => !fittedB d.packs P c [] from funext fun c => by rw [he.fitted P c []]]
  have q6 : (uD d).upg.all (fun c => upgB (uD d).packs P c) = d.upg.all fun c => upgB d.packs P c := by
    show (usl cnT d.upg).all _ = _
    rw [us_all hok.upg, show (fun c => upgB (uD d).packs P c) = fun c => upgB d.packs P c from funext fun c => he.upg ha hb P c]
  unfold ruleN
  rw [q1, q2, q3, q4, q5, q6]

/-- The same rule, the same numbers; it is shown as itself. -/
theorem shown_same {t : List UInt8} (h : rdE t = 0) (C P : List UInt8) : uvE (shT t) P = uvE t P ∧ uvR (shT t) P = uvR t P ∧ usE (shT t) C P = usE t C P ∧ usT (shT t) C P = usT t C P := by
  obtain ⟨r1, r2, r3, r4, r5⟩ := rd_ok h
  obtain ⟨s1, s2, s3⟩ := shown_ok h
  have he : Eqp uP (dcV t).packs (uD (dcV t)).packs := us_eqp r2.packs r5
  obtain ⟨v1, v2⟩ := valid_same t P
  obtain ⟨w1, w2⟩ := valid_same (shT t) P
  obtain ⟨x1, x2⟩ := score_same t C P
  obtain ⟨y1, y2⟩ := score_same (shT t) C P
  rw [v1, v2, w1, w2, x1, x2, y1, y2]
  unfold vaE vaR scE scT
  rw [if_pos s1, if_pos s1, if_pos s1, if_pos s1, if_pos h, if_pos h, if_pos h, if_pos h, s3, he.pick, us_rule r2 r5, he.sc]
  exact ⟨rfl, rfl, rfl, rfl⟩
theorem shown_right {t : List UInt8} (h : rdE t = 0) (O : List UInt8) : rightB (dcV (shT t)) O = rightB (dcV t) O := by
  obtain ⟨r1, r2, r3, r4, r5⟩ := rd_ok h
  obtain ⟨s1, s2, s3⟩ := shown_ok h
  have he : Eqp uP (dcV t).packs (uD (dcV t)).packs := us_eqp r2.packs r5
  unfold rightB
  rw [s3, he.pick, us_rule r2 r5]
theorem shown_bt {t : List UInt8} (h : rdE t = 0) (A B C : List UInt8) : btF (dcV (shT t)).packs A B C = btF (dcV t).packs A B C := by
  obtain ⟨r1, r2, r3, r4, r5⟩ := rd_ok h
  obtain ⟨s1, s2, s3⟩ := shown_ok h
  have he : Eqp uP (dcV t).packs (uD (dcV t)).packs := us_eqp r2.packs r5
  rw [s3]
  exact he.bt A B _ C (Nat.le_refl _)
theorem us_ord {α : Type} {f : α → List UInt8} {l : List α} (s : List UInt8) (hn : ∀ c ∈ l, f c ≠ []) {m : List α} {g : α → List UInt8} (hm : m.map g = (usl f l).map f) : ordT s (m.map g) = ordT s (l.map f) := by
  have hn' : ∀ a ∈ l.map f, a ≠ [] := fun a ha => by obtain ⟨c, hc, rfl⟩ := List.mem_map.1 ha; exact hn c hc
  rw [ordT_list, ordT_list, hm, usl_map hn]
  congr 1
  exact usoL_same (fun a ha => hn' a ((usoL_mem hn' a).1 ha)) hn' (usoL_mem hn')
theorem us_ndS (n : List Cn) : ndS (usl cnT n) = ndS n := us_ord [124] (fun c _ => cnT_ne c) rfl
theorem us_pkS {p : Pk} (h : PkOk p) : pkS (uP p) = pkS p := by
  have e1 : ordT [44] ((uN p.needs).map ndS) = ordT [44] (p.needs.map ndS) := by
    refine us_ord [44] (fun n hn => ndS_ne (h.needs n hn).1) ?_
    unfold uN
    rw [List.map_map]
    exact List.map_congr_left fun n _ => us_ndS n
  have e2 : ordT [44] ((usl cnT p.conf).map cnT) = ordT [44] (p.conf.map cnT) := us_ord [44] (fun c _ => cnT_ne c) rfl
  have e3 : ordT [44] ((usl (fun c => [b8 c]) p.prov).map fun c => [b8 c]) = ordT [44] (p.prov.map fun c => [b8 c]) := us_ord (f := fun c => [b8 c]) [44] (fun c _ => by simp) rfl
  unfold pkS pkS0 uP
  simp only
  rw [e1, e2, e3]
theorem us_dcS {d : Dc} (h : DcOk d) : dcS (uD d) = dcS d := by
  have e1 : ordT [] ((uD d).packs.map pkS) = ordT [] (d.packs.map pkS) := by
    refine us_ord [] (fun p _ => pkS_ne p) ?_
    show ((usl pkS d.packs).map uP).map pkS = _
    rw [List.map_map]
    exact List.map_congr_left fun p hp => us_pkS (h.packs p (usl_mem hp))
  have e2 : ∀ l : List Cn, ordT [44] ((usl cnT l).map cnT) = ordT [44] (l.map cnT) := fun l => us_ord [44] (fun c _ => cnT_ne c) rfl
  unfold dcS
  rw [e1]
  show _ ++ ordT [44] ((usl cnT d.ins).map cnT) ++ _ ++ ordT [44] ((usl cnT d.rem).map cnT) ++ _ ++ ordT [44] ((usl cnT d.upg).map cnT) = _
  rw [e2, e2, e2]
theorem shown_twice {t : List UInt8} (h : rdE t = 0) : shT (shT t) = shT t := by
  obtain ⟨r1, r2, r3, r4, r5⟩ := rd_ok h
  obtain ⟨s1, s2, s3⟩ := shown_ok h
  have e : shT (shT t) = dcS (dcV (shT t)) := by rw [shT, if_pos s1]
  rw [e, s3, us_dcS r2]
  rw [shT, if_pos h]

end Go.Proofs.YtenbnmbbfeekpabDoor
