import Derived.Test.YtenbnmbbfeekpaaDoorXT

/-
  Scores as texts, read again: plain mathematics.
-/
namespace Go.Proofs.YtenbnmbbfeekpaaDoor

/-- A number up to the next comma, and what is behind it. -/
def cutN : List UInt8 → Nat → Nat × List UInt8
  | [], m => (m, [])
  | x :: r, m => if x.toNat = 44 then (m, r) else cutN r (10 * m + x.toNat - 48)
/-- The first score is worse, by the signs of the criteria. -/
def wsF : List UInt8 → List UInt8 → List UInt8 → Bool
  | a :: _ :: r, s, t => if (cutN s 0).1 = (cutN t 0).1 then wsF r (cutN s 0).2 (cutN t 0).2 else (decide ((cutN t 0).1 < (cutN s 0).1) == (a.toNat == 45))
  | _, _, _ => false
/-- The numbers with commas between, from the left. -/
def txR (ps L : List Pk) : List Nat → List UInt8
  | [] => []
  | [c] => digT (scN ps (nowL ps) L c 26)
  | c :: d :: r => digT (scN ps (nowL ps) L c 26) ++ 44 :: txR ps L (d :: r)
theorem txR_snoc (ps L : List Pk) (c : Nat) : ∀ (l : List Nat), txR ps L (l ++ [c]) = (if l = [] then [] else txR ps L l ++ [44]) ++ digT (scN ps (nowL ps) L c 26)
  | [] => by simp [txR]
  | [d] => by simp [txR]
  | d :: e :: r => by
    have ih := txR_snoc ps L c (e :: r)
    rw [if_neg (by simp)] at ih ⊢
    show digT (scN ps (nowL ps) L d 26) ++ 44 :: txR ps L (e :: r ++ [c]) = _
    rw [ih, txR]
    simp
theorem txA_R (ps L : List Pk) (ls : List Nat) : ∀ m, m ≤ ls.length → txA ps L ls m = txR ps L (ls.take m)
  | 0, _ => by simp [txA, txR]
  | m + 1, hm => by
    have hlt : m < ls.length := by omega
    rw [txA, txA_R ps L ls m (by omega), List.take_succ_eq_append_getElem hlt, txR_snoc]
    have e : ls.getD m 0 = ls[m] := by rw [List.getD_eq_getElem?_getD, List.getElem?_eq_getElem hlt]; rfl
    rw [e]
    congr 1
    by_cases h0 : m = 0
    · subst h0; simp [txR]
    · rw [if_pos (by omega), if_neg (by intro h; have := congrArg List.length h; rw [List.length_take, List.length_nil] at this; omega)]
theorem cut_dig {n : Nat} (hn : n ≤ 26) (rest : List UInt8) : cutN (digT n ++ rest) 0 = cutN rest n := by
  unfold digT
  split
  · rename_i h
    show cutN (b8 (48 + n) :: rest) 0 = _
    rw [cutN, b8_val (by omega), if_neg (by omega)]
    congr 1
    omega
  · rename_i h
    show cutN (b8 (48 + n / 10) :: b8 (48 + n % 10) :: rest) 0 = _
    rw [cutN, b8_val (by omega), if_neg (by omega), cutN, b8_val (by omega), if_neg (by omega)]
    congr 1
    omega
theorem cut_txR (ps L : List Pk) (c : Nat) (ls : List Nat) : cutN (txR ps L (c :: ls)) 0 = (scN ps (nowL ps) L c 26, txR ps L ls) := by
  match ls with
  | [] =>
    show cutN (digT (scN ps (nowL ps) L c 26)) 0 = _
    rw [← List.append_nil (digT (scN ps (nowL ps) L c 26)), cut_dig (scN_le _ _ _ _ _)]
    rfl
  | d :: r =>
    rw [txR, cut_dig (scN_le _ _ _ _ _), cutN, if_pos (by decide)]
theorem ws_same {ps : List Pk} {O P : List UInt8} {L M : List Pk} (ha : Ap ps) (pL : Pq ps O L) (pM : Pq ps P M) : ∀ (n : Nat) (C : List UInt8) (ls : List Nat), C.length ≤ n → rdC C = some ls → wsF C (txR ps M ls) (txR ps L ls) = btF ps O P C
  | _, [], ls, _, _ => rfl
  | _, [c], ls, _, _ => rfl
  | 0, a :: b :: r, ls, hn, _ => by simp at hn
  | n + 1, a :: b :: r, ls, hn, h => by
    rw [rdC] at h
    split at h
    · rename_i hc
      rw [Bool.and_eq_true] at hc
      cases hr : rdC r with
      | none => rw [hr] at h; simp at h
      | some ls' =>
        rw [hr] at h
        simp at h
        subst h
        have e1 : numT ps O b.toNat = scN ps (nowL ps) L b.toNat 26 := by unfold numT; exact num_same ha pL hc.2 26 (Nat.le_refl _)
        have e2 : numT ps P b.toNat = scN ps (nowL ps) M b.toNat 26 := by unfold numT; exact num_same ha pM hc.2 26 (Nat.le_refl _)
        rw [wsF, cut_txR, cut_txR, btF, e1, e2]
        simp only
        by_cases hx : scN ps (nowL ps) L b.toNat 26 = scN ps (nowL ps) M b.toNat 26
        · rw [if_pos hx, if_pos hx.symm]
          exact ws_same ha pL pM n r ls' (by simp at hn; omega) hr
        · rw [if_neg hx, if_neg (fun e => hx e.symm)]
    · cases h
/-- Digits and commas. -/
def dcB (x : Nat) : Bool := x == 44 || (decide (48 ≤ x) && decide (x ≤ 57))
theorem dig_dc {n : Nat} (hn : n ≤ 26) : ∀ x ∈ digT n, dcB x.toNat = true := by
  intro x hx
  unfold digT at hx
  split at hx
  · simp at hx
    subst hx
    rw [b8_val (by omega)]
    unfold dcB
    simp
    omega
  · simp at hx
    unfold dcB
    rcases hx with rfl | rfl <;> rw [b8_val (by omega)] <;> simp <;> omega
theorem txA_dc (ps L : List Pk) (ls : List Nat) : ∀ m, ∀ x ∈ txA ps L ls m, dcB x.toNat = true
  | 0, x, hx => by simp [txA] at hx
  | m + 1, x, hx => by
    rw [txA] at hx
    rcases List.mem_append.1 hx with h | h
    · split at h
      · rcases List.mem_append.1 h with h | h
        · exact txA_dc ps L ls m x h
        · simp at h; subst h; decide
      · exact txA_dc ps L ls m x h
    · exact dig_dc (scN_le _ _ _ _ _) x h
theorem us_dc (t C P : List UInt8) : (∀ x ∈ usT t C P, dcB x.toNat = true) ∧ (usT t C P).length ≤ 12 := by
  unfold usT
  split
  · split
    · rename_i ls L hc hL
      refine ⟨txA_dc _ _ _ _, ?_⟩
      have h1 := txA_len (dcV t).packs L ls ls.length
      have h2 := crL_len hc
      omega
    · exact ⟨fun x hx => by simp at hx, by simp⟩
  · exact ⟨fun x hx => by simp at hx, by simp⟩
/-- The score of the best pick is not worse than that of another valid one. -/
theorem ChooseP.judged {T : List UInt8 → List UInt8 → List UInt8} {E : List UInt8 → List UInt8 → Nat} (h : ChooseP T E) {t C O : List UInt8} (he : E t C = 0) (hE : uvE t O = 0) (hR : uvR t O = 0) : usE t C O = 0 ∧ wsF C (usT t C (T t C)) (usT t C O) = false := by
  have h0 : rdE t = 0 := by
    by_cases h0 : rdE t = 0
    · exact h0
    · rw [(h.bad t C h0).1] at he; exact he
  have hc : critB C = true := by
    cases hc : critB C with
    | true => rfl
    | false => rw [(h.cri t C h0 hc).1] at he; simp at he
  have hr := (right_iff t O h0).2 ⟨hE, hR⟩
  have ha := Ap.of h0
  obtain ⟨_, _, _, r4, _⟩ := rd_ok h0
  obtain ⟨_, e2, e3⟩ := h.yes t C h0 hc (by rw [he]; decide)
  have hpO : pickB (dcV t).packs O = true := by unfold rightB at hr; rw [Bool.and_eq_true] at hr; exact hr.1
  have hpT : pickB (dcV t).packs (T t C) = true := by unfold rightB at e2; rw [Bool.and_eq_true] at e2; exact e2.1
  obtain ⟨L, hL, pL, _, _⟩ := pick_pq ha r4 hpO
  obtain ⟨M, hM, pM, _, _⟩ := pick_pq ha r4 hpT
  have hcr := hc
  rw [crit_same] at hcr
  obtain ⟨ls, hls⟩ := Option.isSome_iff_exists.1 hcr
  have hrd : rdC C = some ls := by
    unfold crL at hls
    split at hls
    · cases hls
    · split at hls
      · cases hls
      · split at hls
        · exact hls
        · cases hls
  refine ⟨?_, ?_⟩
  · unfold usE prE
    rw [if_pos h0, hls, hL]
    rfl
  · have u1 : usT t C (T t C) = txR (dcV t).packs M ls := by
      unfold usT
      rw [if_pos h0, hls, hM]
      show txA (dcV t).packs M ls ls.length = _
      rw [txA_R _ _ _ _ (Nat.le_refl _), List.take_length]
    have u2 : usT t C O = txR (dcV t).packs L ls := by
      unfold usT
      rw [if_pos h0, hls, hL]
      show txA (dcV t).packs L ls ls.length = _
      rw [txA_R _ _ _ _ (Nat.le_refl _), List.take_length]
    rw [u1, u2, ws_same ha pL pM C.length C ls (Nat.le_refl _) hrd]
    exact e3 O hr

end Go.Proofs.YtenbnmbbfeekpaaDoor

/-
  More criteria behind the first: plain mathematics.
-/
namespace Go.Proofs.YtenbnmbbfeekpaaDoor

theorem bt_app (ps : List Pk) (A B M : List UInt8) : ∀ (n : Nat) (C : List UInt8), C.length ≤ n → btF ps A B C = true → btF ps A B (C ++ M) = true
  | _, [], _, h => by simp [btF] at h
  | _, [c], _, h => by simp [btF] at h
  | 0, a :: b :: r, hn, _ => by simp at hn
  | n + 1, a :: b :: r, hn, h => by
    show btF ps A B (a :: b :: (r ++ M)) = true
    rw [btF] at h ⊢
    split
    · rename_i he
      rw [if_pos he] at h
      exact bt_app ps A B M n r (by simp at hn; omega) h
    · rename_i he
      rw [if_neg he] at h
      exact h
theorem bt_anti (ps : List Pk) (A B : List UInt8) : ∀ (n : Nat) (C : List UInt8) (ls : List Nat), C.length ≤ n → rdC C = some ls → btF ps A B C = false → btF ps B A C = false → ∀ c ∈ ls, letB c = true ∧ numT ps A c = numT ps B c
  | _, [], ls, _, h, _, _ => by simp [rdC] at h; subst h; simp
  | _, [c], ls, _, h, _, _ => by simp [rdC] at h; subst h; simp
  | 0, a :: b :: r, ls, hn, _, _, _ => by simp at hn
  | n + 1, a :: b :: r, ls, hn, h, h1, h2 => by
    rw [rdC] at h
    split at h
    · rename_i hc
      rw [Bool.and_eq_true] at hc
      cases hr : rdC r with
      | none => rw [hr] at h; simp at h
      | some ls' =>
        rw [hr] at h
        simp at h
        subst h
        rw [btF] at h1 h2
        by_cases he : numT ps A b.toNat = numT ps B b.toNat
        · rw [if_pos he] at h1
          rw [if_pos he.symm] at h2
          intro c hm
          rcases List.mem_cons.1 hm with rfl | hm
          · exact ⟨hc.2, he⟩
          · exact bt_anti ps A B n r ls' (by simp at hn; omega) hr h1 h2 c hm
        · rw [if_neg he] at h1
          rw [if_neg (fun e => he e.symm)] at h2
          exfalso
          rcases Nat.lt_or_gt_of_ne he with hl | hl
          · rw [decide_eq_true hl] at h1
            rw [decide_eq_false (by omega)] at h2
            cases hx : (a.toNat == 45) <;> rw [hx] at h1 h2 <;> simp at h1 h2
          · rw [decide_eq_false (by omega)] at h1
            rw [decide_eq_true hl] at h2
            cases hx : (a.toNat == 45) <;> rw [hx] at h1 h2 <;> simp at h1 h2
    · cases h
theorem txR_congr (ps L M : List Pk) : ∀ (ls : List Nat), (∀ c ∈ ls, scN ps (nowL ps) L c 26 = scN ps (nowL ps) M c 26) → txR ps L ls = txR ps M ls
  | [], _ => rfl
  | [c], h => by rw [txR, txR, h c (by simp)]
  | c :: d :: r, h => by rw [txR, txR, h c (by simp), txR_congr ps L M (d :: r) (fun x hx => h x (by simp at hx ⊢; right; exact hx))]
theorem rd_crL {C : List UInt8} {ls : List Nat} (hls : crL C = some ls) : rdC C = some ls := by
  unfold crL at hls
  split at hls
  · cases hls
  · split at hls
    · cases hls
    · split at hls
      · exact hls
      · cases hls
/-- Two valid picks, neither better than the other, have the same score. -/
theorem level {t C A B : List UInt8} (h0 : rdE t = 0) (hc : critB C = true) (hA : rightB (dcV t) A = true) (hB : rightB (dcV t) B = true) (h1 : btF (dcV t).packs A B C = false) (h2 : btF (dcV t).packs B A C = false) : usE t C A = 0 ∧ usE t C B = 0 ∧ usT t C A = usT t C B := by
  have ha := Ap.of h0
  obtain ⟨_, _, _, r4, _⟩ := rd_ok h0
  have pA : pickB (dcV t).packs A = true := by unfold rightB at hA; rw [Bool.and_eq_true] at hA; exact hA.1
  have pB : pickB (dcV t).packs B = true := by unfold rightB at hB; rw [Bool.and_eq_true] at hB; exact hB.1
  obtain ⟨L, hL, qL, _, _⟩ := pick_pq ha r4 pA
  obtain ⟨M, hM, qM, _, _⟩ := pick_pq ha r4 pB
  rw [crit_same] at hc
  obtain ⟨ls, hls⟩ := Option.isSome_iff_exists.1 hc
  have hrd := rd_crL hls
  have key := bt_anti _ A B C.length C ls (Nat.le_refl _) hrd h1 h2
  refine ⟨?_, ?_, ?_⟩
  · unfold usE prE
    rw [if_pos h0, hls, hL]
    rfl
  · unfold usE prE
    rw [if_pos h0, hls, hM]
    rfl
  · unfold usT
    rw [if_pos h0, if_pos h0, hls, hL, hM]
    show txA (dcV t).packs L ls ls.length = txA (dcV t).packs M ls ls.length
    rw [txA_R _ _ _ _ (Nat.le_refl _), txA_R _ _ _ _ (Nat.le_refl _), List.take_length]
    apply txR_congr
    intro c hm
    obtain ⟨k1, k2⟩ := key c hm
    unfold numT at k2
    rw [← num_same ha qL k1 26 (Nat.le_refl _), ← num_same ha qM k1 26 (Nat.le_refl _)]
    exact k2
theorem ChooseP.zero {T : List UInt8 → List UInt8 → List UInt8} {E : List UInt8 → List UInt8 → Nat} (h : ChooseP T E) {t C : List UInt8} (he : E t C = 0) : rdE t = 0 ∧ rightB (dcV t) (T t C) = true ∧ ∀ O, rightB (dcV t) O = true → btF (dcV t).packs O (T t C) C = false := by
  have h0 : rdE t = 0 := by
    by_cases h0 : rdE t = 0
    · exact h0
    · rw [(h.bad t C h0).1] at he; exact he
  have hc : critB C = true := by
    cases hc : critB C with
    | true => rfl
    | false => rw [(h.cri t C h0 hc).1] at he; simp at he
  exact ⟨h0, (h.yes t C h0 hc (by rw [he]; decide)).2⟩
theorem ChooseP.prefixed {T : List UInt8 → List UInt8 → List UInt8} {E : List UInt8 → List UInt8 → Nat} (h : ChooseP T E) {t C M : List UInt8} (hc : critB C = true) (hd : critB (C ++ M) = true) : E t (C ++ M) = E t C ∧ (E t C ≠ 0 → T t C = [] ∧ T t (C ++ M) = []) ∧ (E t C = 0 → usE t C (T t C) = 0 ∧ usE t C (T t (C ++ M)) = 0 ∧ usT t C (T t C) = usT t C (T t (C ++ M))) := by
  have hs : E t (C ++ M) = E t C := h.err_same hd hc
  refine ⟨hs, fun he => ⟨h.none he, h.none (by rw [hs]; exact he)⟩, fun he => ?_⟩
  obtain ⟨h0, a1, a2⟩ := h.zero he
  obtain ⟨_, b1, b2⟩ := h.zero (hs.trans he)
  refine level h0 hc a1 b1 ?_ (a2 _ b1)
  cases hx : btF (dcV t).packs (T t C) (T t (C ++ M)) C with
  | false => rfl
  | true =>
    have := bt_app _ _ _ M C.length C (Nat.le_refl _) hx
    rw [b2 _ a1] at this
    cases this

end Go.Proofs.YtenbnmbbfeekpaaDoor
