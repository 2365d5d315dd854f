import Derived.Test.YtenbnmbbfeekpabGreatDoorXY
import Derived.Test.YtenbnmbbfeekpabGreatDoorXT2

/-
  A package of a name that does not occur, laid beside a document: the same rules, the same numbers. Plain mathematics.
-/
namespace Go.Proofs.YtenbnmbbfeekpabGreatDoor

/-- The package beside. -/
def nwP (x : Nat) : Pk := { n := x, v := 49, m := 0, needs := [], conf := [], prov := [] }
def aD (x : Nat) (d : Dc) : Dc := { packs := nwP x :: d.packs, ins := d.ins, rem := d.rem, upg := d.upg }
/-- The name does not occur. -/
structure Fresh (x : Nat) (d : Dc) : Prop where
  nm : nmB x = true
  pk : ∀ p ∈ d.packs, p.n ≠ x
  nd : ∀ p ∈ d.packs, ∀ n ∈ p.needs, ∀ c ∈ n, c.n ≠ x
  cf : ∀ p ∈ d.packs, ∀ c ∈ p.conf, c.n ≠ x
  ins : ∀ c ∈ d.ins, c.n ≠ x
  rem : ∀ c ∈ d.rem, c.n ≠ x
  upg : ∀ c ∈ d.upg, c.n ≠ x
/-- A pick without it. -/
def drP (x : Nat) (P : List UInt8) : List UInt8 := ((ch2 P).filter fun y => !(y == pkI (nwP x))).flatten
theorem ch2_two : ∀ (n : Nat) (P : List UInt8), P.length ≤ n → ∀ y ∈ ch2 P, y.length = 2
  | _, [], _, y, hy => by simp [ch2] at hy
  | _, [_], _, y, hy => by simp [ch2] at hy
  | 0, _ :: _ :: _, h, _, _ => by simp at h
  | n + 1, a :: b :: r, h, y, hy => by
    rw [ch2] at hy
    rcases List.mem_cons.1 hy with rfl | hy
    · rfl
    · exact ch2_two n r (by simp at h; omega) y hy
theorem ch2_of : ∀ (X : List (List UInt8)), (∀ y ∈ X, y.length = 2) → ch2 X.flatten = X
  | [], _ => rfl
  | y :: X, h => by
    have h2 := h y (by simp)
    match y, h2 with
    | [a, b], _ =>
      rw [List.flatten_cons]
      show ch2 (a :: b :: X.flatten) = _
      rw [ch2, ch2_of X (fun z hz => h z (by simp [hz]))]
theorem flat_len : ∀ (X : List (List UInt8)), (∀ y ∈ X, y.length = 2) → X.flatten.length = 2 * X.length
  | [], _ => rfl
  | y :: X, h => by
    rw [List.flatten_cons, List.length_append, h y (by simp), flat_len X (fun z hz => h z (by simp [hz])), List.length_cons]
    omega
theorem ch2_dr (x : Nat) (P : List UInt8) : ch2 (drP x P) = (ch2 P).filter fun y => !(y == pkI (nwP x)) :=
  ch2_of _ fun y hy => ch2_two P.length P (Nat.le_refl _) y (List.mem_filter.1 hy).1
theorem in_dr {x : Nat} {P I : List UInt8} (h : I ≠ pkI (nwP x)) : inB (drP x P) I = inB P I := by
  rw [Bool.eq_iff_iff, inB_iff, inB_iff, ch2_dr, List.mem_filter]
  exact ⟨fun g => g.1, fun g => ⟨g, by simpa using h⟩⟩
theorem dr_not (x : Nat) (P : List UInt8) : inB (drP x P) (pkI (nwP x)) = false := by
  cases e : inB (drP x P) (pkI (nwP x)) with
  | false => rfl
  | true =>
    rw [inB_iff, ch2_dr, List.mem_filter] at e
    simp at e
theorem dr_self {x : Nat} {P : List UInt8} (h : inB P (pkI (nwP x)) = false) (he : P.length % 2 = 0) : drP x P = P := by
  unfold drP
  rw [List.filter_eq_self.2, ch2_flat P.length P (Nat.le_refl _) he]
  intro y hy
  cases e : (y == pkI (nwP x)) with
  | false => rfl
  | true =>
    rw [beq_iff_eq] at e
    subst e
    rw [(inB_iff _ _).2 hy] at h
    cases h
theorem I_ne {x b : Nat} (hx : x < 256) (hb : b < 256) (h : b ≠ x) (l : List UInt8) : b8 b :: l ≠ pkI (nwP x) := by
  intro e
  unfold pkI nwP at e
  injection e with e _
  exact h (b8_inj hb hx e)
theorem fit_nw {x : Nat} {c : Cn} (h : c.n ≠ x) : fitB (nwP x) c = false := by
  have e : (x == c.n) = false := by simpa using fun e => h e.symm
  unfold fitB nwP
  simp only [List.any_nil, Bool.false_or, e, Bool.false_and]
  split <;> rfl

theorem x_lt {x : Nat} {d : Dc} (hf : Fresh x d) : x < 256 := by have := nm_rng hf.nm; omega
theorem p_ne {x : Nat} {d : Dc} (hf : Fresh x d) (hok : DcOk d) {p : Pk} (hp : p ∈ d.packs) : pkI p ≠ pkI (nwP x) := by
  have h1 := nm_rng (hok.packs p hp).n
  exact I_ne (x_lt hf) (by omega) (hf.pk p hp) _
theorem a_fitted {x : Nat} {d : Dc} (hf : Fresh x d) (hok : DcOk d) (P : List UInt8) {c : Cn} (hc : c.n ≠ x) (but : List UInt8) : fittedB (aD x d).packs P c but = fittedB d.packs (drP x P) c but := by
  unfold fittedB aD
  simp only
  rw [List.any_cons, fit_nw hc, Bool.and_false, Bool.false_and, Bool.false_or]
  exact any_same (fun _ => Iff.rfl) fun p hp => by rw [in_dr (p_ne hf hok hp)]
theorem a_vIn {x : Nat} {d : Dc} (hf : Fresh x d) (hok : DcOk d) (P : List UInt8) {b : Nat} (hb : b < 256) (hbx : b ≠ x) (now : Bool) (v : Nat) : vIn (aD x d).packs P [b8 b] now v = vIn d.packs (drP x P) [b8 b] now v := by
  unfold vIn aD
  simp only
  have e0 : vHas P [b8 b] now v (nwP x) = false := by
    unfold vHas
    have : ([b8 (nwP x).n] == [b8 b]) = false := by
      rw [beq_eq_false_iff_ne]
      intro e
      injection e with e _
      exact hbx (b8_inj hb (x_lt hf) e.symm)
    rw [this, Bool.and_false, Bool.false_and]
  rw [List.filter_cons, e0]
  simp only [Bool.false_eq_true, if_false]
  congr 1
  refine List.filter_congr fun p hp => ?_
  unfold vHas vA
  rw [in_dr (p_ne hf hok hp)]
theorem a_vers {x : Nat} {d : Dc} (hf : Fresh x d) (hok : DcOk d) (P : List UInt8) {b : Nat} (hb : b < 256) (hbx : b ≠ x) (now : Bool) : versT (aD x d).packs P [b8 b] now = versT d.packs (drP x P) [b8 b] now := by
  unfold versT
  generalize 9 = k
  induction k with
  | zero => rfl
  | succ k ih => rw [vers, vers, ih, a_vIn hf hok P hb hbx]
theorem a_vers0 {x : Nat} {d : Dc} (hf : Fresh x d) (hok : DcOk d) {b : Nat} (hb : b < 256) (hbx : b ≠ x) : versT (aD x d).packs [] [b8 b] true = versT d.packs [] [b8 b] true := a_vers hf hok [] hb hbx true
theorem a_gre {x : Nat} {d : Dc} (hf : Fresh x d) {b : Nat} (hb : b < 256) (hbx : b ≠ x) : greT (aD x d).packs [b8 b] = greT d.packs [b8 b] := by
  unfold greT aD
  simp only
  rw [List.foldl_cons]
  have : gStep [b8 b] [] (nwP x) = [] := by
    unfold gStep
    have : ([b8 (nwP x).n] == [b8 b]) = false := by
      rw [beq_eq_false_iff_ne]
      intro e
      injection e with e _
      exact hbx (b8_inj hb (x_lt hf) e.symm)
    rw [this]
    rfl
  rw [this]
theorem a_num1 {x : Nat} {d : Dc} (hf : Fresh x d) (hok : DcOk d) (P : List UInt8) (c : Nat) {b : Nat} (hb : b < 256) (hbx : b ≠ x) : num1 (aD x d).packs P c b = num1 d.packs (drP x P) c b := by
  unfold num1 cntB
  rw [a_gre hf hb hbx, a_vers hf hok P hb hbx, a_vers0 hf hok hb hbx]
  have : inB (drP x P) ([b8 b] ++ greT d.packs [b8 b]) = inB P ([b8 b] ++ greT d.packs [b8 b]) := in_dr (I_ne (x_lt hf) hb hbx _)
  rw [this]
theorem ps_gre {x : Nat} {d : Dc} (hf : Fresh x d) (hok : DcOk d) {g : List UInt8} : ∀ (l : List Pk), (∀ p ∈ l, p ∈ d.packs) → l.foldl (gStep [b8 x]) g = g
  | [], _ => rfl
  | p :: l, h => by
    have hp := h p (by simp)
    have h1 := nm_rng (hok.packs p hp).n
    have : gStep [b8 x] g p = g := by
      unfold gStep
      have : ([b8 p.n] == [b8 x]) = false := by
        rw [beq_eq_false_iff_ne]
        intro e
        injection e with e _
        exact hf.pk p hp (b8_inj (by omega) (x_lt hf) e)
      rw [this]
      rfl
    rw [List.foldl_cons, this]
    exact ps_gre hf hok l fun q hq => h q (by simp [hq])
theorem o_num1 {x : Nat} {d : Dc} (hf : Fresh x d) (hok : DcOk d) (P : List UInt8) (c : Nat) : num1 d.packs P c x = false := by
  unfold num1 greT
  rw [ps_gre hf hok d.packs fun p hp => hp]
  rfl
theorem x_vIn {x : Nat} {d : Dc} (hf : Fresh x d) (hok : DcOk d) (P : List UInt8) (now : Bool) (v : Nat) : vIn (aD x d).packs P [b8 x] now v = if (!now && inB P (pkI (nwP x)) && v == 49) = true then [b8 49] else [] := by
  unfold vIn aD
  simp only
  have e1 : d.packs.filter (vHas P [b8 x] now v) = [] := by
    rw [List.filter_eq_nil_iff]
    intro p hp
    have h1 := nm_rng (hok.packs p hp).n
    unfold vHas
    have : ([b8 p.n] == [b8 x]) = false := by
      rw [beq_eq_false_iff_ne]
      intro e
      injection e with e _
      exact hf.pk p hp (b8_inj (by omega) (x_lt hf) e)
    rw [this]
    simp
  rw [List.filter_cons, e1]
  have e2 : vHas P [b8 x] now v (nwP x) = (!now && inB P (pkI (nwP x)) && v == 49) := by
    unfold vHas vA
    have e3 : ([b8 (nwP x).n] == [b8 x]) = true := by rw [beq_iff_eq]; rfl
    have e4 : ((nwP x).v == v) = (v == 49) := by rw [Bool.eq_iff_iff, beq_iff_eq, beq_iff_eq]; show 49 = v ↔ v = 49; exact eq_comm
    have e5 : ((nwP x).m != 0) = false := rfl
    rw [e3, e4, Bool.and_true]
    cases now with
    | true => simp [e5]
    | false => simp
  rw [e2]
  split <;> rfl
theorem x_vers {x : Nat} {d : Dc} (hf : Fresh x d) (hok : DcOk d) (P : List UInt8) (now : Bool) : versT (aD x d).packs P [b8 x] now = if (!now && inB P (pkI (nwP x))) = true then [b8 49] else [] := by
  unfold versT
  have key : ∀ k, k ≤ 9 → vers (aD x d).packs P [b8 x] now k = if (!now && inB P (pkI (nwP x)) && decide (0 < k)) = true then [b8 49] else [] := by
    intro k
    induction k with
    | zero => intro _; rw [vers]; simp
    | succ k ih =>
      intro hk
      rw [vers, ih (by omega), x_vIn hf hok]
      by_cases h0 : k = 0
      · subst h0; simp
      · have e1 : (49 + k == 49) = false := by rw [beq_eq_false_iff_ne]; omega
        have e2 : decide (0 < k) = true := by simp; omega
        rw [e1, e2]
        simp
  rw [key 9 (Nat.le_refl _)]
  simp
theorem x_num_out {x : Nat} {d : Dc} (hf : Fresh x d) (hok : DcOk d) {P : List UInt8} (h : inB P (pkI (nwP x)) = false) (c : Nat) : num1 (aD x d).packs P c x = false := by
  unfold num1 cntB
  rw [x_vers hf hok, x_vers hf hok, h]
  simp only [Bool.not_true, Bool.false_and, Bool.and_false, Bool.false_eq_true, if_false]
  unfold cntV
  split
  · simp
  · split
    · simp
    · split
      · simp
      · simp
theorem x_num_in {x : Nat} {d : Dc} (hf : Fresh x d) (hok : DcOk d) {P : List UInt8} (h : inB P (pkI (nwP x)) = true) : num1 (aD x d).packs P 99 x = true := by
  unfold num1 cntB
  rw [x_vers hf hok, x_vers hf hok, h]
  have hg : greT (aD x d).packs [b8 x] = [b8 49] := by
    unfold greT aD
    simp only
    rw [List.foldl_cons]
    have : gStep [b8 x] [] (nwP x) = [b8 49] := by
      unfold gStep
      have : ([b8 (nwP x).n] == [b8 x]) = true := by rw [beq_iff_eq]; rfl
      rw [this, gt_nil rfl]
      rfl
    rw [this]
    exact ps_gre hf hok d.packs fun p hp => hp
  rw [hg]
  rfl
theorem a_numA {x : Nat} {d : Dc} (hf : Fresh x d) (hok : DcOk d) (P : List UInt8) (c : Nat) : ∀ k, k ≤ 26 → numA (aD x d).packs P c k = numA d.packs (drP x P) c k + if x < 97 + k ∧ num1 (aD x d).packs P c x = true then 1 else 0
  | 0, _ => by
    have := nm_rng hf.nm
    rw [numA, numA, if_neg (by omega)]
  | k + 1, hk => by
    rw [numA, numA, a_numA hf hok P c k (by omega)]
    by_cases h : 97 + k = x
    · rw [h, o_num1 hf hok]
      have h1 : ¬ (x < x ∧ num1 (aD x d).packs P c x = true) := by omega
      have h2 : x < 97 + (k + 1) := by omega
      rw [if_neg h1]
      cases num1 (aD x d).packs P c x
      · simp
      · simp [h2]
    · rw [a_num1 hf hok P c (by omega) h]
      have h3 : (x < 97 + (k + 1)) ↔ x < 97 + k := by omega
      simp only [h3]
      omega
theorem a_num {x : Nat} {d : Dc} (hf : Fresh x d) (hok : DcOk d) (P : List UInt8) (c : Nat) : numT (aD x d).packs P c = numT d.packs (drP x P) c + if num1 (aD x d).packs P c x = true then 1 else 0 := by
  unfold numT
  rw [a_numA hf hok P c 26 (Nat.le_refl _)]
  have h := nm_rng hf.nm
  have : x < 97 + 26 := by omega
  simp [this]
theorem a_num_out {x : Nat} {d : Dc} (hf : Fresh x d) (hok : DcOk d) {P : List UInt8} (h : inB P (pkI (nwP x)) = false) (he : P.length % 2 = 0) (c : Nat) : numT (aD x d).packs P c = numT d.packs P c := by
  rw [a_num hf hok, x_num_out hf hok h, dr_self h he]
  rfl
theorem a_num_in {x : Nat} {d : Dc} (hf : Fresh x d) (hok : DcOk d) {P : List UInt8} (h : inB P (pkI (nwP x)) = true) : numT (aD x d).packs P 99 = numT d.packs (drP x P) 99 + 1 := by
  rw [a_num hf hok, x_num_in hf hok h]
  rfl
/-- The rules. -/
theorem a_rule {x : Nat} {d : Dc} (hf : Fresh x d) (hok : DcOk d) (P : List UInt8) : ruleN (aD x d) P = ruleN d (drP x P) := by
  have q1 : (aD x d).packs.all (r1 (aD x d).packs P) = d.packs.all (r1 d.packs (drP x P)) := by
    have e0 : r1 (aD x d).packs P (nwP x) = true := by unfold r1 metB nwP; simp
    show (nwP x :: d.packs).all (r1 (aD x d).packs P) = _
    rw [List.all_cons, e0, Bool.true_and]
    refine all_same (fun _ => Iff.rfl) fun p hp => ?_
    unfold r1 metB
    have e1 : inB P [b8 p.n, b8 p.v] = inB (drP x P) [b8 p.n, b8 p.v] := (in_dr (p_ne hf hok hp)).symm
    have e2 : (p.needs.all fun n => n.any fun c => fittedB (aD x d).packs P c []) = p.needs.all fun n => n.any fun c => fittedB d.packs (drP x P) c [] :=
      all_same (fun _ => Iff.rfl) fun n hn => any_same (fun _ => Iff.rfl) fun c hc => a_fitted hf hok P (hf.nd p hp n hn c hc) []
    rw [e1, e2]
  have q2 : (aD x d).packs.all (r2 (aD x d).packs P) = d.packs.all (r2 d.packs (drP x P)) := by
    have e0 : r2 (aD x d).packs P (nwP x) = true := by unfold r2 besideB nwP; simp
    show (nwP x :: d.packs).all (r2 (aD x d).packs P) = _
    rw [List.all_cons, e0, Bool.true_and]
    refine all_same (fun _ => Iff.rfl) fun p hp => ?_
    unfold r2 besideB
    have e1 : inB P [b8 p.n, b8 p.v] = inB (drP x P) [b8 p.n, b8 p.v] := (in_dr (p_ne hf hok hp)).symm
    have e2 : (p.conf.all fun c => !fittedB (aD x d).packs P c (pkI p)) = p.conf.all fun c => !fittedB d.packs (drP x P) c (pkI p) :=
      all_same (fun _ => Iff.rfl) fun c hc => by rw [a_fitted hf hok P (hf.cf p hp c hc)]
    rw [e1, e2]
  have q3 : staysB (aD x d).packs P = staysB d.packs (drP x P) := by
    unfold staysB
    have e0 : stay1 (aD x d).packs P (nwP x) = true := rfl
    show (nwP x :: d.packs).all (stay1 (aD x d).packs P) = _
    rw [List.all_cons, e0, Bool.true_and]
    refine all_same (fun _ => Iff.rfl) fun p hp => ?_
    have h1 := nm_rng (hok.packs p hp).n
    unfold stay1
    have e1 : inB P [b8 p.n, b8 p.v] = inB (drP x P) [b8 p.n, b8 p.v] := (in_dr (p_ne hf hok hp)).symm
    rw [e1, a_vers hf hok P (by omega) (hf.pk p hp)]
  have q4 : (aD x d).ins.all (fun c => fittedB (aD x d).packs P c []) = d.ins.all fun c => fittedB d.packs (drP x P) c [] :=
    all_same (fun _ => Iff.rfl) fun c hc => a_fitted hf hok P (hf.ins c hc) []
  have q5 : (aD x d).rem.all (fun c => !fittedB (aD x d).packs P c []) = d.rem.all fun c => !fittedB d.packs (drP x P) c [] :=
    all_same (fun _ => Iff.rfl) fun c hc => by rw [a_fitted hf hok P (hf.rem c hc)]
  have q6 : (aD x d).upg.all (fun c => upgB (aD x d).packs P c) = d.upg.all fun c => upgB d.packs (drP x P) c := by
    refine all_same (fun _ => Iff.rfl) fun c hc => ?_
    have h1 := nm_rng (hok.upg c hc).n
    have hcx := hf.upg c hc
    unfold upgB upgV
    rw [a_vers hf hok P (by omega) hcx, a_vers0 hf hok (by omega) hcx]
    have : ∀ V, fu (b8 c.n :: V) c (aD x d).packs = fu (b8 c.n :: V) c d.packs := by
      intro V
      show fu (b8 c.n :: V) c (nwP x :: d.packs) = _
      rw [fu]
      have e : ([b8 (nwP x).n, b8 (nwP x).v] == b8 c.n :: V) = false := by
        rw [beq_eq_false_iff_ne]
        exact fun e => I_ne (x_lt hf) (by omega) hcx V e.symm
      rw [e]
      rfl
    rw [this]
  unfold ruleN
  rw [q1, q2, q3, q4, q5, q6]

end Go.Proofs.YtenbnmbbfeekpabGreatDoor

/-
  The best picks with and without a package that has to do with nothing. Plain mathematics.
-/
namespace Go.Proofs.YtenbnmbbfeekpabGreatDoor

theorem ord_of : ∀ (X : List (List UInt8)), (∀ y ∈ X, y.length = 2) → X.Pairwise (fun x y => vl x < vl y) → ordP X.flatten = true
  | [], _, _ => rfl
  | [y], h, _ => by
    have h2 := h y (by simp)
    match y, h2 with
    | [a, b], _ => rfl
  | y :: z :: X, h, hp => by
    have h2 := h y (by simp)
    have h3 := h z (by simp)
    obtain ⟨p1, p2⟩ := List.pairwise_cons.1 hp
    have ih := ord_of (z :: X) (fun u hu => h u (by simp [hu])) p2
    match y, z, h2, h3 with
    | [a, b], [c, e], _, _ =>
      have hlt := p1 [c, e] (by simp)
      rw [List.flatten_cons] at ih
      rw [List.flatten_cons, List.flatten_cons]
      show ordP (a :: b :: c :: e :: X.flatten) = true
      rw [ordP]
      have h4 : Op.bytesLess [a, b] [c, e] = true := by
        rw [less2, decide_eq_true_eq]
        exact hlt
      rw [h4, Bool.true_and]
      exact ih

theorem a_ap {x : Nat} {d : Dc} (hf : Fresh x d) (hok : DcOk d) (ha : Ap d.packs) : Ap (aD x d).packs := by
  refine ⟨fun p hp => ?_, fun p hp q hq hn hv => ?_, ?_⟩
  · rcases List.mem_cons.1 hp with rfl | hp
    · exact ⟨hf.nm, rfl, Nat.zero_le _, fun l hl => by simp [nwP] at hl, fun c hc => by simp [nwP] at hc, fun c hc => by simp [nwP] at hc⟩
    · exact hok.packs p hp
  · rcases List.mem_cons.1 hp with rfl | hp
    · rcases List.mem_cons.1 hq with rfl | hq
      · rfl
      · exact absurd hn.symm (hf.pk q hq)
    · rcases List.mem_cons.1 hq with rfl | hq
      · exact absurd hn (hf.pk p hp)
      · exact ha.ap p hp q hq hn hv
  · exact List.nodup_cons.2 ⟨fun h => hf.pk _ h rfl, ha.nd⟩
theorem pick_even {ps : List Pk} {P : List UInt8} (h : pickB ps P = true) : P.length % 2 = 0 := by
  unfold pickB at h
  simp only [Bool.and_eq_true, beq_iff_eq] at h
  exact h.1.1.1
theorem pick_make {d : Dc} (ha : Ap d.packs) (hl' : d.packs.length ≤ 20) {X : List (List UInt8)} (h2 : ∀ y ∈ X, y.length = 2) (hp : X.Pairwise (fun x y => vl x < vl y)) (hin : ∀ y ∈ X, ∃ p ∈ d.packs, pkI p = y) (hlen : X.length ≤ 400) : pickB d.packs X.flatten = true := by
  rw [pick_same ha hl']
  unfold prL
  have e1 := flat_len X h2
  rw [if_neg (by omega), if_pos (by omega)]
  obtain ⟨L, hL⟩ := rdL_all ha X.flatten.length [] X.flatten (Nat.le_refl _) (by rw [ch2_of X h2]; exact hin) (by rw [← ord_nil]; exact ord_of X h2 hp)
  rw [hL]
  rfl
theorem a_pick {x : Nat} {d : Dc} (hf : Fresh x d) (hok : DcOk d) (ha : Ap d.packs) (hl : d.packs.length < 20) {P : List UInt8} (h : pickB (aD x d).packs P = true) : pickB d.packs (drP x P) = true := by
  have hl' : (aD x d).packs.length ≤ 20 := by show (nwP x :: d.packs).length ≤ 20; simp; omega
  obtain ⟨L, _, pq, s1, _⟩ := pick_pq (a_ap hf hok ha) hl' h
  refine pick_make ha (by omega) (fun y hy => ch2_two P.length P (Nat.le_refl _) y (List.mem_filter.1 hy).1) (List.Pairwise.sublist List.filter_sublist s1) (fun y hy => ?_) ?_
  · obtain ⟨h1, h2⟩ := List.mem_filter.1 hy
    rw [← pq.keys] at h1
    obtain ⟨p, hp, rfl⟩ := List.mem_map.1 h1
    rcases List.mem_cons.1 (pq.sub p hp) with e | e
    · subst e; simp at h2
    · exact ⟨p, e, rfl⟩
  · have h1 := List.length_filter_le (fun y => !(y == pkI (nwP x))) (ch2 P)
    have h2 := ch2_len P.length P (Nat.le_refl _)
    have h3 := pick_len h (by omega)
    have h4 : P.length ≤ 2 * (aD x d).packs.length := by
      unfold pickB at h
      simp only [Bool.and_eq_true, decide_eq_true_eq] at h
      exact h.1.1.2
    omega
theorem b_pick {x : Nat} {d : Dc} (hf : Fresh x d) (hok : DcOk d) (ha : Ap d.packs) (hl : d.packs.length < 20) {P : List UInt8} (h : pickB d.packs P = true) : pickB (aD x d).packs P = true ∧ inB P (pkI (nwP x)) = false := by
  have hl' : (aD x d).packs.length ≤ 20 := by show (nwP x :: d.packs).length ≤ 20; simp; omega
  obtain ⟨L, _, pq, s1, f1⟩ := pick_pq ha (by omega) h
  have hin : ∀ y ∈ ch2 P, ∃ p ∈ d.packs, pkI p = y := by
    intro y hy
    rw [← pq.keys] at hy
    obtain ⟨p, hp, rfl⟩ := List.mem_map.1 hy
    exact ⟨p, pq.sub p hp, rfl⟩
  constructor
  · rw [← f1]
    have h4 : P.length ≤ 2 * d.packs.length := by
      unfold pickB at h
      simp only [Bool.and_eq_true, decide_eq_true_eq] at h
      exact h.1.1.2
    have h2 := ch2_len P.length P (Nat.le_refl _)
    exact pick_make (d := aD x d) (a_ap hf hok ha) hl' (ch2_two P.length P (Nat.le_refl _)) s1 (fun y hy => by
      obtain ⟨p, hp, e⟩ := hin y hy
      exact ⟨p, List.mem_cons_of_mem _ hp, e⟩) (by omega)
  · cases e : inB P (pkI (nwP x)) with
    | false => rfl
    | true =>
      rw [inB_iff] at e
      obtain ⟨p, hp, e'⟩ := hin _ e
      exact absurd e' (p_ne hf hok hp)
theorem a_right {x : Nat} {d : Dc} (hf : Fresh x d) (hok : DcOk d) (ha : Ap d.packs) (hl : d.packs.length < 20) {P : List UInt8} (h : rightB (aD x d) P = true) : rightB d (drP x P) = true := by
  unfold rightB at h ⊢
  rw [Bool.and_eq_true] at h ⊢
  exact ⟨a_pick hf hok ha hl h.1, by rw [← a_rule hf hok]; exact h.2⟩
theorem b_right {x : Nat} {d : Dc} (hf : Fresh x d) (hok : DcOk d) (ha : Ap d.packs) (hl : d.packs.length < 20) {P : List UInt8} (h : rightB d P = true) : rightB (aD x d) P = true ∧ inB P (pkI (nwP x)) = false ∧ P.length % 2 = 0 := by
  unfold rightB at h ⊢
  rw [Bool.and_eq_true] at h
  obtain ⟨h1, h2⟩ := b_pick hf hok ha hl h.1
  have he := pick_even h.1
  refine ⟨?_, h2, he⟩
  rw [Bool.and_eq_true]
  exact ⟨h1, by rw [a_rule hf hok, dr_self h2 he]; exact h.2⟩
theorem a_bt {x : Nat} {d : Dc} (hf : Fresh x d) (hok : DcOk d) {A B : List UInt8} (hA : inB A (pkI (nwP x)) = false) (eA : A.length % 2 = 0) (hB : inB B (pkI (nwP x)) = false) (eB : B.length % 2 = 0) : ∀ (n : Nat) (C : List UInt8), C.length ≤ n → btF (aD x d).packs A B C = btF d.packs A B C
  | _, [], _ => rfl
  | _, [_], _ => rfl
  | 0, _ :: _ :: _, hn => by simp at hn
  | n + 1, a :: b :: r, hn => by
    rw [btF, btF, a_num_out hf hok hA eA, a_num_out hf hok hB eB, a_bt hf hok hA eA hB eB n r (by simp at hn; omega)]
theorem a_sc {x : Nat} {d : Dc} (hf : Fresh x d) (hok : DcOk d) {P : List UInt8} (hP : inB P (pkI (nwP x)) = false) (eP : P.length % 2 = 0) (C : List UInt8) : ∀ k, scA (aD x d).packs P C k = scA d.packs P C k
  | 0 => rfl
  | k + 1 => by rw [scA, scA, a_sc hf hok hP eP C k, a_num_out hf hok hP eP]

/-- The same error; the best picks have the same score. -/
theorem ChooseP.aside {T : List UInt8 → List UInt8 → List UInt8} {E : List UInt8 → List UInt8 → Nat} (h : ChooseP T E) {t t' : List UInt8} {x : Nat} (h0 : rdE t = 0) (h1 : rdE t' = 0) (hd : dcV t' = aD x (dcV t)) (hf : Fresh x (dcV t)) (hl : (dcV t).packs.length < 20) {R : List UInt8} (hc : critB (45 :: 99 :: R) = true) :
    E t' (45 :: 99 :: R) = E t (45 :: 99 :: R) ∧ (E t (45 :: 99 :: R) ≠ 0 → E t (45 :: 99 :: R) = 7 ∧ T t (45 :: 99 :: R) = [] ∧ T t' (45 :: 99 :: R) = []) ∧
    (E t (45 :: 99 :: R) = 0 → usE t (45 :: 99 :: R) (T t (45 :: 99 :: R)) = 0 ∧ usE t' (45 :: 99 :: R) (T t' (45 :: 99 :: R)) = 0 ∧ usT t' (45 :: 99 :: R) (T t' (45 :: 99 :: R)) = usT t (45 :: 99 :: R) (T t (45 :: 99 :: R))) := by
  obtain ⟨_, hok, _, _, r5⟩ := rd_ok h0
  have ha : Ap (dcV t).packs := Ap.of h0
  by_cases h7 : E t (45 :: 99 :: R) = 7
  · obtain ⟨e1, e2⟩ := h.non t _ h0 hc h7
    by_cases g7 : E t' (45 :: 99 :: R) = 7
    · obtain ⟨f1, _⟩ := h.non t' _ h1 hc g7
      exact ⟨by rw [h7, g7], fun _ => ⟨h7, e1, f1⟩, fun h => by rw [h7] at h; cases h⟩
    · obtain ⟨_, f2, _⟩ := h.yes t' _ h1 hc g7
      rw [hd] at f2
      have := a_right hf hok ha hl f2
      rw [e2] at this
      cases this
  · obtain ⟨e1, e2, e3⟩ := h.yes t _ h0 hc h7
    obtain ⟨b1, b2, b3⟩ := b_right hf hok ha hl e2
    by_cases g7 : E t' (45 :: 99 :: R) = 7
    · have := (h.non t' _ h1 hc g7).2 (T t (45 :: 99 :: R))
      rw [hd, b1] at this
      cases this
    · obtain ⟨f1, f2, f3⟩ := h.yes t' _ h1 hc g7
      rw [hd] at f2 f3
      have f2' := f2
      have c1 := a_right hf hok ha hl f2
      obtain ⟨c2, c3, c4⟩ := b_right hf hok ha hl c1
      -- the best pick does without it
      have hout : inB (T t' (45 :: 99 :: R)) (pkI (nwP x)) = false := by
        cases e : inB (T t' (45 :: 99 :: R)) (pkI (nwP x)) with
        | false => rfl
        | true =>
          have hb := f3 _ c2
          rw [btF] at hb
          have n1 := a_num_in hf hok e
          have n2 := a_num_out hf hok c3 c4 99
          have n3 : (99 : UInt8).toNat = 99 := rfl
          rw [n3, n1, n2, if_neg (by omega)] at hb
          simp at hb
      have hev : (T t' (45 :: 99 :: R)).length % 2 = 0 := by
        unfold rightB at f2
        rw [Bool.and_eq_true] at f2
        exact pick_even f2.1
      rw [dr_self hout hev] at c1
      have l1 := e3 _ c1
      have l2 := f3 _ b1
      rw [a_bt hf hok b2 b3 hout hev _ _ (Nat.le_refl _)] at l2
      obtain ⟨u1, u2, u3⟩ := level h0 hc e2 c1 l2 l1
      refine ⟨by rw [e1, f1], fun g => absurd e1 g, fun _ => ⟨u1, ?_, ?_⟩⟩
      · rw [(score_same _ _ _).1]
        unfold scE
        unfold rightB at f2'
        rw [Bool.and_eq_true] at f2'
        rw [if_pos h1, if_pos hc, hd, if_pos f2'.1]
      · rw [u3, (score_same _ _ _).2, (score_same _ _ _).2]
        unfold scT
        unfold rightB at f2' c1
        rw [Bool.and_eq_true] at f2' c1
        rw [if_pos h1, if_pos hc, hd, if_pos f2'.1, if_pos h0, if_pos hc, if_pos c1.1, a_sc hf hok hout hev]

end Go.Proofs.YtenbnmbbfeekpabGreatDoor

/-
  The text with the package ahead of it is that document; which name does not stand in the text; how many packages there are. Plain mathematics.
-/
namespace Go.Proofs.YtenbnmbbfeekpabGreatDoor

def moreT (x : Nat) (t : List UInt8) : List UInt8 := b8 x :: 49 :: 58 :: 58 :: 58 :: 59 :: t
theorem more_T (x : Nat) (d : Dc) : moreT x (dcT d) = dcT (aD x d) := by
  unfold moreT dcT aD
  simp only
  have : pksT (nwP x :: d.packs) = pkT (nwP x) ++ pksT d.packs := by simp [pksT]
  rw [this]
  rfl
theorem ap_ft {ps : List Pk} (hb : Ap ps) : ¬ ftT ps < ps.length := by
  apply ft_of
  rw [List.Nodup, List.pairwise_map]
  refine List.Pairwise.imp_of_mem (fun {p q} hp hq hne g => hne ?_) hb.nd
  have g' : (p.n, p.v) = (q.n, q.v) := g
  injection g' with g1 g2
  exact hb.ap p hp q hq g1 g2
theorem more_ok {t : List UInt8} {x : Nat} (h0 : rdE t = 0) (hf : Fresh x (dcV t)) (hl : (dcV t).packs.length < 20) (hlen : t.length + 6 ≤ 800) : rdE (moreT x t) = 0 ∧ dcV (moreT x t) = aD x (dcV t) := by
  obtain ⟨r1, r2, r3, r4, r5⟩ := rd_ok h0
  have e : moreT x t = dcT (aD x (dcV t)) := by rw [← more_T, ← r1]
  have ha : Ap (dcV t).packs := Ap.of h0
  have hb := a_ap hf r2 ha
  have hok : DcOk (aD x (dcV t)) := ⟨hb.ok, r2.ins, r2.rem, r2.upg⟩
  obtain ⟨q1, q2⟩ := dc_rt hok
  have hlm : (moreT x t).length = t.length + 6 := by unfold moreT; simp
  have hk : ¬ ftT (aD x (dcV t)).packs < (aD x (dcV t)).packs.length := ap_ft hb
  rw [e] at hlm ⊢
  have hp : (aD x (dcV t)).packs.length ≤ 20 := by show (nwP x :: (dcV t).packs).length ≤ 20; simp; omega
  exact ⟨(rd_0 (by omega) q2 (by rw [q1]; omega) (by rw [q1]; exact hk)).1, q1⟩
theorem mem_join {z y : UInt8} : ∀ {l : List (List UInt8)} {a : List UInt8}, a ∈ l → y ∈ a → y ∈ joinT z l
  | [], _, h, _ => by simp at h
  | [b], a, h, hy => by rw [List.mem_singleton.1 h] at hy; exact hy
  | b :: c :: l, a, h, hy => by
    rw [joinT_cons (by simp)]
    rcases List.mem_cons.1 h with rfl | h
    · exact List.mem_append_left _ hy
    · exact List.mem_append_right _ (List.mem_cons_of_mem _ (mem_join h hy))
theorem mem_cn (c : Cn) : b8 c.n ∈ cnT c := by unfold cnT; split <;> simp
theorem mem_ls {l : List Cn} {c : Cn} (h : c ∈ l) : b8 c.n ∈ lsT l := mem_join (List.mem_map_of_mem h) (mem_cn c)
theorem fresh_of {t : List UInt8} {x : Nat} (h0 : rdE t = 0) (hx : nmB x = true) (hn : ∀ y ∈ t, y.toNat ≠ x) : Fresh x (dcV t) := by
  obtain ⟨r1, r2, _, _, _⟩ := rd_ok h0
  generalize dcV t = d at r1 r2
  subst r1
  have hx' := nm_rng hx
  have key : ∀ n : Nat, nmB n = true → b8 n ∈ dcT d → n ≠ x := by
    intro n hnm hm e
    have h1 := nm_rng hnm
    exact hn _ hm (by rw [b8_val (by omega)]; exact e)
  have pkIn : ∀ p ∈ d.packs, ∀ y ∈ pkT p, y ∈ dcT d := by
    intro p hp y hy
    unfold dcT
    exact List.mem_append_left _ (List.mem_flatMap.2 ⟨p, hp, hy⟩)
  refine ⟨hx, fun p hp => key _ (r2.packs p hp).n (pkIn p hp _ (by unfold pkT; simp)), fun p hp n hn' c hc => ?_, fun p hp c hc => ?_, fun c hc => ?_, fun c hc => ?_, fun c hc => ?_⟩
  · refine key _ (((r2.packs p hp).needs n hn').2 c hc).n (pkIn p hp _ ?_)
    have h1 : b8 c.n ∈ nsT p.needs := mem_join (List.mem_map_of_mem hn') (mem_join (List.mem_map_of_mem hc) (mem_cn c))
    unfold pkT
    simp [h1]
  · refine key _ ((r2.packs p hp).conf c hc).n (pkIn p hp _ ?_)
    have h1 := mem_ls hc
    unfold pkT
    simp [h1]
  · refine key _ (r2.ins c hc).n ?_
    have h1 := mem_ls hc
    unfold dcT
    simp [h1]
  · refine key _ (r2.rem c hc).n ?_
    have h1 := mem_ls hc
    unfold dcT
    simp [h1]
  · refine key _ (r2.upg c hc).n ?_
    have h1 := mem_ls hc
    unfold dcT
    simp [h1]
theorem cnt_free : ∀ {l : List UInt8}, Free 59 l → l.countP (fun y => y.toNat == 59) = 0 := by
  intro l h
  rw [List.countP_eq_zero]
  intro y hy e
  rw [beq_iff_eq] at e
  exact h y hy (UInt8.toNat_inj.1 e)
theorem cnt_packs {d : Dc} (h : DcOk d) : (dcT d).countP (fun y => y.toNat == 59) = d.packs.length := by
  have hs : Sep 59 := by unfold Sep; simp
  have e1 : ∀ (l : List Pk), (∀ p ∈ l, PkOk p) → (pksT l).countP (fun y => y.toNat == 59) = l.length := by
    intro l
    induction l with
    | nil => intro _; rfl
    | cons p l ih =>
      intro hp
      have : pksT (p :: l) = pkT p ++ pksT l := by simp [pksT]
      rw [this, List.countP_append, ih (fun q hq => hp q (by simp [hq])), pkT_eq, List.countP_append, cnt_free (pkB_free (hp p (by simp)) hs (by decide) (by decide) (by decide))]
      simp
      omega
  unfold dcT
  rw [List.countP_append, e1 _ h.packs, List.countP_cons, List.countP_append, List.countP_cons, List.countP_append, List.countP_cons,
    cnt_free (ls_free h.ins hs (by decide)), cnt_free (ls_free h.rem hs (by decide)), cnt_free (ls_free h.upg hs (by decide))]
  rfl

end Go.Proofs.YtenbnmbbfeekpabGreatDoor
