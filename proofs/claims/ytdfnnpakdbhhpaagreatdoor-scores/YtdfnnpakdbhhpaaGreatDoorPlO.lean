/-
  The reader against the table: marks, packages, documents. Plain mathematics.
-/
import Derived.Test.YtdfnnpakdbhhpaaGreatDoorPlN
namespace Go.Proofs.YtdfnnpakdbhhpaaGreatDoor

def mkT (m : Nat) : List UInt8 := if m = 0 then [] else if m = 1 then [43] else if m = 2 then [43, 33] else [43, 94]
theorem mk_run {t : List UInt8} (i : Nat) : ∃ j q, mkS t (i, false) = (j, false) ∧ PL t 2 i = PL t q j ∧ Cl t q j 58 5 false ∧ t.drop i = mkT (mkV t (i, false)) ++ t.drop j ∧ mkV t (i, false) ≤ 3 := by
  have cl : ∀ (q : Int) (j : Nat), 2 ≤ q → q ≤ 4 → (∀ c, t[j]? = some c → q = 2 → c.toNat ≠ 43) → (∀ c, t[j]? = some c → q = 3 → c.toNat ≠ 33 ∧ c.toNat ≠ 94) → Cl t q j 58 5 false := by
    intro q j h0 h1 h2 h3
    refine ⟨by unfold fin; simp; omega, fun c hc => ?_⟩
    rw [st_head _ _ (by omega)]
    have g2 := h2 c hc
    have g3 := h3 c hc
    rcases (by omega : q = 2 ∨ q = 3 ∨ q = 4) with rfl | rfl | rfl
    · have : ((c.toNat : Int) == 43) = false := by rw [beq_eq_false_iff_ne]; have := g2 rfl; omega
      simp [headF, this]; split <;> split <;> omega
    · have e1 : ((c.toNat : Int) == 33) = false := by rw [beq_eq_false_iff_ne]; have := (g3 rfl).1; omega
      have e2 : ((c.toNat : Int) == 94) = false := by rw [beq_eq_false_iff_ne]; have := (g3 rfl).2; omega
      simp [headF, e1, e2]; split <;> split <;> omega
    · simp [headF]; split <;> split <;> omega
  cases h1 : acB t 43 i false with
  | false =>
    obtain ⟨a1, a2⟩ := ac_no (by decide) h1
    refine ⟨i, 2, by unfold mkS acS; simp [h1, a2], rfl, cl 2 i (by omega) (by omega) (fun c hc _ => a1 c hc) (fun c hc h => by omega), ?_, ?_⟩
    · unfold mkV; simp [h1, mkT]
    · unfold mkV; simp [h1]
  | true =>
    obtain ⟨c, a1, a2, a3⟩ := ac_yes h1
    have hS : acS t 43 (i, false) = (i + 1, false) := by unfold acS; simp [a3]
    have hgo : PL t 2 i = PL t 3 (i + 1) := PL_go a1 (by rw [a2]; decide) (by decide)
    have hd1 : t.drop i = 43 :: t.drop (i + 1) := by rw [drop_at a1, show c = 43 from UInt8.toNat.inj a2]
    cases h2 : acB t 33 (i + 1) false with
    | true =>
      obtain ⟨d, b1, b2, b3⟩ := ac_yes h2
      have hS2 : acS t 33 (i + 1, false) = (i + 1 + 1, false) := by unfold acS; simp [b3]
      have hd2 : t.drop (i + 1) = 33 :: t.drop (i + 1 + 1) := by rw [drop_at b1, show d = 33 from UInt8.toNat.inj b2]
      refine ⟨i + 1 + 1, 4, by unfold mkS; simp [h1, hS, h2, hS2], hgo.trans (PL_go b1 (by rw [b2]; decide) (by decide)), cl 4 _ (by omega) (by omega) (fun _ _ h => by omega) (fun _ _ h => by omega), ?_, ?_⟩
      · unfold mkV; simp [h1, hS, h2, mkT, hd1, hd2]
      · unfold mkV; simp [h1, hS, h2]
    | false =>
      obtain ⟨b1, b2⟩ := ac_no (by decide) h2
      have hS2 : acS t 33 (i + 1, false) = (i + 1, false) := by unfold acS; simp [b2]
      cases h3 : acB t 94 (i + 1) false with
      | true =>
        obtain ⟨d, k1, k2, k3⟩ := ac_yes h3
        have hS3 : acS t 94 (i + 1, false) = (i + 1 + 1, false) := by unfold acS; simp [k3]
        have hd2 : t.drop (i + 1) = 94 :: t.drop (i + 1 + 1) := by rw [drop_at k1, show d = 94 from UInt8.toNat.inj k2]
        refine ⟨i + 1 + 1, 4, by unfold mkS; simp [h1, hS, h2, hS2, hS3], hgo.trans (PL_go k1 (by rw [k2]; decide) (by decide)), cl 4 _ (by omega) (by omega) (fun _ _ h => by omega) (fun _ _ h => by omega), ?_, ?_⟩
        · unfold mkV; simp [h1, hS, h2, hS2, h3, mkT, hd1, hd2]
        · unfold mkV; simp [h1, hS, h2, hS2, h3]
      | false =>
        obtain ⟨k1, k2⟩ := ac_no (by decide) h3
        have hS3 : acS t 94 (i + 1, false) = (i + 1, false) := by unfold acS; simp [k2]
        refine ⟨i + 1, 3, by unfold mkS; simp [h1, hS, h2, hS2, hS3], hgo, cl 3 _ (by omega) (by omega) (fun _ _ h => by omega) (fun c hc _ => ⟨b1 c hc, k1 c hc⟩), ?_, ?_⟩
        · unfold mkV; simp [h1, hS, h2, hS2, h3, mkT, hd1]
        · unfold mkV; simp [h1, hS, h2, hS2, h3]

def pkT (p : Pk) : List UInt8 := b8 p.n :: b8 p.v :: (mkT p.m ++ 58 :: (nsT p.needs ++ 58 :: (lsT p.conf ++ 58 :: (nmT p.prov ++ [59]))))
structure PkOk (p : Pk) : Prop where
  n : nmB p.n = true
  v : vrB p.v = true
  m : p.m ≤ 3
  needs : ∀ l ∈ p.needs, NdOk l
  conf : ∀ c ∈ p.conf, CnOk c
  prov : ∀ c ∈ p.prov, nmB (c : Nat) = true

/-- One step and then the next: a fault is a fault of the whole. -/
theorem pk_run {t : List UInt8} (i : Nat) (hn : naB t i false = true) :
    ((p5 t (i, false)).2 = false → PL t 0 i = PL t 0 (p5 t (i, false)).1 ∧ t.drop i = pkT (pkV t (i, false)) ++ t.drop (p5 t (i, false)).1 ∧ PkOk (pkV t (i, false))) ∧
    ((p5 t (i, false)).2 = true → PL t 0 i = (p5 t (i, false)).1) := by
  obtain ⟨c, hc, h1, h2, h3, h4⟩ := na_yes hn
  have hS : naS t (i, false) = (i + 1, false) := by unfold naS; simp [h3, h4]
  have hgo : PL t 0 i = PL t 1 (i + 1) := PL_go hc (by rw [st_head _ _ (by omega)]; simp [headF, h1]) (by decide)
  have E1 : p1 t (i, false) = veS t (i + 1, false) := by unfold p1; rw [hS]
  cases hv : veB t (i + 1) false with
  | false =>
    obtain ⟨k1, k2, k3⟩ := ve_no hv
    have e2 : veS t (i + 1, false) = (i + 1, true) := by unfold veS; simp [k2, k3]
    have e5 : p5 t (i, false) = (i + 1, true) := by unfold p5 p4 p3 p2; rw [E1, e2, mk_bad, ex_bad, nd_bad, ex_bad, cs_bad, ex_bad, nms_bad, ex_bad]
    rw [e5]
    refine ⟨fun h => (by cases h), fun _ => hgo.trans (PL_stop (by decide) fun d hd => ?_)⟩
    rw [st_head _ _ (by omega)]; simp [headF, k1 d hd]
  | true =>
    obtain ⟨v, hv', k1, k2, k3, k4⟩ := ve_yes hv
    have e2 : veS t (i + 1, false) = (i + 1 + 1, false) := by unfold veS; simp [k3, k4]
    have hgo2 : PL t 0 i = PL t 2 (i + 1 + 1) := hgo.trans (PL_go hv' (by rw [st_head _ _ (by omega)]; simp [headF, k1]) (by decide))
    obtain ⟨j, q, m1, m2, m3, m4, m5⟩ := mk_run (t := t) (i + 1 + 1)
    obtain ⟨x1, x2⟩ := ex_run m3 (by decide) (by decide)
    have E2 : p2 t (i, false) = exS t 58 (j, false) := by unfold p2; rw [E1, e2, m1]
    rcases hj2 : exS t 58 (j, false) with ⟨j2, bad2⟩
    rw [hj2] at x1 x2 E2
    cases bad2 with
    | true =>
      have e5 : p5 t (i, false) = (j2, true) := by unfold p5 p4 p3; rw [E2, nd_bad, ex_bad, cs_bad, ex_bad, nms_bad, ex_bad]
      rw [e5]
      exact ⟨fun h => (by cases h), fun _ => hgo2.trans (m2.trans (x2 rfl))⟩
    | false =>
      obtain ⟨x3, x4⟩ := x1 rfl
      have hgo3 : PL t 0 i = PL t 5 j2 := hgo2.trans (m2.trans x3)
      obtain ⟨y1, y2⟩ := ne_ex (t := t) j2
      have E3 : p3 t (i, false) = exS t 58 (neF t (j2, false)).2 := by unfold p3; rw [E2]
      rcases hj3 : exS t 58 (neF t (j2, false)).2 with ⟨j3, bad3⟩
      rw [hj3] at y1 y2 E3
      cases bad3 with
      | true =>
        have e5 : p5 t (i, false) = (j3, true) := by unfold p5 p4; rw [E3, cs_bad, ex_bad, nms_bad, ex_bad]
        rw [e5]
        exact ⟨fun h => (by cases h), fun _ => hgo3.trans (y2 rfl)⟩
      | false =>
        obtain ⟨y3, y4, y5⟩ := y1 rfl
        have hgo4 : PL t 0 i = PL t 13 j3 := hgo3.trans y3
        obtain ⟨z1, z2⟩ := cs_ex (t := t) lc (by decide) (by decide) j3
        have E4 : p4 t (i, false) = exS t 58 (csF t (j3, false)).2 := by unfold p4; rw [E3]
        rcases hj4 : exS t 58 (csF t (j3, false)).2 with ⟨j4, bad4⟩
        rw [hj4] at z1 z2 E4
        cases bad4 with
        | true =>
          have e5 : p5 t (i, false) = (j4, true) := by unfold p5; rw [E4, nms_bad, ex_bad]
          rw [e5]
          exact ⟨fun h => (by cases h), fun _ => hgo4.trans (z2 rfl)⟩
        | false =>
          obtain ⟨z3, z4, z5⟩ := z1 rfl
          have hgo5 : PL t 0 i = PL t 10 j4 := hgo4.trans z3
          obtain ⟨u1, u2⟩ := nms_ex (t := t) j4
          have E5 : p5 t (i, false) = exS t 59 (nmsF t (j4, false)).2 := by unfold p5; rw [E4]
          rw [E5]
          refine ⟨fun h => ?_, fun h => hgo5.trans (u2 h)⟩
          obtain ⟨u3, u4, u5⟩ := u1 h
          have eV : pkV t (i, false) = { n := c.toNat, v := v.toNat, m := mkV t (i + 1 + 1, false), needs := (neF t (j2, false)).1, conf := (csF t (j3, false)).1, prov := (nmsF t (j4, false)).1 } := by
            unfold pkV; rw [hS, E1, E2, E3, E4, e2]; simp [h2, k2]
          rw [eV]
          refine ⟨hgo5.trans u3, ?_, ⟨h1, k1, m5, y5, z5, u5⟩⟩
          rw [drop_at hc, drop_at hv', m4, x4, y4, z4, u4]
          simp [pkT, b8]

theorem pks_run {t : List UInt8} : ∀ (f i : Nat), t.length - i < f →
    ((pksF t f (i, false)).2.2 = false → PL t 0 i = PL t 0 (pksF t f (i, false)).2.1 ∧ (∀ c, t[(pksF t f (i, false)).2.1]? = some c → nmB c.toNat = false) ∧
      t.drop i = (pksF t f (i, false)).1.flatMap pkT ++ t.drop (pksF t f (i, false)).2.1 ∧ ∀ p ∈ (pksF t f (i, false)).1, PkOk p) ∧
    ((pksF t f (i, false)).2.2 = true → PL t 0 i = (pksF t f (i, false)).2.1)
  | 0, i, hf => by omega
  | f + 1, i, hf => by
    cases hn : naB t i false with
    | false =>
      rw [pksF_no (by exact hn)]
      exact ⟨fun _ => ⟨rfl, (na_no hn).1, by simp, by simp⟩, fun h => (by cases h)⟩
    | true =>
      rw [pksF_yes (by exact hn)]
      obtain ⟨c1, c2⟩ := pk_run (t := t) i hn
      have hge := p5_ge t (i, false) hn
      rcases hj : p5 t (i, false) with ⟨j, bad⟩
      rw [hj] at c1 c2 hge
      cases bad with
      | true =>
        rw [pksF_no (by exact (na_bad t j).1)]
        exact ⟨fun h => (by cases h), fun _ => c2 rfl⟩
      | false =>
        obtain ⟨k1, k2, k3⟩ := c1 rfl
        obtain ⟨c, hc, _⟩ := na_yes hn
        have hlt : i < t.length := (List.getElem?_eq_some_iff.1 hc).1
        have hge' : i + 1 ≤ j := hge
        obtain ⟨r1, r2⟩ := pks_run (t := t) f j (by omega)
        refine ⟨fun h => ?_, fun h => k1.trans (r2 h)⟩
        obtain ⟨e1, e2, e3, e4⟩ := r1 h
        refine ⟨k1.trans e1, e2, ?_, fun p hp => ?_⟩
        · rw [k2, e3]; simp
        · rcases List.mem_cons.1 hp with rfl | hp
          · exact k3
          · exact e4 p hp

structure DcOk (d : Dc) : Prop where
  packs : ∀ p ∈ d.packs, PkOk p
  ins : ∀ c ∈ d.ins, CnOk c
  rem : ∀ c ∈ d.rem, CnOk c
  upg : ∀ c ∈ d.upg, CnOk c
def pksT (l : List Pk) : List UInt8 := l.flatMap pkT
def dcT (d : Dc) : List UInt8 := pksT d.packs ++ 47 :: (lsT d.ins ++ 47 :: (lsT d.rem ++ 47 :: lsT d.upg))

theorem dc_run (t : List UInt8) : (dcBad t = false → plF 0 t 0 = -1 ∧ t = dcT (dcV t) ∧ DcOk (dcV t)) ∧ (dcBad t = true → plF 0 t 0 = dcI t) := by
  have h0 : plF 0 t 0 = PL t 0 0 := by unfold PL; simp
  rw [h0]
  obtain ⟨c1, c2⟩ := pks_run (t := t) (t.length + 2) 0 (by omega)
  have hd0 : d0 t = pksF t (t.length + 2) (0, false) := rfl
  rcases hj : pksF t (t.length + 2) (0, false) with ⟨ps, j, bad⟩
  rw [hj] at c1 c2 hd0
  have done : ∀ k, (csF t (d3 t)).2 = (k, true) → PL t 0 0 = k → (dcBad t = false → PL t 0 0 = -1 ∧ t = dcT (dcV t) ∧ DcOk (dcV t)) ∧ (dcBad t = true → PL t 0 0 = dcI t) := by
    intro k hk hP
    have e1 : dcI t = k := by unfold dcI; rw [hk]
    have e2 : dcBad t = true := by unfold dcBad; rw [hk]; simp
    exact ⟨fun h => (by rw [e2] at h; cases h), fun _ => (by rw [e1]; exact hP)⟩
  cases bad with
  | true => exact done j (by unfold d3 d2 d1; rw [hd0]; simp only [ex_bad, cs_bad]) (c2 rfl)
  | false =>
    obtain ⟨k1, k2, k3, k4⟩ := c1 rfl
    have hC : Cl t 0 j 47 18 false := ⟨by decide, fun c hc => by
      rw [st_head _ _ (by omega)]; simp [headF, k2 c hc]; split <;> split <;> omega⟩
    obtain ⟨x1, x2⟩ := ex_run hC (by decide) (by decide)
    have E1 : d1 t = exS t 47 (j, false) := by unfold d1; rw [hd0]
    rcases hj1 : exS t 47 (j, false) with ⟨j1, bad1⟩
    rw [hj1] at x1 x2 E1
    cases bad1 with
    | true => exact done j1 (by unfold d3 d2; rw [E1]; simp only [ex_bad, cs_bad]) (k1.trans (x2 rfl))
    | false =>
      obtain ⟨x3, x4⟩ := x1 rfl
      obtain ⟨y1, y2⟩ := cs_ex (t := t) l1 (by decide) (by decide) j1
      have E2 : d2 t = exS t 47 (csF t (j1, false)).2 := by unfold d2; rw [E1]
      rcases hj2 : exS t 47 (csF t (j1, false)).2 with ⟨j2, bad2⟩
      rw [hj2] at y1 y2 E2
      cases bad2 with
      | true => exact done j2 (by unfold d3; rw [E2]; simp only [ex_bad, cs_bad]) (k1.trans (x3.trans (y2 rfl)))
      | false =>
        obtain ⟨y3, y4, y5⟩ := y1 rfl
        obtain ⟨z1, z2⟩ := cs_ex (t := t) l2 (by decide) (by decide) j2
        have E3 : d3 t = exS t 47 (csF t (j2, false)).2 := by unfold d3; rw [E2]
        rcases hj3 : exS t 47 (csF t (j2, false)).2 with ⟨j3, bad3⟩
        rw [hj3] at z1 z2 E3
        cases bad3 with
        | true => exact done j3 (by rw [E3]; exact cs_bad t j3) (k1.trans (x3.trans (y3.trans (z2 rfl))))
        | false =>
          obtain ⟨z3, z4, z5⟩ := z1 rfl
          obtain ⟨u1, u2⟩ := cs_run (t := t) l3 j3
          rcases hj4 : csF t (j3, false) with ⟨lu, j4, bad4⟩
          rw [hj4] at u1 u2
          have E4 : (csF t (d3 t)) = (lu, j4, bad4) := by rw [E3]; exact hj4
          have hall : PL t 0 0 = PL t 28 j3 := k1.trans (x3.trans (y3.trans z3))
          cases bad4 with
          | true => exact done j4 (by rw [E4]) (hall.trans (u2 rfl))
          | false =>
            obtain ⟨q, e1, e2, e3, e4⟩ := u1 rfl
            have eI : dcI t = j4 := by unfold dcI; rw [E4]
            cases hc : t[j4]? with
            | some c =>
              have hlt : j4 < t.length := (List.getElem?_eq_some_iff.1 hc).1
              have eB : dcBad t = true := by unfold dcBad; rw [eI, if_pos hlt]
              refine ⟨fun h => (by rw [eB] at h; cases h), fun _ => ?_⟩
              rw [eI]
              refine hall.trans (e1.trans (PL_halt hc ?_))
              rw [e2.s c hc, if_neg (by have := UInt8.toNat_lt c; omega)]
            | none =>
              have hlt : ¬ j4 < t.length := by have := List.getElem?_eq_none_iff.1 hc; omega
              have eB : dcBad t = false := by unfold dcBad; rw [eI, if_neg hlt, E4]
              refine ⟨fun _ => ⟨hall.trans (e1.trans (PL_end e2.f hc)), ?_, ?_⟩, fun h => (by rw [eB] at h; cases h)⟩
              · have hV : dcV t = { packs := ps, ins := (csF t (j1, false)).1, rem := (csF t (j2, false)).1, upg := lu } := by unfold dcV; rw [hd0, E1, E2, E4]
                rw [hV]
                have hf : t.drop 0 = dcT { packs := ps, ins := (csF t (j1, false)).1, rem := (csF t (j2, false)).1, upg := lu } := by
                  rw [k3]
                  simp only
                  rw [x4]
                  simp only
                  rw [y4]
                  simp only
                  rw [z4]
                  simp only
                  rw [e3]
                  simp only
                  rw [drop_none hc]
                  simp [dcT, pksT, b8]
                simpa using hf
              · have hV : dcV t = { packs := ps, ins := (csF t (j1, false)).1, rem := (csF t (j2, false)).1, upg := lu } := by unfold dcV; rw [hd0, E1, E2, E4]
                rw [hV]
                exact ⟨k4, y5, z5, e4⟩

end Go.Proofs.YtdfnnpakdbhhpaaGreatDoor
