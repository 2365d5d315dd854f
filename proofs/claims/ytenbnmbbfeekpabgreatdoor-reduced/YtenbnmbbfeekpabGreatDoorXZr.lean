import Derived.Test.YtenbnmbbfeekpabGreatDoorXZ
import Derived.Test.YtenbnmbbfeekpabGreatDoorXQ

/-
  Clauses as the needs of one package beside names with two versions: a valid pick is an assignment that meets them. Plain mathematics.
-/
namespace Go.Proofs.YtenbnmbbfeekpabGreatDoor

/-- A literal of the six variables. -/
def rlB (y : Nat) : Bool := (decide (97 ≤ y) && decide (y ≤ 102)) || (decide (65 ≤ y) && decide (y ≤ 70))
theorem rl_lit {y : Nat} (h : rlB y = true) : litB y = true := by unfold rlB at h; unfold litB; simp at *; omega
theorem rl_var {y : Nat} (h : rlB y = true) : litV y < 6 := by unfold rlB at h; unfold litV; simp at h; split <;> omega
def lvN (y : Nat) : Nat := if litS y then 50 else 49
def lcN (y : Nat) : Cn := { n := 97 + litV y, s := 61, v := lvN y }
def ndO (c : List UInt8) : List Cn := c.map fun y => lcN y.toNat
structure ClOk (c : List UInt8) : Prop where
  ne : c ≠ []
  rl : ∀ y ∈ c, rlB y.toNat = true
/-- One of two versions of a name. -/
def paP (v ver : Nat) : Pk := { n := 97 + v, v := ver, m := 0, needs := [], conf := [{ n := 97 + v, s := 61, v := 99 - ver }], prov := [] }
def qP (cls : List (List UInt8)) : Pk := { n := 113, v := 49, m := 0, needs := cls.map ndO, conf := [], prov := [] }
def twelve : List Pk := [paP 0 49, paP 0 50, paP 1 49, paP 1 50, paP 2 49, paP 2 50, paP 3 49, paP 3 50, paP 4 49, paP 4 50, paP 5 49, paP 5 50]
def rD (cls : List (List UInt8)) : Dc := { packs := twelve ++ [qP cls], ins := [{ n := 113, s := 0, v := 0 }], rem := [], upg := [] }
theorem mem_twelve {p : Pk} (h : p ∈ twelve) : ∃ v ver, v < 6 ∧ (ver = 49 ∨ ver = 50) ∧ p = paP v ver := by
  unfold twelve at h
  simp only [List.mem_cons, List.not_mem_nil, or_false] at h
  rcases h with h | h | h | h | h | h | h | h | h | h | h | h <;> exact ⟨_, _, by omega, by omega, h⟩
theorem pa_mem {v ver : Nat} (hv : v < 6) (hr : ver = 49 ∨ ver = 50) : paP v ver ∈ twelve := by
  unfold twelve
  rcases (by omega : v = 0 ∨ v = 1 ∨ v = 2 ∨ v = 3 ∨ v = 4 ∨ v = 5) with rfl | rfl | rfl | rfl | rfl | rfl <;> rcases hr with rfl | rfl <;> simp
theorem pa_ok {v ver : Nat} (hv : v < 6) (hr : ver = 49 ∨ ver = 50) : PkOk (paP v ver) where
  n := by show nmB ((97 + v : Nat) : Int) = true; unfold nmB; simp; omega
  v := by show vrB ((ver : Nat) : Int) = true; unfold vrB; simp; omega
  m := Nat.zero_le _
  needs := fun l hl => by simp [paP] at hl
  conf := fun c hc => by
    simp [paP] at hc
    subst hc
    refine ⟨?_, Or.inr ⟨rfl, ?_⟩⟩
    · show nmB ((97 + v : Nat) : Int) = true; unfold nmB; simp; omega
    · show vrB ((99 - ver : Nat) : Int) = true; unfold vrB; simp; omega
  prov := fun c hc => by simp [paP] at hc
theorem lc_ok {y : Nat} (h : rlB y = true) : CnOk (lcN y) := by
  have h1 := rl_var h
  refine ⟨?_, Or.inr ⟨rfl, ?_⟩⟩
  · show nmB ((97 + litV y : Nat) : Int) = true; unfold nmB; simp; omega
  · show vrB ((lvN y : Nat) : Int) = true; unfold vrB lvN; split <;> simp
theorem nd_okO {c : List UInt8} (h : ClOk c) : NdOk (ndO c) := by
  refine ⟨?_, fun d hd => ?_⟩
  · unfold ndO; simpa using h.ne
  · obtain ⟨y, hy, rfl⟩ := List.mem_map.1 hd
    exact lc_ok (h.rl y hy)
theorem r_ok {cls : List (List UInt8)} (h : ∀ c ∈ cls, ClOk c) : DcOk (rD cls) where
  packs := fun p hp => by
    rcases List.mem_append.1 hp with hp | hp
    · obtain ⟨v, ver, hv, hr, rfl⟩ := mem_twelve hp
      exact pa_ok hv hr
    · rw [List.mem_singleton.1 hp]
      exact ⟨rfl, rfl, Nat.zero_le _, fun l hl => by
        obtain ⟨c, hc, rfl⟩ := List.mem_map.1 hl
        exact nd_okO (h c hc), fun c hc => by simp [qP] at hc, fun c hc => by simp [qP] at hc⟩
  ins := fun c hc => by
    simp [rD] at hc
    subst hc
    exact ⟨by decide, Or.inl ⟨rfl, rfl⟩⟩
  rem := fun c hc => by simp [rD] at hc
  upg := fun c hc => by simp [rD] at hc
theorem r_ap {cls : List (List UInt8)} (h : ∀ c ∈ cls, ClOk c) : Ap (rD cls).packs := by
  have hn : ((rD cls).packs.map fun p => (p.n, p.v)).Nodup := by
    have e : (rD cls).packs.map (fun p => (p.n, p.v)) = [(97, 49), (97, 50), (98, 49), (98, 50), (99, 49), (99, 50), (100, 49), (100, 50), (101, 49), (101, 50), (102, 49), (102, 50), (113, 49)] := rfl
    rw [e]
    decide
  refine ⟨(r_ok h).packs, fun p hp q hq hn' hv => ?_, ?_⟩
  · have := ft_of hn
    exact ft_apart this hp hq hn' hv
  · exact ft_nodup (ft_of hn)
theorem r_len (cls : List (List UInt8)) : (rD cls).packs.length = 13 := rfl

/-- A package that a constraint with '=' names. -/
theorem fit_eqv {p : Pk} {c : Cn} (hs : c.s = 61) : fitB p c = (p.n == c.n && p.v == c.v) := by
  unfold fitB
  rw [hs, if_neg (by decide)]
  simp
theorem fitted_eqv {ps : List Pk} (ha : Ap ps) {p : Pk} (hp : p ∈ ps) {c : Cn} (hs : c.s = 61) (hn : p.n = c.n) (hv : p.v = c.v) (O but : List UInt8) : fittedB ps O c but = (inB O (pkI p) && !(pkI p == but)) := by
  unfold fittedB
  rw [Bool.eq_iff_iff, List.any_eq_true]
  constructor
  · rintro ⟨q, hq, g⟩
    rw [Bool.and_eq_true, Bool.and_eq_true, fit_eqv hs, Bool.and_eq_true, beq_iff_eq, beq_iff_eq] at g
    have : q = p := ha.ap q hq p hp (by rw [g.1.2.1, hn]) (by rw [g.1.2.2, hv])
    subst this
    rw [Bool.and_eq_true]
    exact ⟨g.1.1, g.2⟩
  · intro g
    rw [Bool.and_eq_true] at g
    refine ⟨p, hp, ?_⟩
    rw [g.1, g.2, fit_eqv hs, hn, hv]
    simp

theorem lit_fit {cls : List (List UInt8)} (h : ∀ c ∈ cls, ClOk c) {y : Nat} (hy : rlB y = true) (O : List UInt8) : fittedB (rD cls).packs O (lcN y) [] = inB O [b8 (97 + litV y), b8 (lvN y)] := by
  have hv : lvN y = 49 ∨ lvN y = 50 := by unfold lvN; split <;> simp
  rw [fitted_eqv (r_ap h) (p := paP (litV y) (lvN y)) (List.mem_append_left _ (pa_mem (rl_var hy) hv)) rfl rfl rfl O []]
  have e : (pkI (paP (litV y) (lvN y)) == []) = false := rfl
  rw [e]
  simp [pkI, paP]
theorem con_fit {cls : List (List UInt8)} (h : ∀ c ∈ cls, ClOk c) {v ver : Nat} (hv : v < 6) (hr : ver = 49 ∨ ver = 50) (O : List UInt8) : fittedB (rD cls).packs O { n := 97 + v, s := 61, v := 99 - ver } (pkI (paP v ver)) = inB O [b8 (97 + v), b8 (99 - ver)] := by
  have hr' : 99 - ver = 49 ∨ 99 - ver = 50 := by omega
  rw [fitted_eqv (r_ap h) (p := paP v (99 - ver)) (List.mem_append_left _ (pa_mem hv hr')) rfl rfl rfl O _]
  have e : (pkI (paP v (99 - ver)) == pkI (paP v ver)) = false := by
    rw [beq_eq_false_iff_ne]
    intro e
    have e' : [b8 (97 + v), b8 (99 - ver)] = [b8 (97 + v), b8 ver] := e
    injection e' with _ e'
    injection e' with e' _
    have := b8_inj (by omega) (by omega) e'
    omega
  rw [e]
  simp [pkI, paP]
theorem ins_fit {cls : List (List UInt8)} (O : List UInt8) : fittedB (rD cls).packs O { n := 113, s := 0, v := 0 } [] = inB O [b8 113, b8 49] := by
  unfold fittedB
  rw [Bool.eq_iff_iff, List.any_eq_true]
  constructor
  · rintro ⟨q, hq, g⟩
    rw [Bool.and_eq_true, Bool.and_eq_true] at g
    rcases List.mem_append.1 hq with hq | hq
    · obtain ⟨v, ver, hv, hr, rfl⟩ := mem_twelve hq
      have g2 := g.1.2
      unfold fitB paP at g2
      simp at g2
      omega
    · rw [List.mem_singleton.1 hq] at g
      exact g.1.1
  · intro g
    refine ⟨qP cls, by unfold rD; simp, ?_⟩
    have e : inB O (pkI (qP cls)) = true := g
    rw [e]
    rfl
/-- What a valid pick has. -/
theorem red_valid {cls : List (List UInt8)} (h : ∀ c ∈ cls, ClOk c) {O : List UInt8} (hO : rightB (rD cls) O = true) :
    inB O [b8 113, b8 49] = true ∧ (∀ v, v < 6 → ¬ (inB O [b8 (97 + v), b8 49] = true ∧ inB O [b8 (97 + v), b8 50] = true)) ∧ ∀ c ∈ cls, ∃ y ∈ c, inB O [b8 (97 + litV y.toNat), b8 (lvN y.toNat)] = true := by
  unfold rightB at hO
  rw [Bool.and_eq_true, beq_iff_eq] at hO
  have hr := hO.2
  unfold ruleN at hr
  split at hr
  · rename_i h1
    split at hr
    · rename_i h2
      split at hr
      · split at hr
        · rename_i h4
          have hq : inB O [b8 113, b8 49] = true := by
            rw [List.all_eq_true] at h4
            have := h4 { n := 113, s := 0, v := 0 } (by simp [rD])
            rw [ins_fit] at this
            exact this
          refine ⟨hq, fun v hv hb => ?_, fun c hc => ?_⟩
          · rw [List.all_eq_true] at h2
            have := h2 (paP v 49) (List.mem_append_left _ (pa_mem hv (Or.inl rfl)))
            unfold r2 at this
            have e1 : inB O [b8 (paP v 49).n, b8 (paP v 49).v] = true := hb.1
            rw [e1] at this
            have e2 : besideB (rD cls).packs O (paP v 49) = !inB O [b8 (97 + v), b8 50] := by
              unfold besideB
              show ([{ n := 97 + v, s := 61, v := 99 - 49 }] : List Cn).all _ = _
              rw [List.all_cons, List.all_nil, Bool.and_true, con_fit h hv (Or.inl rfl)]
            rw [e2, hb.2] at this
            cases this
          · rw [List.all_eq_true] at h1
            have := h1 (qP cls) (by unfold rD; simp)
            unfold r1 at this
            have e1 : inB O [b8 (qP cls).n, b8 (qP cls).v] = true := hq
            rw [e1] at this
            have hm : metB (rD cls).packs O (qP cls) = true := by simpa using this
            unfold metB at hm
            rw [List.all_eq_true] at hm
            have := hm (ndO c) (List.mem_map_of_mem hc)
            rw [List.any_eq_true] at this
            obtain ⟨d, hd, g⟩ := this
            obtain ⟨y, hy, rfl⟩ := List.mem_map.1 hd
            rw [lit_fit h ((h c hc).rl y hy)] at g
            exact ⟨y, hy, g⟩
        · cases hr
      · cases hr
    · cases hr
  · cases hr
/-- The assignment of a pick. -/
theorem red_meets {cls : List (List UInt8)} (h : ∀ c ∈ cls, ClOk c) {O : List UInt8} (hO : rightB (rD cls) O = true) : ∀ c ∈ cls, ∃ y ∈ c, trB (fun v => inB O [b8 (97 + v), b8 50]) y.toNat = true := by
  obtain ⟨_, h2, h3⟩ := red_valid h hO
  intro c hc
  obtain ⟨y, hy, g⟩ := h3 c hc
  refine ⟨y, hy, ?_⟩
  have hv := rl_var ((h c hc).rl y hy)
  unfold trB
  unfold lvN at g
  cases hs : litS y.toNat with
  | true =>
    rw [hs] at g
    simp only [if_true] at g
    show (inB O [b8 (97 + litV y.toNat), b8 50] == true) = true
    rw [g]
    rfl
  | false =>
    rw [hs] at g
    simp only [Bool.false_eq_true, if_false] at g
    have : inB O [b8 (97 + litV y.toNat), b8 50] = false := by
      cases e : inB O [b8 (97 + litV y.toNat), b8 50] with
      | false => rfl
      | true => exact absurd ⟨g, e⟩ (h2 _ hv)
    show (inB O [b8 (97 + litV y.toNat), b8 50] == false) = true
    rw [this]
    rfl
/-- The pick of an assignment. -/
def asX (f : Nat → Bool) : List (List UInt8) := ([0, 1, 2, 3, 4, 5].map fun v => [b8 (97 + v), b8 (if f v then 50 else 49)]) ++ [[b8 113, b8 49]]
theorem asX_two (f : Nat → Bool) : ∀ y ∈ asX f, y.length = 2 := by
  intro y hy
  rcases List.mem_append.1 hy with hy | hy
  · obtain ⟨v, _, rfl⟩ := List.mem_map.1 hy; rfl
  · rw [List.mem_singleton.1 hy]; rfl
theorem asX_asc (f : Nat → Bool) : (asX f).Pairwise (fun x y => vl x < vl y) := by
  unfold asX
  simp only [List.map_cons, List.map_nil]
  cases f 0 <;> cases f 1 <;> cases f 2 <;> cases f 3 <;> cases f 4 <;> cases f 5 <;> decide
theorem asX_in (f : Nat → Bool) {v ver : Nat} (hv : v < 6) (hr : ver = 49 ∨ ver = 50) : [b8 (97 + v), b8 ver] ∈ asX f ↔ ver = if f v then 50 else 49 := by
  constructor
  · intro g
    rcases List.mem_append.1 g with g | g
    · obtain ⟨u, hu, e⟩ := List.mem_map.1 g
      injection e with e1 e2
      injection e2 with e2 _
      have hu6 : u < 6 := by simp at hu; omega
      have := b8_inj (by omega) (by omega) e1
      have huv : u = v := by omega
      subst huv
      exact (b8_inj (by split <;> omega) (by omega) e2).symm
    · have := List.mem_singleton.1 g
      injection this with e1 _
      have := b8_inj (by omega) (by omega) e1
      omega
  · intro e
    refine List.mem_append_left _ (List.mem_map.2 ⟨v, by simp; omega, by rw [e]⟩)
theorem red_make {cls : List (List UInt8)} (h : ∀ c ∈ cls, ClOk c) (f : Nat → Bool) (hf : ∀ c ∈ cls, ∃ y ∈ c, trB f y.toNat = true) : rightB (rD cls) (asX f).flatten = true := by
  have hin : ∀ {v ver : Nat}, v < 6 → (ver = 49 ∨ ver = 50) → (inB (asX f).flatten [b8 (97 + v), b8 ver] = true ↔ ver = if f v then 50 else 49) := by
    intro v ver hv hr
    rw [inB_iff, ch2_of _ (asX_two f)]
    exact asX_in f hv hr
  have hq : inB (asX f).flatten [b8 113, b8 49] = true := by
    rw [inB_iff, ch2_of _ (asX_two f)]
    exact List.mem_append_right _ (by simp)
  unfold rightB
  rw [Bool.and_eq_true]
  constructor
  · refine pick_make (r_ap h) (by rw [r_len]; omega) (asX_two f) (asX_asc f) (fun y hy => ?_) (by unfold asX; simp)
    rcases List.mem_append.1 hy with hy | hy
    · obtain ⟨u, hu, rfl⟩ := List.mem_map.1 hy
      have hu6 : u < 6 := by simp at hu; omega
      exact ⟨paP u (if f u then 50 else 49), List.mem_append_left _ (pa_mem hu6 (by split <;> simp)), rfl⟩
    · rw [List.mem_singleton.1 hy]
      exact ⟨qP cls, by unfold rD; simp, rfl⟩
  · have q1 : (rD cls).packs.all (r1 (rD cls).packs (asX f).flatten) = true := by
      rw [List.all_eq_true]
      intro p hp
      rcases List.mem_append.1 hp with hp | hp
      · obtain ⟨v, ver, _, _, rfl⟩ := mem_twelve hp
        unfold r1 metB paP
        simp
      · rw [List.mem_singleton.1 hp]
        have hm : metB (rD cls).packs (asX f).flatten (qP cls) = true := by
          unfold metB
          rw [List.all_eq_true]
          intro n hn
          obtain ⟨c, hc, rfl⟩ := List.mem_map.1 hn
          rw [List.any_eq_true]
          obtain ⟨y, hy, g⟩ := hf c hc
          have hrl := (h c hc).rl y hy
          refine ⟨lcN y.toNat, List.mem_map.2 ⟨y, hy, rfl⟩, ?_⟩
          rw [lit_fit h hrl, hin (rl_var hrl) (by unfold lvN; split <;> simp)]
          unfold trB at g
          unfold lvN
          rw [beq_iff_eq.1 g]
        unfold r1
        rw [hm]
        simp
    have q2 : (rD cls).packs.all (r2 (rD cls).packs (asX f).flatten) = true := by
      rw [List.all_eq_true]
      intro p hp
      rcases List.mem_append.1 hp with hp | hp
      · obtain ⟨v, ver, hv, hr, rfl⟩ := mem_twelve hp
        unfold r2
        have e2 : besideB (rD cls).packs (asX f).flatten (paP v ver) = !inB (asX f).flatten [b8 (97 + v), b8 (99 - ver)] := by
          unfold besideB
          show ([{ n := 97 + v, s := 61, v := 99 - ver }] : List Cn).all _ = _
          rw [List.all_cons, List.all_nil, Bool.and_true, con_fit h hv hr]
        have e1 : inB (asX f).flatten [b8 (paP v ver).n, b8 (paP v ver).v] = inB (asX f).flatten [b8 (97 + v), b8 ver] := rfl
        rw [e1, e2]
        cases g1 : inB (asX f).flatten [b8 (97 + v), b8 ver] with
        | false => rfl
        | true =>
          have k1 := (hin hv hr).1 g1
          cases g2 : inB (asX f).flatten [b8 (97 + v), b8 (99 - ver)] with
          | false => rfl
          | true =>
            have k2 := (hin hv (by omega)).1 g2
            omega
      · rw [List.mem_singleton.1 hp]
        unfold r2 besideB qP
        simp
    have q3 : staysB (rD cls).packs (asX f).flatten = true := by
      unfold staysB
      rw [List.all_eq_true]
      intro p hp
      rcases List.mem_append.1 hp with hp | hp
      · obtain ⟨v, ver, _, _, rfl⟩ := mem_twelve hp
        rfl
      · rw [List.mem_singleton.1 hp]
        rfl
    have q4 : (rD cls).ins.all (fun c => fittedB (rD cls).packs (asX f).flatten c []) = true := by
      show ([{ n := 113, s := 0, v := 0 }] : List Cn).all _ = true
      rw [List.all_cons, List.all_nil, Bool.and_true, ins_fit]
      exact hq
    unfold ruleN
    rw [q1, q2, q3, q4]
    rfl

end Go.Proofs.YtenbnmbbfeekpabGreatDoor

/-
  The texts of clauses and of their document; what Solve and Choose answer of them. Plain mathematics.
-/
namespace Go.Proofs.YtenbnmbbfeekpabGreatDoor

def clT (cls : List (List UInt8)) : List UInt8 := cls.flatMap fun c => c ++ [59]
def twT : List UInt8 := pksT twelve
def needsT (cls : List (List UInt8)) : List UInt8 := joinT 44 (cls.map fun c => ndT (ndO c))
def redT (cls : List (List UInt8)) : List UInt8 := twT ++ [113, 49, 58] ++ needsT cls ++ [58, 58, 59, 47, 113, 47, 47]
theorem red_T (cls : List (List UInt8)) : redT cls = dcT (rD cls) := by
  unfold redT dcT rD needsT twT
  simp only
  have e1 : pksT (twelve ++ [qP cls]) = pksT twelve ++ pkT (qP cls) := by simp [pksT]
  have e2 : pkT (qP cls) = [113, 49, 58] ++ (nsT (cls.map ndO) ++ [58, 58, 59]) := by
    show b8 113 :: b8 49 :: (mkT 0 ++ 58 :: (nsT (cls.map ndO) ++ 58 :: (lsT [] ++ 58 :: (nmT [] ++ [59])))) = _
    have a1 : mkT 0 = [] := rfl
    have a2 : lsT [] = [] := rfl
    have a3 : nmT [] = [] := rfl
    have a4 : b8 113 = 113 := rfl
    have a5 : b8 49 = 49 := rfl
    rw [a1, a2, a3, a4, a5]
    simp
  have e3 : lsT [({ n := 113, s := 0, v := 0 } : Cn)] = [113] := rfl
  have e4 : lsT [] = [] := rfl
  have e5 : nsT (cls.map ndO) = joinT 44 (cls.map fun c => ndT (ndO c)) := by unfold nsT; rw [List.map_map]; rfl
  rw [e1, e2, e3, e4, e5]
  simp
/-- Small: thirty of three at most. -/
structure ClSm (cls : List (List UInt8)) : Prop where
  ok : ∀ c ∈ cls, ClOk c
  n : cls.length ≤ 30
  m : ∀ c ∈ cls, c.length ≤ 3
theorem sum_le {α : Type} (g : α → Nat) (k : Nat) : ∀ (l : List α), (∀ a ∈ l, g a ≤ k) → (l.map g).sum ≤ k * l.length
  | [], _ => by simp
  | a :: l, h => by
    have := sum_le g k l (fun b hb => h b (by simp [hb]))
    have := h a (by simp)
    simp only [List.map_cons, List.sum_cons, List.length_cons, Nat.mul_succ]
    omega
theorem nd_small {c : List UInt8} (h : c.length ≤ 3) : (ndT (ndO c)).length ≤ 11 := by
  unfold ndT
  rw [joinT_sum, List.map_map]
  have h1 := sum_le (List.length ∘ cnT) 3 (ndO c) (fun d _ => by simp only [Function.comp_apply]; unfold cnT; split <;> simp)
  have h2 : (ndO c).length = c.length := by unfold ndO; simp
  rw [List.length_map, h2]
  rw [h2] at h1
  omega
theorem needs_small {cls : List (List UInt8)} (h : ClSm cls) : (needsT cls).length ≤ 360 := by
  unfold needsT
  rw [joinT_sum, List.map_map]
  have h1 := sum_le (List.length ∘ fun c => ndT (ndO c)) 11 cls (fun c hc => nd_small (h.m c hc))
  have := h.n
  rw [List.length_map]
  omega
theorem tw_len : twT.length = 108 := by decide +kernel
theorem red_ok {cls : List (List UInt8)} (h : ClSm cls) : rdE (redT cls) = 0 ∧ dcV (redT cls) = rD cls ∧ (redT cls).length ≤ 800 := by
  have hl : (redT cls).length ≤ 800 := by
    have h1 := needs_small h
    have h2 := tw_len
    unfold redT
    simp only [List.length_append, List.length_cons, List.length_nil]
    omega
  obtain ⟨q1, q2⟩ := dc_rt (r_ok h.ok)
  rw [← red_T] at q1 q2
  refine ⟨(rd_0 (by omega) q2 (by rw [q1, r_len]; omega) (by rw [q1]; exact ap_ft (r_ap h.ok))).1, q1, hl⟩
theorem cl_len {cls : List (List UInt8)} (h : ClSm cls) : (clT cls).length ≤ 120 := by
  unfold clT
  rw [List.length_flatMap]
  have h1 := sum_le (fun c : List UInt8 => (c ++ [59]).length) 4 cls (fun c hc => by have := h.m c hc; simp; omega)
  have := h.n
  omega
theorem cl_met (f : Nat → Bool) : ∀ (cls : List (List UInt8)), (∀ c ∈ cls, ClOk c) → mtC f false (clT cls) = cls.all fun c => c.any fun y => trB f y.toNat
  | [], _ => rfl
  | c :: cls, h => by
    have e : clT (c :: cls) = c ++ 59 :: clT cls := by simp [clT]
    have key : ∀ (d : List UInt8) (s : Bool), (∀ y ∈ d, rlB y.toNat = true) → mtC f s (d ++ 59 :: clT cls) = ((s || d.any fun y => trB f y.toNat) && mtC f false (clT cls)) := by
      intro d
      induction d with
      | nil => intro s _; rw [List.nil_append, mtC, if_pos (by decide)]; simp
      | cons y d ih =>
        intro s hd
        have h59 : y.toNat ≠ 59 := by
          have := rl_lit (hd y (by simp))
          have := lit_rng this
          omega
        rw [List.cons_append, mtC, if_neg h59, ih _ (fun z hz => hd z (by simp [hz])), List.any_cons, Bool.or_assoc]
    rw [e, key c false (h c (by simp)).rl, cl_met f cls (fun d hd => h d (by simp [hd])), List.all_cons, Bool.false_or]
theorem cl_cl {cls : List (List UInt8)} (h : ∀ c ∈ cls, ClOk c) : ∀ y ∈ clT cls, clB y.toNat = true := by
  intro y hy
  obtain ⟨c, hc, hyc⟩ := List.mem_flatMap.1 hy
  rcases List.mem_append.1 hyc with g | g
  · unfold clB; rw [rl_lit ((h c hc).rl y g)]; rfl
  · rw [List.mem_singleton.1 g]; rfl
theorem cl_last : ∀ (cls : List (List UInt8)), lastB (clT cls) = true
  | [] => rfl
  | c :: cls => by
    have e : clT (c :: cls) = (c ++ [59]) ++ clT cls := by simp [clT]
    rw [e]
    refine last_app ?_ (cl_last cls)
    unfold lastB
    rw [List.getD_eq_getElem?_getD]
    simp
theorem cl_rf {cls : List (List UInt8)} (h : ClSm cls) : rfE (clT cls) [] = 0 :=
  rf_intro (by have := cl_len h; omega) (by simp) (cl_cl h.ok) (cl_last cls) (fun x hx => by simp at hx)
theorem cl_sat {cls : List (List UInt8)} (h : ClSm cls) (f : Nat → Bool) : mtB f (clT cls) [] = true ↔ ∀ c ∈ cls, ∃ y ∈ c, trB f y.toNat = true := by
  unfold mtB
  rw [cl_met f cls h.ok]
  simp [List.all_eq_true, List.any_eq_true]
/-- What Solve and Choose answer. -/
theorem red_law {TS : List UInt8 → List UInt8 → List UInt8} {BS : List UInt8 → List UInt8 → Bool} {T : List UInt8 → List UInt8 → List UInt8} {E : List UInt8 → List UInt8 → Nat} (hs : SolveP TS BS) (hc : ChooseP T E) {cls : List (List UInt8)} (h : ClSm cls) :
    (BS (clT cls) [] = false → E (redT cls) [45, 110] = 7 ∧ T (redT cls) [45, 110] = []) ∧
    (BS (clT cls) [] = true → E (redT cls) [45, 110] = 0 ∧ inB (T (redT cls) [45, 110]) [b8 113, b8 49] = true ∧
      (∀ v, v < 6 → ¬ (inB (T (redT cls) [45, 110]) [b8 (97 + v), b8 49] = true ∧ inB (T (redT cls) [45, 110]) [b8 (97 + v), b8 50] = true)) ∧
      ∀ c ∈ cls, ∃ y ∈ c, inB (T (redT cls) [45, 110]) [b8 (97 + litV y.toNat), b8 (lvN y.toNat)] = true) := by
  obtain ⟨r1, r2, _⟩ := red_ok h
  have hcr : critB [45, 110] = true := by decide
  constructor
  · intro hb
    by_cases h7 : E (redT cls) [45, 110] = 7
    · exact ⟨h7, (hc.non _ _ r1 hcr h7).1⟩
    · obtain ⟨_, e2, _⟩ := hc.yes _ _ r1 hcr h7
      rw [r2] at e2
      have hm := red_meets h.ok e2
      have := hs.yes (cl_rf h) _ ((cl_sat h _).2 hm)
      rw [hb] at this
      cases this
  · intro hb
    obtain ⟨f, hf⟩ := (hs.iff (cl_rf h)).1 hb
    have hm := red_make h.ok f ((cl_sat h f).1 hf)
    by_cases h7 : E (redT cls) [45, 110] = 7
    · have := (hc.non _ _ r1 hcr h7).2 (asX f).flatten
      rw [r2, hm] at this
      cases this
    · obtain ⟨e1, e2, _⟩ := hc.yes _ _ r1 hcr h7
      rw [r2] at e2
      obtain ⟨v1, v2, v3⟩ := red_valid h.ok e2
      exact ⟨e1, v1, v2, v3⟩

end Go.Proofs.YtenbnmbbfeekpabGreatDoor
