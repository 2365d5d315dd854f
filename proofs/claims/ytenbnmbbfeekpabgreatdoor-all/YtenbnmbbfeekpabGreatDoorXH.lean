import Derived.Test.YtenbnmbbfeekpabGreatDoorXF0

/-
  What the program reads in memory, as lists: views that any later memory keeps. Nothing of the dump but the types' numbers.
-/
namespace Go.Proofs.YtenbnmbbfeekpabGreatDoor
open Go.RowKit

def BV (w : World) (v : Value) (l : List Nat) : Prop := l.length ≤ 801 ∧ ∃ ao cap, v = .slice ao l.length cap ∧ ∀ j (h : j < l.length), ∃ g off, ao = some ⟨g, off, none⟩ ∧ g < w.heap.size ∧ w.cell? ⟨g, off + j, none⟩ = some (.int .u8 (l[j] : Int))
def CV (w : World) (v : Value) (l : List Cn) : Prop := l.length ≤ 801 ∧ ∃ ao cap, v = .slice ao l.length cap ∧ ∀ j (h : j < l.length), ∃ g off, ao = some ⟨g, off, none⟩ ∧ g < w.heap.size ∧ w.cell? ⟨g, off + j * 3, none⟩ = some (.int .u8 (l[j].n : Int)) ∧ w.cell? ⟨g, off + j * 3 + 1, none⟩ = some (.int .u8 (l[j].s : Int)) ∧ w.cell? ⟨g, off + j * 3 + 2, none⟩ = some (.int .u8 (l[j].v : Int))
def NV (w : World) (v : Value) (l : List (List Cn)) : Prop := l.length ≤ 801 ∧ ∃ ao cap, v = .slice ao l.length cap ∧ ∀ j (h : j < l.length), ∃ g off a n c, ao = some ⟨g, off, none⟩ ∧ g < w.heap.size ∧ w.cell? ⟨g, off + j, none⟩ = some (.slice a n c) ∧ CV w (.slice a n c) l[j]
/-- A package as a value. -/
def pkVal (p : Pk) (an : Option Addr) (nn cn : Nat) (ac : Option Addr) (nc cc : Nat) (ap : Option Addr) (np cp : Nat) : Array Value := #[.int .u8 p.n, .int .u8 p.v, .int .i64 p.m, .slice an nn cn, .slice ac nc cc, .slice ap np cp]
def PkV (w : World) (p : Pk) (an : Option Addr) (nn cn : Nat) (ac : Option Addr) (nc cc : Nat) (ap : Option Addr) (np cp : Nat) : Prop := NV w (.slice an nn cn) p.needs ∧ CV w (.slice ac nc cc) p.conf ∧ BV w (.slice ap np cp) p.prov
def PRw (w : World) (ao : Option Addr) (j : Nat) (p : Pk) : Prop := ∃ g off an nn cn ac nc cc ap np cp, ao = some ⟨g, off, none⟩ ∧ g < w.heap.size ∧ (w.cell? ⟨g, off + j * 6, none⟩ = some (.int .u8 p.n) ∧ w.cell? ⟨g, off + j * 6 + 1, none⟩ = some (.int .u8 p.v) ∧ w.cell? ⟨g, off + j * 6 + 2, none⟩ = some (.int .i64 p.m) ∧
  w.cell? ⟨g, off + j * 6 + 3, none⟩ = some (.slice an nn cn) ∧ w.cell? ⟨g, off + j * 6 + 4, none⟩ = some (.slice ac nc cc) ∧ w.cell? ⟨g, off + j * 6 + 5, none⟩ = some (.slice ap np cp)) ∧ PkV w p an nn cn ac nc cc ap np cp
/-- A part of a row of packages. -/
def PV (w : World) (ao : Option Addr) (ps : List Pk) : Prop := ps.length ≤ 801 ∧ ∀ j (h : j < ps.length), PRw w ao j ps[j]

theorem BV.below {w w' : World} {v : Value} {l : List Nat} (h : BV w v l) (hb : Below w.heap.size w w') : BV w' v l := by
  obtain ⟨h0, ao, cap, h1, h2⟩ := h
  refine ⟨h0, ao, cap, h1, fun j hj => ?_⟩
  obtain ⟨g, off, e, hg, x⟩ := h2 j hj
  exact ⟨g, off, e, Nat.lt_of_lt_of_le hg hb.size, (hb.cell (p := ⟨g, _, none⟩) hg).trans x⟩
theorem CV.below {w w' : World} {v : Value} {l : List Cn} (h : CV w v l) (hb : Below w.heap.size w w') : CV w' v l := by
  obtain ⟨h0, ao, cap, h1, h2⟩ := h
  refine ⟨h0, ao, cap, h1, fun j hj => ?_⟩
  obtain ⟨g, off, e, hg, x, y, z⟩ := h2 j hj
  exact ⟨g, off, e, Nat.lt_of_lt_of_le hg hb.size, (hb.cell (p := ⟨g, _, none⟩) hg).trans x, (hb.cell (p := ⟨g, _, none⟩) hg).trans y, (hb.cell (p := ⟨g, _, none⟩) hg).trans z⟩
theorem NV.below {w w' : World} {v : Value} {l : List (List Cn)} (h : NV w v l) (hb : Below w.heap.size w w') : NV w' v l := by
  obtain ⟨h0, ao, cap, h1, h2⟩ := h
  refine ⟨h0, ao, cap, h1, fun j hj => ?_⟩
  obtain ⟨g, off, a, n, c, e, hg, x, y⟩ := h2 j hj
  exact ⟨g, off, a, n, c, e, Nat.lt_of_lt_of_le hg hb.size, (hb.cell (p := ⟨g, _, none⟩) hg).trans x, y.below hb⟩
theorem PkV.below {w w' : World} {p : Pk} {an : Option Addr} {nn cn : Nat} {ac : Option Addr} {nc cc : Nat} {ap : Option Addr} {np cp : Nat} (h : PkV w p an nn cn ac nc cc ap np cp) (hb : Below w.heap.size w w') : PkV w' p an nn cn ac nc cc ap np cp := ⟨h.1.below hb, h.2.1.below hb, h.2.2.below hb⟩
theorem PRw.below {w w' : World} {ao : Option Addr} {j : Nat} {p : Pk} (h : PRw w ao j p) (hb : Below w.heap.size w w') : PRw w' ao j p := by
  obtain ⟨g, off, an, nn, cn, ac, nc, cc, ap, np, cp, e, hg, ⟨x0, x1, x2, x3, x4, x5⟩, k⟩ := h
  exact ⟨g, off, an, nn, cn, ac, nc, cc, ap, np, cp, e, Nat.lt_of_lt_of_le hg hb.size, ⟨(hb.cell (p := ⟨g, _, none⟩) hg).trans x0, (hb.cell (p := ⟨g, _, none⟩) hg).trans x1, (hb.cell (p := ⟨g, _, none⟩) hg).trans x2, (hb.cell (p := ⟨g, _, none⟩) hg).trans x3, (hb.cell (p := ⟨g, _, none⟩) hg).trans x4, (hb.cell (p := ⟨g, _, none⟩) hg).trans x5⟩, k.below hb⟩
theorem PV.below {w w' : World} {ao : Option Addr} {ps : List Pk} (h : PV w ao ps) (hb : Below w.heap.size w w') : PV w' ao ps := ⟨h.1, fun j hj => (h.2 j hj).below hb⟩
theorem PRw.rw {w : World} {ao : Option Addr} {j : Nat} {p : Pk} (h : PRw w ao j p) : PkRw w ao j p := by
  obtain ⟨g, off, an, nn, cn, ac, nc, cc, ap, np, cp, e, hg, ⟨x0, x1, x2, x3, x4, x5⟩, k⟩ := h
  exact ⟨g, off, an, nn, cn, ac, nc, cc, ap, np, cp, e, hg, x0, x1, x2, x3, x4, x5⟩
theorem PV.rows {w : World} {ao : Option Addr} {ps : List Pk} (h : PV w ao ps) : ∀ j (h : j < ps.length), PkRw w ao j ps[j] := fun j hj => (h.2 j hj).rw
theorem PV.nil (w : World) (ao : Option Addr) : PV w ao [] := ⟨by simp, fun j hj => by simp at hj⟩
/-- The first ones. -/
theorem PV.take {w : World} {ao : Option Addr} {ps : List Pk} (h : PV w ao ps) (n : Nat) : PV w ao (ps.take n) := by
  refine ⟨Nat.le_trans (by simp; omega) h.1, fun j hj => ?_⟩
  rw [List.getElem_take]
  exact h.2 j (by simp at hj; omega)
/-- Those behind. -/
theorem PV.drop {w : World} {g off : Nat} {ps : List Pk} (h : PV w (some ⟨g, off, none⟩) ps) (n : Nat) : PV w (some ⟨g, off + n * 6, none⟩) (ps.drop n) := by
  refine ⟨Nat.le_trans (by simp) h.1, fun j hj => ?_⟩
  rw [List.getElem_drop]
  obtain ⟨g', off', an, nn, cn, ac, nc, cc, ap, np, cp, e, hg, hx, k⟩ := h.2 (n + j) (by simp at hj; omega)
  simp only [Option.some.injEq, Addr.mk.injEq, and_true] at e
  obtain ⟨rfl, rfl⟩ := e
  refine ⟨g, off + n * 6, an, nn, cn, ac, nc, cc, ap, np, cp, rfl, hg, ?_, k⟩
  rw [show off + n * 6 + j * 6 = off + (n + j) * 6 by omega]
  exact hx

/-- From rows of the reader's. -/
theorem BsAt.bv {B : Nat} {w : World} {v : Value} {l : List Nat} (h : BsAt B w v l) (hl : l.length ≤ 801) : BV w v l := by
  rcases bs_row h with ⟨rfl, rfl⟩ | ⟨g, cap, rfl, hg, hx⟩
  · exact ⟨hl, none, 0, rfl, fun j h => by simp at h⟩
  · exact ⟨hl, _, _, rfl, fun j hj => ⟨g, 0, rfl, hg, by rw [Nat.zero_add]; exact hx j hj⟩⟩
theorem CsAt.cv {B : Nat} {w : World} {v : Value} {l : List Cn} (h : CsAt B w v l) (hl : l.length ≤ 801) : CV w v l := by
  rcases cs_row h with ⟨rfl, rfl⟩ | ⟨g, cap, rfl, hg, hx⟩
  · exact ⟨hl, none, 0, rfl, fun j h => by simp at h⟩
  · exact ⟨hl, _, _, rfl, fun j hj => ⟨g, 0, rfl, hg, by rw [Nat.zero_add]; exact hx j hj⟩⟩
theorem NsAt.nv {B : Nat} {w : World} {v : Value} {l : List (List Cn)} (h : NsAt B w v l) (hl : l.length ≤ 801) (hl2 : ∀ n ∈ l, n.length ≤ 801) : NV w v l := by
  rcases ns_row h with ⟨rfl, rfl⟩ | ⟨g, cap, rfl, hg, hx⟩
  · exact ⟨hl, none, 0, rfl, fun j h => by simp at h⟩
  · refine ⟨hl, _, _, rfl, fun j hj => ?_⟩
    obtain ⟨a, n, c, x, y⟩ := hx j hj
    exact ⟨g, 0, a, n, c, rfl, hg, by rw [Nat.zero_add]; exact x, y.cv (hl2 _ (List.getElem_mem _))⟩
theorem PksAt.pv {B : Nat} {w : World} {ao : Option Addr} {n cap : Nat} {ps : List Pk} (h : PksAt B w (.slice ao n cap) ps) (hl : ps.length ≤ 801) (hs : ∀ p ∈ ps, PkSm p) : n = ps.length ∧ PV w ao ps := by
  rcases pks_row2 h with ⟨h', rfl⟩ | ⟨g, cap', h', hg, hx⟩
  · injection h' with h1 h2 h3
    subst h1 h2 h3
    exact ⟨rfl, PV.nil _ _⟩
  · injection h' with h1 h2 h3
    subst h1 h2 h3
    refine ⟨rfl, hl, fun j hj => ?_⟩
    obtain ⟨an, nn, cn, ac, nc, cc, ap, np, cp, hc, hp⟩ := hx j hj
    have hm := hs _ (List.getElem_mem hj)
    exact ⟨g, 0, an, nn, cn, ac, nc, cc, ap, np, cp, rfl, hg, by rw [Nat.zero_add]; exact hc, hp.1.nv hm.needs hm.need, hp.2.1.cv hm.conf, hp.2.2.bv hm.prov⟩

end Go.Proofs.YtenbnmbbfeekpabGreatDoor

/-
  What a pick breaks, as the packages of a list say it: plain mathematics.
-/
namespace Go.Proofs.YtenbnmbbfeekpabGreatDoor
open Go.RowKit

def vfB (v : Nat) (c : Cn) : Bool := (c.s == 61 && v == c.v) || (c.s == 60 && decide (v ≤ c.v)) || (c.s == 62 && decide (c.v ≤ v))
def fitB (p : Pk) (c : Cn) : Bool :=
  if c.s = 0 then p.prov.any (fun x => x == c.n) || p.n == c.n
  else p.n == c.n && ((c.s == 61 && p.v == c.v) || (c.s == 60 && decide (p.v ≤ c.v)) || (c.s == 62 && decide (c.v ≤ p.v)))
def hnB (ps : List Pk) (a : Nat) : Bool := ps.any fun p => p.n == a
def gtG (a : Nat) : List Pk → Nat → Nat
  | [], g => g
  | p :: r, g => gtG a r (if p.n = a ∧ g < p.v then p.v else g)
def gtT (ps : List Pk) (a : Nat) : Nat := gtG a ps 0
theorem filt_succ {α : Type} (f : α → Bool) (l : List α) (k : Nat) (h : k < l.length) : (l.take (k + 1)).filter f = (l.take k).filter f ++ if f l[k] then [l[k]] else [] := by
  rw [List.take_succ_eq_append_getElem h, List.filter_append]
  cases hf : f l[k] <;> simp [hf]
def nowL (ps : List Pk) : List Pk := ps.filter fun p => p.m != 0
def wnL (ps : List Pk) (a : Nat) : List Pk := ps.filter fun p => p.n == a
def fdB (ps : List Pk) (c : Cn) : Bool := ps.any fun p => fitB p c
def ndB (ps : List Pk) (n : List Cn) : Bool := n.any (fdB ps)
def nmetB (ps : List Pk) (l : List (List Cn)) : Bool := l.all (ndB ps)
def nc1 (a b : List Pk) (c : Cn) : Bool := !(fdB a c || fdB b c)
def ncT (ps : List Pk) : Nat → Nat → Bool
  | 0, _ => true
  | f + 1, k => match ps[k]? with
    | none => true
    | some p => p.conf.all (nc1 (ps.take k) (ps.drop (k + 1))) && ncT ps f (k + 1)
def ncB (ps : List Pk) : Bool := ncT ps (ps.length + 1) 0
def mk1 (pq : List Pk) (p : Pk) : Bool := !(p.m == 2 && !amB pq p.n p.v) && !(p.m == 3 && !hnB pq p.n)
def upV (now : List Pk) (c : Cn) : List Pk → Bool
  | [q] => !(decide (q.v < gtT now c.n)) && fitB q c
  | _ => false
def up1 (now pq : List Pk) (c : Cn) : Bool := upV now c (wnL pq c.n)
def rdL (ps : List Pk) : List UInt8 → List UInt8 → Option (List Pk)
  | last, a :: b :: r => match ps[nbT ps a.toNat b.toNat]? with
    | none => none
    | some p => if gtB [a, b] last then (rdL ps [a, b] r).map (p :: ·) else none
  | _, _ => some []
def prL (ps : List Pk) (P : List UInt8) : Option (List Pk) := if 800 < P.length then none else if P.length % 2 = 0 then rdL ps [] P else none
def prE (ps : List Pk) (P : List UInt8) : Nat := if (prL ps P).isSome then 0 else 5
theorem own_blk_ne {base : Nat} {w : World} {e : TypeId} {size : Nat} {v : Value} {n : Nat} {xs : List Value} (h : w.ownsRow base e size v n xs) {k : Nat} {cur : Array Value} {T : TypeId} {m : Nat × Nat} (hk : w.heap[k]? = some (.cells cur T m)) (hT : e ≠ T) : some k ≠ v.ownBlock := by
  rcases h.2 with ⟨rfl, _⟩ | ⟨g, cap, cur', rfl, _, hg, _⟩
  · simp [Value.ownBlock]
  · intro e
    simp [Value.ownBlock] at e
    subst e
    rw [hg] at hk
    simp at hk
    exact hT hk.2.1
theorem rdL_len (ps : List Pk) : ∀ (n : Nat) (last P : List UInt8) (L : List Pk), P.length ≤ n → rdL ps last P = some L → 2 * L.length ≤ P.length
  | 0, last, P, L, hn, h => by
    have : P = [] := List.eq_nil_of_length_eq_zero (by omega)
    subst this
    simp [rdL] at h
    subst h
    simp
  | n + 1, last, P, L, hn, h => by
    match P, hn, h with
    | [], _, h => simp [rdL] at h; subst h; simp
    | [x], _, h => simp [rdL] at h; subst h; simp
    | a :: b :: r, hn, h =>
      rw [rdL] at h
      split at h
      · cases h
      · split at h
        · cases hr : rdL ps [a, b] r with
          | none => rw [hr] at h; simp at h
          | some M =>
            rw [hr] at h
            simp at h
            subst h
            have := rdL_len ps n [a, b] r M (by simp at hn; omega) hr
            simp; omega
        · cases h
theorem bs_at0 (l : List UInt8) (i : Nat) (h : i < (bs l).size) (h' : i < l.length) : ((bs l)[i]'h) = l[i] := rfl
def fb6 (d : Dc) (pq : List Pk) : Nat := if d.upg.all (up1 (nowL d.packs) pq) then 0 else 6
def fb5 (d : Dc) (pq : List Pk) : Nat := if d.rem.all (fun c => !fdB pq c) then fb6 d pq else 5
def fb4 (d : Dc) (pq : List Pk) : Nat := if d.ins.all (fdB pq) then fb5 d pq else 4
def fb3 (d : Dc) (pq : List Pk) : Nat := if d.packs.all (mk1 pq) then fb4 d pq else 3
def fb2 (d : Dc) (pq : List Pk) : Nat := if ncB pq then fb3 d pq else 2
def fbN (d : Dc) (pq : List Pk) : Nat := if pq.all (fun p => nmetB pq p.needs) then fb2 d pq else 1
structure DcV (w : World) (d : Dc) (ap : Option Addr) (np cp : Nat) (ai : Option Addr) (ni ci : Nat) (ar : Option Addr) (nr cr : Nat) (au : Option Addr) (nu cu : Nat) : Prop where
  len : np = d.packs.length
  packs : PV w ap d.packs
  ins : CV w (.slice ai ni ci) d.ins
  rem : CV w (.slice ar nr cr) d.rem
  upg : CV w (.slice au nu cu) d.upg
theorem DcAt.views {B : Nat} {w : World} {d : Dc} {ap : Option Addr} {np cp : Nat} {ai : Option Addr} {ni ci : Nat} {ar : Option Addr} {nr cr : Nat} {au : Option Addr} {nu cu : Nat} (h : DcAt B w d (.slice ap np cp) (.slice ai ni ci) (.slice ar nr cr) (.slice au nu cu)) (hs : DcSm d) : DcV w d ap np cp ai ni ci ar nr cr au nu cu := by
  obtain ⟨e, hp⟩ := h.1.pv hs.packs hs.pack
  exact ⟨e, hp, h.2.1.cv hs.ins, h.2.2.1.cv hs.rem, h.2.2.2.cv hs.upg⟩
theorem DcV.below {w w' : World} {d : Dc} {ap : Option Addr} {np cp : Nat} {ai : Option Addr} {ni ci : Nat} {ar : Option Addr} {nr cr : Nat} {au : Option Addr} {nu cu : Nat} (h : DcV w d ap np cp ai ni ci ar nr cr au nu cu) (hb : Below w.heap.size w w') : DcV w' d ap np cp ai ni ci ar nr cr au nu cu :=
  ⟨h.len, h.packs.below hb, h.ins.below hb, h.rem.below hb, h.upg.below hb⟩
def uvE (t P : List UInt8) : Nat := if rdE t = 0 then prE (dcV t).packs P else rdE t
def uvR (t P : List UInt8) : Nat := if rdE t = 0 then (match prL (dcV t).packs P with | some L => fbN (dcV t) L | none => 0) else 0
theorem bs_data (q : ByteArray) : bs q.data.toList = q := by cases q; simp [bs]

end Go.Proofs.YtenbnmbbfeekpabGreatDoor

/-
  What the document says of picks, rules and scores, as functions of lists: plain mathematics. Nothing of the document's answer's own functions.
-/
namespace Go.Proofs.YtenbnmbbfeekpabGreatDoor

/-- A pick's packages: two bytes each. -/
def ch2 : List UInt8 → List (List UInt8)
  | a :: b :: r => [a, b] :: ch2 r
  | _ => []
def inB (P I : List UInt8) : Bool := (ch2 P).any fun x => x == I
theorem le_max {n : Nat} (h : n ≤ 2000) : n ≤ maxLen := Nat.le_trans h (by unfold maxLen; decide)
theorem b8_eq {a b : Nat} (ha : a < 256) (hb : b < 256) : (b8 a == b8 b) = (a == b) := by
  by_cases h : a = b
  · simp [h]
  · have h1 : b8 a ≠ b8 b := fun e => h (by have := congrArg UInt8.toNat e; rwa [b8_val ha, b8_val hb] at this)
    have h2 : (b8 a == b8 b) = false := by simpa using h1
    have h3 : (a == b) = false := by simpa using h
    rw [h2, h3]
theorem bs_at (l : List UInt8) (i : Nat) (h : i < (bs l).size) : (bs l)[i] = l[i]'(by rw [bs_size] at h; exact h) := rfl
/-- A package of the pick, but for that one, fits the constraint. -/
def pkI (p : Pk) : List UInt8 := [b8 p.n, b8 p.v]
def fittedB (ps : List Pk) (P : List UInt8) (c : Cn) (but : List UInt8) : Bool := ps.any fun p => inB P (pkI p) && fitB p c && !(pkI p == but)
def besideB (ps : List Pk) (P : List UInt8) (p : Pk) : Bool := p.conf.all fun c => !fittedB ps P c (pkI p)
def metB (ps : List Pk) (P : List UInt8) (p : Pk) : Bool := p.needs.all fun n => n.any fun c => fittedB ps P c []
/-- The pairs stand in the order of bytes. -/
def ordP : List UInt8 → Bool
  | a :: b :: c :: d :: r => Op.bytesLess [a, b] [c, d] && ordP (c :: d :: r)
  | _ => true
def inN (ps : List Pk) (P : List UInt8) : Nat := (ps.filter fun p => inB P (pkI p)).length
/-- The text is a pick. -/
def pickB (ps : List Pk) (P : List UInt8) : Bool := P.length % 2 == 0 && decide (P.length ≤ 2 * ps.length) && ordP P && 2 * inN ps P == P.length
theorem int_beq (a b : Nat) : (2 * (a : Int) == (b : Int)) = (2 * a == b) := by
  rw [Bool.eq_iff_iff, beq_iff_eq, beq_iff_eq]; omega
/-- The package is of that name and that version, and in the pick (or installed now). -/
def vA (P : List UInt8) (now : Bool) (p : Pk) : Bool := if now then p.m != 0 else inB P (pkI p)
def vHas (P : List UInt8) (N : List UInt8) (now : Bool) (v : Nat) (p : Pk) : Bool := vA P now p && [b8 p.n] == N && p.v == v
def vIn (ps : List Pk) (P : List UInt8) (N : List UInt8) (now : Bool) (v : Nat) : List UInt8 := (ps.filter (vHas P N now v)).map fun p => b8 p.v
def vers (ps : List Pk) (P : List UInt8) (N : List UInt8) (now : Bool) : Nat → List UInt8
  | 0 => []
  | a + 1 => vers ps P N now a ++ vIn ps P N now (49 + a)
def versT (ps : List Pk) (P : List UInt8) (N : List UInt8) (now : Bool) : List UInt8 := vers ps P N now 9
theorem vIn_len (ps : List Pk) (P : List UInt8) (N : List UInt8) (now : Bool) (v : Nat) : (vIn ps P N now v).length ≤ ps.length := by
  unfold vIn; rw [List.length_map]; exact List.length_filter_le _ _
theorem vers_len (ps : List Pk) (P : List UInt8) (N : List UInt8) (now : Bool) : ∀ a, (vers ps P N now a).length ≤ a * ps.length
  | 0 => by simp [vers]
  | a + 1 => by
    have h1 := vers_len ps P N now a
    have h2 := vIn_len ps P N now (49 + a)
    rw [vers, List.length_append, Nat.add_mul]
    omega
theorem vIn_snoc (ps : List Pk) (P : List UInt8) (N : List UInt8) (now : Bool) (v k : Nat) (h : k < ps.length) : vIn (ps.take (k + 1)) P N now v = vIn (ps.take k) P N now v ++ (if vHas P N now v ps[k] then [b8 ps[k].v] else []) := by
  unfold vIn
  rw [List.take_succ_eq_append_getElem h, List.filter_append, List.map_append]
  congr 1
  simp only [List.filter_cons, List.filter_nil]
  split <;> rfl
theorem mkT_empty {m : Nat} : (bs (mkT m)).toList.isEmpty = (m == 0) := by
  rw [tl]
  unfold mkT
  by_cases h : m = 0
  · simp [h]
  · rw [if_neg h]
    have : (m == 0) = false := by simpa using h
    rw [this]
    split
    · rfl
    · split <;> rfl
/-- What must stay of this package stays. -/
def stay1 (ps : List Pk) (P : List UInt8) (p : Pk) : Bool := !((p.m == 2 && !inB P [b8 p.n, b8 p.v]) || (p.m == 3 && (versT ps P [b8 p.n] false).isEmpty))
def staysB (ps : List Pk) (P : List UInt8) : Bool := ps.all (stay1 ps P)
theorem mkT_2 {m : Nat} (_h : m ≤ 3) : ((bs (mkT m)).toList == [43, 33]) = (m == 2) := by
  rw [tl]
  have : m = 0 ∨ m = 1 ∨ m = 2 ∨ m = 3 := by omega
  rcases this with rfl | rfl | rfl | rfl <;> rfl
theorem mkT_3 {m : Nat} (_h : m ≤ 3) : ((bs (mkT m)).toList == [43, 94]) = (m == 3) := by
  rw [tl]
  have : m = 0 ∨ m = 1 ∨ m = 2 ∨ m = 3 := by omega
  rcases this with rfl | rfl | rfl | rfl <;> rfl
/-- The package of that name and version fits the constraint. -/
def fu (I : List UInt8) (c : Cn) : List Pk → Bool
  | [] => false
  | p :: r => if [b8 p.n, b8 p.v] == I then fitB p c else fu I c r
def upgV (ps : List Pk) (c : Cn) (V O : List UInt8) : Bool := V.length == 1 && (O.isEmpty || !(decide ((V.getD 0 0).toNat < (O.getD (O.length - 1) 0).toNat))) && fu (b8 c.n :: V) c ps
def upgB (ps : List Pk) (P : List UInt8) (c : Cn) : Bool := upgV ps c (versT ps P [b8 c.n] false) (versT ps [] [b8 c.n] true)
theorem versT_len (ps : List Pk) (P : List UInt8) (N : List UInt8) (now : Bool) (h : ps.length ≤ 801) : (versT ps P N now).length ≤ 7209 := by
  have := vers_len ps P N now 9
  unfold versT
  omega
theorem cnT_1 (c : Cn) : (bs (cnT c)).extract 0 1 = bs [b8 c.n] := by
  rw [extract_bs, bs_list]
  unfold cnT
  split <;> rfl
theorem cnT_pos (c : Cn) : 1 ≤ (bs (cnT c)).size := by
  rw [bs_size]; unfold cnT; split <;> simp
theorem bs_getD (l : List UInt8) (i : Nat) (h : i < (bs l).size) : (bs l)[i] = l.getD i 0 := by
  have h' : i < l.length := by rw [bs_size] at h; exact h
  rw [bs_at, List.getD_eq_getElem?_getD, List.getElem?_eq_getElem h']; rfl
def r1 (ps : List Pk) (P : List UInt8) (p : Pk) : Bool := !(inB P [b8 p.n, b8 p.v] && !metB ps P p)
def r2 (ps : List Pk) (P : List UInt8) (p : Pk) : Bool := !(inB P [b8 p.n, b8 p.v] && !besideB ps P p)
/-- The first rule that does not hold. -/
def ruleN (d : Dc) (P : List UInt8) : Nat :=
  if d.packs.all (r1 d.packs P) then
    if d.packs.all (r2 d.packs P) then
      if staysB d.packs P then
        if d.ins.all (fun c => fittedB d.packs P c []) then
          if d.rem.all (fun c => !fittedB d.packs P c []) then
            if d.upg.all (fun c => upgB d.packs P c) then 0 else 6
          else 5
        else 4
      else 3
    else 2
  else 1
/-- Valid's error and rule. -/
def vaE (t P : List UInt8) : Nat := if rdE t = 0 then (if pickB (dcV t).packs P then 0 else 5) else rdE t
def vaR (t P : List UInt8) : Nat := if rdE t = 0 then (if pickB (dcV t).packs P then ruleN (dcV t) P else 0) else 0
/-- What a text without a fault gives: its parts are small. -/
theorem dc_nds {t : List UInt8} (r1 : t = dcT (dcV t)) (r3 : t.length ≤ 800) : ∀ p ∈ (dcV t).packs, ∀ n ∈ p.needs, (ndT n).length ≤ 800 := by
  intro p hp n hn
  have e : dcT (dcV t) = joinT 47 [pksT (dcV t).packs, lsT (dcV t).ins, lsT (dcV t).rem, lsT (dcV t).upg] := by simp [dcT, joinT]
  have h0 := join_len (c := 47) (l := [pksT (dcV t).packs, lsT (dcV t).ins, lsT (dcV t).rem, lsT (dcV t).upg]) (a := pksT (dcV t).packs) (by simp)
  rw [← e, ← r1] at h0
  have h4 : (pkB p).length ≤ (pksT (dcV t).packs).length := by rw [pks_join]; exact join_len (by simp; left; exact ⟨p, hp, rfl⟩)
  have h5 := join_len (c := 58) (l := [pkH p, nsT p.needs, lsT p.conf, nmT p.prov]) (a := nsT p.needs) (by simp)
  have c5 : (ndT n).length ≤ (nsT p.needs).length := join_len (by simp; exact ⟨n, hn, rfl⟩)
  unfold pkB at h4
  omega
theorem pick_len {ps : List Pk} {P : List UInt8} (h : pickB ps P = true) (hl : ps.length ≤ 801) : P.length ≤ 2000 := by
  unfold pickB at h
  simp at h
  omega
/-- The greatest version of a name. -/
def gStep (N g : List UInt8) (p : Pk) : List UInt8 := if [b8 p.n] == N && gtB [b8 p.v] g then [b8 p.v] else g
def greT (ps : List Pk) (N : List UInt8) : List UInt8 := ps.foldl (gStep N) []
theorem gre_snoc (ps : List Pk) (N : List UInt8) (k : Nat) (h : k < ps.length) : greT (ps.take (k + 1)) N = gStep N (greT (ps.take k) N) ps[k] := by
  unfold greT; rw [List.take_succ_eq_append_getElem h, List.foldl_append]; rfl
theorem gre_len (N : List UInt8) : ∀ (ps : List Pk) (g : List UInt8), g.length ≤ 1 → (ps.foldl (gStep N) g).length ≤ 1
  | [], g, h => h
  | p :: r, g, h => by
    rw [List.foldl_cons]
    apply gre_len N r
    unfold gStep; split
    · simp
    · exact h
theorem greT_len (ps : List Pk) (N : List UInt8) : (greT ps N).length ≤ 1 := gre_len N ps [] (by simp)
/-- The criterion counts this name. -/
def cntV (c : Nat) (O V : List UInt8) (T : Bool) : Bool :=
  if c = 114 then !O.isEmpty && V.isEmpty
  else if c = 110 then O.isEmpty && !V.isEmpty
  else if c = 99 then !(O == V)
  else !V.isEmpty && !T
def cntB (ps : List Pk) (P N : List UInt8) (c : Nat) : Bool := cntV c (versT ps [] N true) (versT ps P N false) (inB P (N ++ greT ps N))
/-- How many names the criterion counts. -/
def num1 (ps : List Pk) (P : List UInt8) (c b : Nat) : Bool := !(greT ps [b8 b]).isEmpty && cntB ps P [b8 b] c
def numA (ps : List Pk) (P : List UInt8) (c : Nat) : Nat → Nat
  | 0 => 0
  | a + 1 => numA ps P c a + (if num1 ps P c (97 + a) then 1 else 0)
def numT (ps : List Pk) (P : List UInt8) (c : Nat) : Nat := numA ps P c 26
theorem numA_le (ps : List Pk) (P : List UInt8) (c : Nat) : ∀ a, numA ps P c a ≤ a
  | 0 => Nat.le_refl _
  | a + 1 => by
    have := numA_le ps P c a
    rw [numA]
    split <;> omega
/-- A number below a hundred, as it is written. -/
def digT (n : Nat) : List UInt8 := if n < 10 then [b8 (48 + n)] else [b8 (48 + n / 10), b8 (48 + n % 10)]
/-- A criterion; criteria. -/
def crOk (x y : Nat) : Bool := (x == 45 || x == 43) && (y == 114 || y == 110 || y == 99 || y == 117)
def crP : List UInt8 → Bool
  | a :: b :: r => crOk a.toNat b.toNat && crP r
  | _ => true
def critB (C : List UInt8) : Bool := decide (2 ≤ C.length) && decide (C.length ≤ 8) && C.length % 2 == 0 && crP C
/-- Score's error and text. -/
def scA (ps : List Pk) (P C : List UInt8) : Nat → List UInt8
  | 0 => []
  | m + 1 => (if 0 < m then scA ps P C m ++ [44] else scA ps P C m) ++ digT (numT ps P (C.getD (2 * m + 1) 0).toNat)
def scE (t C P : List UInt8) : Nat := if rdE t = 0 then (if critB C then (if pickB (dcV t).packs P then 0 else 5) else 6) else rdE t
def scT (t C P : List UInt8) : List UInt8 := if rdE t = 0 then (if critB C then (if pickB (dcV t).packs P then scA (dcV t).packs P C (C.length / 2) else []) else []) else []
theorem digT_len (n : Nat) : (digT n).length ≤ 2 := by unfold digT; split <;> simp
theorem scA_len (ps : List Pk) (P C : List UInt8) : ∀ m, (scA ps P C m).length ≤ 3 * m
  | 0 => by simp [scA]
  | m + 1 => by
    have h1 := scA_len ps P C m
    have h2 := digT_len (numT ps P (C.getD (2 * m + 1) 0).toNat)
    rw [scA, List.length_append]
    split
    · rw [List.length_append, List.length_singleton]; omega
    · omega
/-- The first text is better than the second by the criteria. -/
def btF (ps : List Pk) (A B : List UInt8) : List UInt8 → Bool
  | a :: b :: r => if numT ps A b.toNat = numT ps B b.toNat then btF ps A B r else (decide (numT ps A b.toNat < numT ps B b.toNat) == (a.toNat == 45))
  | _ => false
/-- Is the other text right? -/
def rightB (d : Dc) (O : List UInt8) : Bool := pickB d.packs O && ruleN d O == 0
/-- May Choose answer this, beside another text? -/
def chD (d : Dc) (C P : List UInt8) (e : Nat) (O : List UInt8) : Bool :=
  if e = 7 then P.isEmpty && !rightB d O
  else if e = 0 then pickB d.packs P && ruleN d P == 0 && (!rightB d O || !btF d.packs O P C)
  else false
def chB (t C P : List UInt8) (e : Nat) (O : List UInt8) : Bool :=
  if rdE t = 0 then (if critB C then chD (dcV t) C P e O else e == 6 && P.isEmpty) else e == rdE t && P.isEmpty
theorem crit_even {C : List UInt8} (h : critB C = true) : C.length ≤ 8 ∧ C.length % 2 = 0 := by
  unfold critB at h
  simp only [Bool.and_eq_true, decide_eq_true_eq, beq_iff_eq] at h
  exact ⟨h.1.1.2, h.1.2⟩
theorem rule_le (d : Dc) (P : List UInt8) : ruleN d P ≤ 6 := by
  unfold ruleN
  repeat' split
  all_goals omega

theorem ft_ge (ps : List Pk) : ∀ (f k : Nat), k ≤ ftF ps f k
  | 0, k => Nat.le_refl _
  | f + 1, k => by
    rw [ftF]
    split
    · exact Nat.le_refl _
    · split
      · exact Nat.le_refl _
      · exact Nat.le_trans (Nat.le_succ k) (ft_ge ps f (k + 1))
theorem ft_none (ps : List Pk) : ∀ (f k : Nat), ps.length < f + k → ps.length ≤ ftF ps f k → ∀ i (h : i < ps.length), k ≤ i → amB (ps.take i) ps[i].n ps[i].v = false
  | 0, k, hf, _, i, h, hk => by omega
  | f + 1, k, hf, hl, i, h, hk => by
    have hkl : k < ps.length := by omega
    rw [ftF, List.getElem?_eq_getElem hkl] at hl
    simp only at hl
    cases ha : amB (ps.take k) ps[k].n ps[k].v with
    | true => rw [ha] at hl; simp at hl; omega
    | false =>
      rw [ha] at hl
      simp only [Bool.false_eq_true, if_false] at hl
      rcases Nat.lt_or_ge k i with h1 | h1
      · exact ft_none ps f (k + 1) (by omega) hl i h h1
      · have : i = k := by omega
        subst this
        exact ha
theorem ft_apart {ps : List Pk} (h : ¬ ftT ps < ps.length) {p q : Pk} (hp : p ∈ ps) (hq : q ∈ ps) (hn : p.n = q.n) (hv : p.v = q.v) : p = q := by
  obtain ⟨i, hi, rfl⟩ := List.getElem_of_mem hp
  obtain ⟨j, hj, rfl⟩ := List.getElem_of_mem hq
  have key : ∀ a b (ha : a < ps.length) (hb : b < ps.length), a < b → ¬ (ps[a].n = ps[b].n ∧ ps[a].v = ps[b].v) := by
    intro a b ha hb hab ⟨e1, e2⟩
    have h0 := ft_none ps (ps.length + 1) 0 (by omega) (by unfold ftT at h; omega) b hb (Nat.zero_le _)
    have h1 : amB (ps.take b) ps[b].n ps[b].v = true := by
      unfold amB
      rw [List.any_eq_true]
      exact ⟨ps[a], by rw [List.mem_iff_getElem]; exact ⟨a, by simp; omega, by simp⟩, by simp [e1, e2]⟩
    rw [h0] at h1
    cases h1
  rcases Nat.lt_trichotomy i j with h1 | h1 | h1
  · exact absurd ⟨hn, hv⟩ (key i j hi hj h1)
  · subst h1; rfl
  · exact absurd ⟨hn.symm, hv.symm⟩ (key j i hj hi h1)

end Go.Proofs.YtenbnmbbfeekpabGreatDoor

/-
  What a pick scores, as the packages of a list say it: plain mathematics.
-/
namespace Go.Proofs.YtenbnmbbfeekpabGreatDoor
open Go.RowKit

def sgnB (x : Nat) : Bool := x == 45 || x == 43
def letB (y : Nat) : Bool := y == 114 || y == 110 || y == 99 || y == 117
def rdC : List UInt8 → Option (List Nat)
  | a :: b :: r => if sgnB a.toNat && letB b.toNat then (rdC r).map (b.toNat :: ·) else none
  | _ => some []
def crL (C : List UInt8) : Option (List Nat) := if C.length = 0 then none else if 8 < C.length then none else if C.length % 2 = 0 then rdC C else none
def crE (C : List UInt8) : Nat := if (crL C).isSome then 0 else 6
theorem sc_bad {C : List UInt8} (h : crL C = none) : crE C = 6 := by unfold crE; rw [h]; rfl
def svF (now L : List Pk) (a : Nat) : Nat → Nat → Bool
  | 0, _ => true
  | f + 1, v => (amB now a v == amB L a v) && svF now L a f (v + 1)
def svB (now L : List Pk) (a : Nat) : Bool := svF now L a 9 49
def cnt1 (ps now L : List Pk) (c b : Nat) : Bool :=
  if c = 114 then hnB now b && !hnB L b
  else if c = 110 then hnB L b && !hnB now b
  else if c = 99 then !svB now L b
  else if c = 117 then hnB L b && !amB L b (gtT ps b)
  else false
def scN (ps now L : List Pk) (c : Nat) : Nat → Nat
  | 0 => 0
  | a + 1 => scN ps now L c a + (if cnt1 ps now L c (97 + a) then 1 else 0)
theorem scN_le (ps now L : List Pk) (c : Nat) : ∀ a, scN ps now L c a ≤ a
  | 0 => Nat.le_refl _
  | a + 1 => by
    have := scN_le ps now L c a
    rw [scN]
    split <;> omega
def txA (ps L : List Pk) (ls : List Nat) : Nat → List UInt8
  | 0 => []
  | m + 1 => (if 0 < m then txA ps L ls m ++ [44] else txA ps L ls m) ++ digT (scN ps (nowL ps) L (ls.getD m 0) 26)
theorem txA_len (ps L : List Pk) (ls : List Nat) : ∀ m, (txA ps L ls m).length ≤ 3 * m
  | 0 => by simp [txA]
  | m + 1 => by
    have h1 := txA_len ps L ls m
    have h2 := digT_len (scN ps (nowL ps) L (ls.getD m 0) 26)
    rw [txA, List.length_append]
    split
    · rw [List.length_append, List.length_singleton]; omega
    · omega
def usE (t C P : List UInt8) : Nat := if rdE t = 0 then (match crL C with | some _ => prE (dcV t).packs P | none => 6) else rdE t
def usT (t C P : List UInt8) : List UInt8 := if rdE t = 0 then (match crL C, prL (dcV t).packs P with | some ls, some L => txA (dcV t).packs L ls ls.length | _, _ => []) else []
theorem rdC_len : ∀ (n : Nat) (C : List UInt8) (ls : List Nat), C.length ≤ n → rdC C = some ls → ls.length = C.length / 2
  | _, [], ls, _, h => by simp [rdC] at h; subst h; simp
  | _, [c], ls, _, h => by simp [rdC] at h; subst h; simp
  | 0, c :: d :: r, ls, hn, _ => by simp at hn
  | n + 1, c :: d :: r, ls, hn, h => by
    rw [rdC] at h
    split at h
    · cases hr : rdC r with
      | none => rw [hr] at h; simp at h
      | some M =>
        rw [hr] at h
        simp at h
        subst h
        have := rdC_len n r M (by simp at hn; omega) hr
        simp only [List.length_cons]
        omega
    · cases h
theorem crL_len {C : List UInt8} {ls : List Nat} (h : crL C = some ls) : ls.length = C.length / 2 ∧ C.length ≤ 8 := by
  unfold crL at h
  split at h
  · cases h
  · split at h
    · cases h
    · split at h
      · exact ⟨rdC_len C.length C ls (Nat.le_refl _) h, by omega⟩
      · cases h

end Go.Proofs.YtenbnmbbfeekpabGreatDoor
