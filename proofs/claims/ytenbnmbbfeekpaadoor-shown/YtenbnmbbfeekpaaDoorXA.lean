import Derived.Test.YtenbnmbbfeekpaaDoorXO0

/-
  The reader as plain functions: a place and a mark that it has stopped. Nothing of the dump.
-/
namespace Go.Proofs.YtenbnmbbfeekpaaDoor
open Go.RowKit

/-- The byte ahead, or 0. -/
def ahF (t : List UInt8) (i : Nat) (bad : Bool) : Nat := if bad then 0 else match t[i]? with | some c => c.toNat | none => 0
/-- accept: is it passed? -/
def acB (t : List UInt8) (x : Nat) (i : Nat) (bad : Bool) : Bool := !(ahF t i bad == 0) && ahF t i bad == x
def acI (t : List UInt8) (x : Nat) (i : Nat) (bad : Bool) : Nat := if acB t x i bad then i + 1 else i
/-- expect: the mark behind it. -/
def exBad (t : List UInt8) (x : Nat) (i : Nat) (bad : Bool) : Bool := if acB t x i bad then bad else true
def naB (t : List UInt8) (i : Nat) (bad : Bool) : Bool := nmB (ahF t i bad)
def naV (t : List UInt8) (i : Nat) (bad : Bool) : Nat := if naB t i bad then ahF t i bad else 0
def naI (t : List UInt8) (i : Nat) (bad : Bool) : Nat := if naB t i bad then i + 1 else i
def naBad (t : List UInt8) (i : Nat) (bad : Bool) : Bool := if naB t i bad then bad else true
def veB (t : List UInt8) (i : Nat) (bad : Bool) : Bool := vrB (ahF t i bad)
def veV (t : List UInt8) (i : Nat) (bad : Bool) : Nat := if veB t i bad then ahF t i bad else 0
def veI (t : List UInt8) (i : Nat) (bad : Bool) : Nat := if veB t i bad then i + 1 else i
def veBad (t : List UInt8) (i : Nat) (bad : Bool) : Bool := if veB t i bad then bad else true
def siB (t : List UInt8) (i : Nat) (bad : Bool) : Bool := sgB (ahF t i bad)
def siV (t : List UInt8) (i : Nat) (bad : Bool) : Nat := if siB t i bad then ahF t i bad else 0
def siI (t : List UInt8) (i : Nat) (bad : Bool) : Nat := if siB t i bad then i + 1 else i

theorem ahF_lt (t : List UInt8) (i : Nat) (bad : Bool) : ahF t i bad < 256 := by
  unfold ahF; split
  · omega
  · split
    · exact UInt8.toNat_lt _
    · omega
theorem ahF_bad (t : List UInt8) (i : Nat) : ahF t i true = 0 := rfl
theorem ahF_end (t : List UInt8) (i : Nat) (h : t.length ≤ i) (bad : Bool) : ahF t i bad = 0 := by
  unfold ahF; rw [List.getElem?_eq_none h]; split <;> rfl
theorem ahF_at (s : ByteArray) (i : Nat) (h : i < s.size) : ahF s.data.toList i false = s[i].toNat := by
  unfold ahF
  rw [List.getElem?_eq_getElem (by simpa using h)]; rfl
/-- Where the byte ahead is not 0 the reader stands within the text and has not stopped. -/
theorem ahF_in (t : List UInt8) (i : Nat) (bad : Bool) (h : ahF t i bad ≠ 0) : bad = false ∧ i < t.length := by
  rcases Nat.lt_or_ge i t.length with h1 | h1
  · cases bad
    · exact ⟨rfl, h1⟩
    · exact absurd (ahF_bad t i) h
  · exact absurd (ahF_end t i h1 bad) h

/-- The reader's block. -/
def Rd (B : Nat) (w : World) (s : ByteArray) (i : Nat) (bad : Bool) : Prop := w.heap[B]? = some (.cells #[.string s, .int .i64 i, .bool bad] 73 (0, 0))

theorem Rd.c0 {B : Nat} {w : World} {s : ByteArray} {i : Nat} {bad : Bool} (h : Rd B w s i bad) : w.cell? ⟨B, 0, none⟩ = some (.string s) := by rw [cellAt h]; rfl
theorem Rd.c1 {B : Nat} {w : World} {s : ByteArray} {i : Nat} {bad : Bool} (h : Rd B w s i bad) : w.cell? ⟨B, 1, none⟩ = some (.int .i64 i) := by rw [cellAt h]; rfl
theorem Rd.c2 {B : Nat} {w : World} {s : ByteArray} {i : Nat} {bad : Bool} (h : Rd B w s i bad) : w.cell? ⟨B, 2, none⟩ = some (.bool bad) := by rw [cellAt h]; rfl
theorem Rd.f1 {B : Nat} {w : World} {s : ByteArray} {i : Nat} {bad : Bool} (h : Rd B w s i bad) : w.frozen? ⟨B, 1, none⟩ = false := freeAt h 1
theorem Rd.f2 {B : Nat} {w : World} {s : ByteArray} {i : Nat} {bad : Bool} (h : Rd B w s i bad) : w.frozen? ⟨B, 2, none⟩ = false := freeAt h 2
theorem Rd.lt {B : Nat} {w : World} {s : ByteArray} {i : Nat} {bad : Bool} (h : Rd B w s i bad) : B < w.heap.size := ltAt h
theorem Rd.set1 {B : Nat} {w : World} {s : ByteArray} {i : Nat} {bad : Bool} (h : Rd B w s i bad) (j : Nat) : Rd B (w.setCell ⟨B, 1, none⟩ (.int .i64 j)) s j bad := setAt h 1 _
theorem Rd.set2 {B : Nat} {w : World} {s : ByteArray} {i : Nat} {bad : Bool} (h : Rd B w s i bad) (b : Bool) : Rd B (w.setCell ⟨B, 2, none⟩ (.bool b)) s i b := setAt h 2 _
theorem Rd.below {B : Nat} {w w' : World} {s : ByteArray} {i : Nat} {bad : Bool} (h : Rd B w s i bad) (k : Below w.heap.size w w') : Rd B w' s i bad := (k.block B h.lt).trans h
theorem Rd.alloc {B : Nat} {w : World} {s : ByteArray} {i : Nat} {bad : Bool} (h : Rd B w s i bad) (o : Obj) : Rd B (w.alloc o) s i bad := h.below ((Below.refl _ _).alloc (Nat.le_refl _) o)
theorem Rd.setNew {B : Nat} {w : World} {s : ByteArray} {i : Nat} {bad : Bool} (h : Rd B w s i bad) {p : Addr} (hp : p.block ≠ B) (v : Value) : Rd B (w.setCell p v) s i bad := (Below.heap_setCell _ _ _ _ (Ne.symm hp)).trans h
theorem Rd.grown {B : Nat} {w w' : World} {s : ByteArray} {i : Nat} {bad : Bool} {row : Option Nat} (h : Rd B w s i bad) (hg : w.grownBy w' row) (hn : row ≠ some B) : Rd B w' s i bad := (hg.block B h.lt (Ne.symm hn)).trans h
theorem Rd.drewN {B : Nat} {w : World} {s : ByteArray} {i : Nat} {bad : Bool} (h : Rd B w s i bad) (n : Nat) : Rd B (w.drewN n) s i bad := h

end Go.Proofs.YtenbnmbbfeekpaaDoor

/-
  The reader's greater methods as plain functions. Nothing of the dump.
-/
namespace Go.Proofs.YtenbnmbbfeekpaaDoor
open Go.RowKit

/-- Where the reader stands, and whether it has stopped. -/
abbrev St := Nat × Bool
def acS (t : List UInt8) (x : Nat) (st : St) : St := (acI t x st.1 st.2, st.2)
def exS (t : List UInt8) (x : Nat) (st : St) : St := (acI t x st.1 st.2, exBad t x st.1 st.2)
def naS (t : List UInt8) (st : St) : St := (naI t st.1 st.2, naBad t st.1 st.2)
def veS (t : List UInt8) (st : St) : St := (veI t st.1 st.2, veBad t st.1 st.2)
def siS (t : List UInt8) (st : St) : St := (siI t st.1 st.2, st.2)

def mkV (t : List UInt8) (st : St) : Nat :=
  if acB t 43 st.1 st.2 then (if acB t 33 (acS t 43 st).1 st.2 then 2 else if acB t 94 (acS t 33 (acS t 43 st)).1 st.2 then 3 else 1) else 0
def mkS (t : List UInt8) (st : St) : St :=
  if acB t 43 st.1 st.2 then (if acB t 33 (acS t 43 st).1 st.2 then acS t 33 (acS t 43 st) else acS t 94 (acS t 33 (acS t 43 st))) else acS t 43 st

/-- A constraint: its name, its sign (0: none), its version. -/
structure Cn where
  n : Nat
  s : Nat
  v : Nat
def cnV (t : List UInt8) (st : St) : Cn :=
  { n := naV t st.1 st.2, s := siV t (naS t st).1 (naS t st).2, v := if siV t (naS t st).1 (naS t st).2 == 0 then 0 else veV t (siS t (naS t st)).1 (siS t (naS t st)).2 }
def cnS (t : List UInt8) (st : St) : St :=
  if siV t (naS t st).1 (naS t st).2 == 0 then siS t (naS t st) else veS t (siS t (naS t st))

def apF (t : List UInt8) (x : Nat) : Nat → St → List Cn × St
  | 0, st => ([], st)
  | f + 1, st =>
    if acB t x (cnS t st).1 (cnS t st).2 then (cnV t st :: (apF t x f (acS t x (cnS t st))).1, (apF t x f (acS t x (cnS t st))).2)
    else ([cnV t st], acS t x (cnS t st))
def apT (t : List UInt8) (x : Nat) (st : St) : List Cn × St := apF t x (t.length + 2) st
theorem apF_yes {t : List UInt8} {x f : Nat} {st : St} (h : acB t x (cnS t st).1 (cnS t st).2 = true) : apF t x (f + 1) st = (cnV t st :: (apF t x f (acS t x (cnS t st))).1, (apF t x f (acS t x (cnS t st))).2) := by rw [apF, if_pos h]
theorem apF_no {t : List UInt8} {x f : Nat} {st : St} (h : acB t x (cnS t st).1 (cnS t st).2 = false) : apF t x (f + 1) st = ([cnV t st], acS t x (cnS t st)) := by rw [apF, if_neg (by simp [h])]
def csF (t : List UInt8) (st : St) : List Cn × St := if naB t st.1 st.2 then apT t 44 st else ([], st)

def ndF (t : List UInt8) : Nat → Bool → St → List (List Cn) × St
  | 0, _, st => ([], st)
  | f + 1, more, st =>
    if more then
      let a := apT t 124 st
      let r := ndF t f (acB t 44 a.2.1 a.2.2) (acS t 44 a.2)
      (a.1 :: r.1, r.2)
    else ([], st)
def neF (t : List UInt8) (st : St) : List (List Cn) × St := ndF t (t.length + 2) (naB t st.1 st.2) st

def nsF (t : List UInt8) : Nat → Bool → St → List Nat × St
  | 0, _, st => ([], st)
  | f + 1, more, st =>
    if more then
      let r := nsF t f (acB t 44 (naS t st).1 (naS t st).2) (acS t 44 (naS t st))
      (naV t st.1 st.2 :: r.1, r.2)
    else ([], st)
def nmsF (t : List UInt8) (st : St) : List Nat × St := nsF t (t.length + 2) (naB t st.1 st.2) st

structure Pk where
  n : Nat
  v : Nat
  m : Nat
  needs : List (List Cn)
  conf : List Cn
  prov : List Nat
def p1 (t : List UInt8) (st : St) : St := veS t (naS t st)
def p2 (t : List UInt8) (st : St) : St := exS t 58 (mkS t (p1 t st))
def p3 (t : List UInt8) (st : St) : St := exS t 58 (neF t (p2 t st)).2
def p4 (t : List UInt8) (st : St) : St := exS t 58 (csF t (p3 t st)).2
def p5 (t : List UInt8) (st : St) : St := exS t 59 (nmsF t (p4 t st)).2
def pkV (t : List UInt8) (st : St) : Pk :=
  { n := naV t st.1 st.2, v := veV t (naS t st).1 (naS t st).2, m := mkV t (p1 t st), needs := (neF t (p2 t st)).1, conf := (csF t (p3 t st)).1, prov := (nmsF t (p4 t st)).1 }

def pksF (t : List UInt8) : Nat → St → List Pk × St
  | 0, st => ([], st)
  | f + 1, st => if naB t st.1 st.2 then (pkV t st :: (pksF t f (p5 t st)).1, (pksF t f (p5 t st)).2) else ([], st)

structure Dc where
  packs : List Pk
  ins : List Cn
  rem : List Cn
  upg : List Cn
def d0 (t : List UInt8) : List Pk × St := pksF t (t.length + 2) (0, false)
def d1 (t : List UInt8) : St := exS t 47 (d0 t).2
def d2 (t : List UInt8) : St := exS t 47 (csF t (d1 t)).2
def d3 (t : List UInt8) : St := exS t 47 (csF t (d2 t)).2
def dcV (t : List UInt8) : Dc := { packs := (d0 t).1, ins := (csF t (d1 t)).1, rem := (csF t (d2 t)).1, upg := (csF t (d3 t)).1 }
def dcI (t : List UInt8) : Nat := (csF t (d3 t)).2.1
def dcBad (t : List UInt8) : Bool := if dcI t < t.length then true else (csF t (d3 t)).2.2

/-- A method that fills a struct of its own: block H: its result's; block H + 1: the struct's; the reader's block; all else is as it was. -/
structure Fr (B : Nat) (w wr : World) (T : TypeId) (res cur : Array Value) (s : ByteArray) (st : St) : Prop where
  b1 : wr.heap[w.heap.size]? = some (.cells res T (0, 0))
  b2 : wr.heap[w.heap.size + 1]? = some (.cells cur T (0, 0))
  rd : Rd B wr s st.1 st.2
  kp : Kp B w wr
  lt : B < w.heap.size
theorem Fr.start {B : Nat} {w : World} {s : ByteArray} {st : St} (h : Rd B w s st.1 st.2) (T : TypeId) (z : Array Value) : Fr B w ((w.alloc (.cells z T)).alloc (.cells z T)) T z z s st :=
  ⟨blk_old (blk_new _ _) _, by have := blk_new (w.alloc (.cells z T)) (.cells z T); rwa [World.size_alloc] at this, (h.alloc _).alloc _, ((Kp.refl _ _).alloc _).alloc _, h.lt⟩
theorem Fr.call {B : Nat} {w wr w1 : World} {T : TypeId} {res cur : Array Value} {s : ByteArray} {st st' : St} (h : Fr B w wr T res cur s st) (hr : Rd B w1 s st'.1 st'.2) (hk : Kp B wr w1) : Fr B w w1 T res cur s st' :=
  ⟨hk.blk h.b1 (by have := h.lt; omega), hk.blk h.b2 (by have := h.lt; omega), hr, h.kp.trans hk, h.lt⟩
theorem Fr.store {B : Nat} {w wr : World} {T : TypeId} {res cur : Array Value} {s : ByteArray} {st : St} (h : Fr B w wr T res cur s st) (k : Nat) (v : Value) : Fr B w (wr.setCell ⟨w.heap.size + 1, k, none⟩ v) T res (cur.setIfInBounds k v) s st :=
  ⟨blk_set h.b1 (by simp) v, setAt h.b2 k v, h.rd.setNew (by have := h.lt; simp; omega) v, h.kp.setNew (by simp) v, h.lt⟩
theorem Fr.c {B : Nat} {w wr : World} {T : TypeId} {res cur : Array Value} {s : ByteArray} {st : St} (h : Fr B w wr T res cur s st) (k : Nat) {x : Value} (hx : cur[k]? = some x) : wr.cell? ⟨w.heap.size + 1, k, none⟩ = some x := (cellAt h.b2 k).trans hx
theorem Fr.f {B : Nat} {w wr : World} {T : TypeId} {res cur : Array Value} {s : ByteArray} {st : St} (h : Fr B w wr T res cur s st) (k : Nat) : wr.frozen? ⟨w.heap.size + 1, k, none⟩ = false := freeAt h.b2 k
theorem Fr.c' {B : Nat} {w wr : World} {T : TypeId} {res cur : Array Value} {s : ByteArray} {st : St} (h : Fr B w wr T res cur s st) (k : Nat) {x : Value} (hx : res[k]? = some x) : wr.cell? ⟨w.heap.size, k, none⟩ = some x := (cellAt h.b1 k).trans hx
theorem Fr.f' {B : Nat} {w wr : World} {T : TypeId} {res cur : Array Value} {s : ByteArray} {st : St} (h : Fr B w wr T res cur s st) (k : Nat) : wr.frozen? ⟨w.heap.size, k, none⟩ = false := freeAt h.b1 k

/-- A row of the call's own behind a method of the reader. -/
theorem own_kp {B base : Nat} {w w' : World} {e : TypeId} {size : Nat} {v : Value} {n : Nat} {xs : List Value} (h : w.ownsRow base e size v n xs) (hk : Kp B w w') (hB : B < base) : w'.ownsRow base e size v n xs := by
  refine h.kept hk ?_
  rcases hv : v.ownBlock with _ | k
  · exact Or.inl rfl
  · refine Or.inr ?_
    have := (h.lt k hv).1
    intro e
    injection e with e
    omega
theorem own_set {base : Nat} {w : World} {e : TypeId} {size : Nat} {v : Value} {n : Nat} {xs : List Value} (h : w.ownsRow base e size v n xs) {p : Addr} (hp : v.ownBlock ≠ some p.block) (u : Value) : (w.setCell p u).ownsRow base e size v n xs := by
  refine h.kept (row := some p.block) ⟨rfl, rfl, rfl, by simp, fun k _ hn => Below.heap_setCell _ _ _ _ (by intro e; apply hn; rw [e])⟩ ?_
  exact Or.inr hp
theorem cell_new (w : World) (xs : List Value) (t : TypeId) : ∀ j u, xs[j]? = some u → (w.alloc (.cells xs.toArray t)).cell? ((⟨w.heap.size, 0, none⟩ : Addr).add j) = some u := by
  intro j u hu
  rw [Addr.add_lit, cellAt (blk_new _ _)]
  simpa using hu

def cnCells (c : Cn) : List Value := [.int .u8 c.n, .int .u8 c.s, .int .u8 c.v]
def cnFlat (l : List Cn) : List Value := l.flatMap cnCells
theorem cnFlat_snoc (l : List Cn) (c : Cn) : cnFlat (l ++ [c]) = cnFlat l ++ cnCells c := by simp [cnFlat]

/-- The places go on. -/
theorem acI_ge (t : List UInt8) (x i : Nat) (bad : Bool) : i ≤ acI t x i bad := by unfold acI; split <;> omega
theorem naI_ge (t : List UInt8) (i : Nat) (bad : Bool) : i ≤ naI t i bad := by unfold naI; split <;> omega
theorem veI_ge (t : List UInt8) (i : Nat) (bad : Bool) : i ≤ veI t i bad := by unfold veI; split <;> omega
theorem siI_ge (t : List UInt8) (i : Nat) (bad : Bool) : i ≤ siI t i bad := by unfold siI; split <;> omega
theorem cnS_ge (t : List UInt8) (st : St) : st.1 ≤ (cnS t st).1 := by
  have l1 := naI_ge t st.1 st.2
  have l2 := siI_ge t (naI t st.1 st.2) (naBad t st.1 st.2)
  have l3 := veI_ge t (siI t (naI t st.1 st.2) (naBad t st.1 st.2)) (naBad t st.1 st.2)
  unfold cnS
  split
  · exact Nat.le_trans l1 l2
  · exact Nat.le_trans (Nat.le_trans l1 l2) l3
theorem acI_yes {t : List UInt8} {x i : Nat} {bad : Bool} (h : acB t x i bad = true) : acI t x i bad = i + 1 := by unfold acI; rw [if_pos h]
theorem acI_no {t : List UInt8} {x i : Nat} {bad : Bool} (h : acB t x i bad = false) : acI t x i bad = i := by unfold acI; rw [if_neg (by simp [h])]

end Go.Proofs.YtenbnmbbfeekpaaDoor

/-
  What the reader lays in memory, as lists. Nothing of the dump but the types' numbers.
-/
namespace Go.Proofs.YtenbnmbbfeekpaaDoor
open Go.RowKit

/-- Two lists, one by one. -/
def All2 {α β : Type} (R : α → β → Prop) : List α → List β → Prop
  | [], [] => True
  | a :: az, b :: bs => R a b ∧ All2 R az bs
  | _, _ => False
theorem All2.mono {α β : Type} {R S : α → β → Prop} (h : ∀ a b, R a b → S a b) : ∀ {az : List α} {bs : List β}, All2 R az bs → All2 S az bs
  | [], [], _ => trivial
  | _ :: _, _ :: _, hr => ⟨h _ _ hr.1, All2.mono h hr.2⟩
  | [], _ :: _, hr => hr.elim
  | _ :: _, [], hr => hr.elim
theorem All2.snoc {α β : Type} {R : α → β → Prop} {a : α} {b : β} (hab : R a b) : ∀ {az : List α} {bs : List β}, All2 R az bs → All2 R (az ++ [a]) (bs ++ [b])
  | [], [], _ => ⟨hab, trivial⟩
  | _ :: _, _ :: _, hr => ⟨hr.1, All2.snoc hab hr.2⟩
  | [], _ :: _, hr => hr.elim
  | _ :: _, [], hr => hr.elim
theorem All2.len {α β : Type} {R : α → β → Prop} : ∀ {az : List α} {bs : List β}, All2 R az bs → az.length = bs.length
  | [], [], _ => rfl
  | _ :: _, _ :: _, hr => by simp [All2.len hr.2]
  | [], _ :: _, hr => hr.elim
  | _ :: _, [], hr => hr.elim

theorem own_mono {base base' : Nat} {w : World} {e : TypeId} {size : Nat} {v : Value} {n : Nat} {xs : List Value} (h : w.ownsRow base e size v n xs) (hb : base' ≤ base) : w.ownsRow base' e size v n xs := by
  refine ⟨h.1, ?_⟩
  rcases h.2 with h2 | ⟨g, cap, cur, a, b, c⟩
  · exact Or.inl h2
  · exact Or.inr ⟨g, cap, cur, a, Nat.le_trans hb b, c⟩
/-- Rows of two kinds lie in two blocks. -/
theorem own_ne {b1 b2 : Nat} {w : World} {e1 e2 : TypeId} {s1 s2 : Nat} {v1 v2 : Value} {n1 n2 : Nat} {x1 x2 : List Value} (h1 : w.ownsRow b1 e1 s1 v1 n1 x1) (h2 : w.ownsRow b2 e2 s2 v2 n2 x2) (he : e1 ≠ e2) : v1.ownBlock = none ∨ v1.ownBlock ≠ v2.ownBlock := by
  rcases h1.2 with ⟨rfl, _⟩ | ⟨g, cap, cur, rfl, _, hg, _⟩
  · exact Or.inl rfl
  · refine Or.inr ?_
    rcases h2.2 with ⟨rfl, _⟩ | ⟨g', cap', cur', rfl, _, hg', _⟩
    · simp [Value.ownBlock]
    · intro e
      simp [Value.ownBlock] at e
      subst e
      rw [hg] at hg'
      simp at hg'
      exact he hg'.2

/-- Constraints in memory, above the reader's block. -/
def CsAt (B : Nat) (w : World) (v : Value) (l : List Cn) : Prop := w.ownsRow (B + 1) 125 3 v l.length (cnFlat l)
theorem CsAt.kp {B : Nat} {w w' : World} {v : Value} {l : List Cn} (h : CsAt B w v l) (hk : Kp B w w') : CsAt B w' v l := own_kp h hk (by omega)
theorem CsAt.alloc {B : Nat} {w : World} {v : Value} {l : List Cn} (h : CsAt B w v l) (o : Obj) : CsAt B (w.alloc o) v l := World.ownsRow.alloc h o
/-- A row of another kind is written. -/
theorem CsAt.other {B : Nat} {w w' : World} {v : Value} {l : List Cn} (h : CsAt B w v l) {b : Nat} {e : TypeId} {sz : Nat} {o : Value} {n : Nat} {xs : List Value} (ho : w.ownsRow b e sz o n xs) (he : 125 ≠ e) (hg : w.grownBy w' o.ownBlock) : CsAt B w' v l :=
  World.ownsRow.kept h hg (own_ne h ho he)
def NsAt (B : Nat) (w : World) (v : Value) (l : List (List Cn)) : Prop := ∃ vs, w.ownsRow (B + 1) 123 1 v l.length vs ∧ All2 (CsAt B w) vs l
theorem NsAt.kp {B : Nat} {w w' : World} {v : Value} {l : List (List Cn)} (h : NsAt B w v l) (hk : Kp B w w') : NsAt B w' v l := by
  obtain ⟨vs, h1, h2⟩ := h
  exact ⟨vs, own_kp h1 hk (by omega), h2.mono fun _ _ h => h.kp hk⟩
theorem NsAt.alloc {B : Nat} {w : World} {v : Value} {l : List (List Cn)} (h : NsAt B w v l) (o : Obj) : NsAt B (w.alloc o) v l := by
  obtain ⟨vs, h1, h2⟩ := h
  exact ⟨vs, h1.alloc o, h2.mono fun _ _ h => h.alloc o⟩
theorem NsAt.other {B : Nat} {w w' : World} {v : Value} {l : List (List Cn)} (h : NsAt B w v l) {b : Nat} {e : TypeId} {sz : Nat} {o : Value} {n : Nat} {xs : List Value} (ho : w.ownsRow b e sz o n xs) (he : 125 ≠ e) (he' : 123 ≠ e) (hg : w.grownBy w' o.ownBlock) : NsAt B w' v l := by
  obtain ⟨vs, h1, h2⟩ := h
  exact ⟨vs, h1.kept hg (own_ne h1 ho he'), h2.mono fun _ _ h => h.other ho he hg⟩
def BsAt (B : Nat) (w : World) (v : Value) (l : List Nat) : Prop := w.ownsRow (B + 1) 5 1 v l.length (l.map fun (c : Nat) => .int .u8 (c : Int))
theorem BsAt.kp {B : Nat} {w w' : World} {v : Value} {l : List Nat} (h : BsAt B w v l) (hk : Kp B w w') : BsAt B w' v l := own_kp h hk (by omega)
theorem BsAt.alloc {B : Nat} {w : World} {v : Value} {l : List Nat} (h : BsAt B w v l) (o : Obj) : BsAt B (w.alloc o) v l := World.ownsRow.alloc h o
theorem BsAt.other {B : Nat} {w w' : World} {v : Value} {l : List Nat} (h : BsAt B w v l) {b : Nat} {e : TypeId} {sz : Nat} {o : Value} {n : Nat} {xs : List Value} (ho : w.ownsRow b e sz o n xs) (he : 5 ≠ e) (hg : w.grownBy w' o.ownBlock) : BsAt B w' v l :=
  World.ownsRow.kept h hg (own_ne h ho he)

theorem ndF_yes (t : List UInt8) (f : Nat) (st : St) : ndF t (f + 1) true st = ((apT t 124 st).1 :: (ndF t f (acB t 44 (apT t 124 st).2.1 (apT t 124 st).2.2) (acS t 44 (apT t 124 st).2)).1, (ndF t f (acB t 44 (apT t 124 st).2.1 (apT t 124 st).2.2) (acS t 44 (apT t 124 st).2)).2) := by rw [ndF, if_pos rfl]
theorem ndF_no (t : List UInt8) (f : Nat) (st : St) : ndF t f false st = ([], st) := by cases f <;> simp [ndF]
theorem nsF_yes (t : List UInt8) (f : Nat) (st : St) : nsF t (f + 1) true st = (naV t st.1 st.2 :: (nsF t f (acB t 44 (naS t st).1 (naS t st).2) (acS t 44 (naS t st))).1, (nsF t f (acB t 44 (naS t st).1 (naS t st).2) (acS t 44 (naS t st))).2) := by rw [nsF, if_pos rfl]
theorem nsF_no (t : List UInt8) (f : Nat) (st : St) : nsF t f false st = ([], st) := by cases f <;> simp [nsF]
theorem apF_ge (t : List UInt8) (x : Nat) : ∀ (f : Nat) (st : St), st.1 ≤ (apF t x f st).2.1
  | 0, st => Nat.le_refl _
  | f + 1, st => by
    have h1 := cnS_ge t st
    have h2 := acI_ge t x (cnS t st).1 (cnS t st).2
    rw [apF]
    split
    · exact Nat.le_trans h1 (Nat.le_trans h2 (apF_ge t x f (acS t x (cnS t st))))
    · exact Nat.le_trans h1 h2
theorem apT_ge (t : List UInt8) (x : Nat) (st : St) : st.1 ≤ (apT t x st).2.1 := apF_ge t x _ st
theorem own_setT {base : Nat} {w : World} {e : TypeId} {size : Nat} {v : Value} {n : Nat} {xs : List Value} (h : w.ownsRow base e size v n xs) {k : Nat} {cur : Array Value} {T : TypeId} {m : Nat × Nat} (hk : w.heap[k]? = some (.cells cur T m)) (hT : e ≠ T) (o : Nat) (u : Value) : (w.setCell ⟨k, o, none⟩ u).ownsRow base e size v n xs := by
  refine own_set h ?_ u
  rcases h.2 with ⟨rfl, _⟩ | ⟨g, cap, cur', rfl, _, hg, _⟩
  · simp [Value.ownBlock]
  · intro e
    simp [Value.ownBlock] at e
    subst e
    rw [hg] at hk
    simp at hk
    exact hT hk.2.1
theorem CsAt.setT {B : Nat} {w : World} {v : Value} {l : List Cn} (h : CsAt B w v l) {k : Nat} {cur : Array Value} {T : TypeId} {m : Nat × Nat} (hk : w.heap[k]? = some (.cells cur T m)) (hT : 125 ≠ T) (o : Nat) (u : Value) : CsAt B (w.setCell ⟨k, o, none⟩ u) v l := own_setT h hk hT o u
theorem BsAt.setT {B : Nat} {w : World} {v : Value} {l : List Nat} (h : BsAt B w v l) {k : Nat} {cur : Array Value} {T : TypeId} {m : Nat × Nat} (hk : w.heap[k]? = some (.cells cur T m)) (hT : 5 ≠ T) (o : Nat) (u : Value) : BsAt B (w.setCell ⟨k, o, none⟩ u) v l := own_setT h hk hT o u
theorem NsAt.setT {B : Nat} {w : World} {v : Value} {l : List (List Cn)} (h : NsAt B w v l) {k : Nat} {cur : Array Value} {T : TypeId} {m : Nat × Nat} (hk : w.heap[k]? = some (.cells cur T m)) (hT : 125 ≠ T) (hT' : 123 ≠ T) (o : Nat) (u : Value) : NsAt B (w.setCell ⟨k, o, none⟩ u) v l := by
  obtain ⟨vs, h1, h2⟩ := h
  exact ⟨vs, own_setT h1 hk hT' o u, h2.mono fun _ _ h => h.setT hk hT o u⟩
/-- A package's cells. -/
def pkCells (p : Pk) (vn vc vp : Value) : List Value := [.int .u8 p.n, .int .u8 p.v, .int .i64 p.m, vn, vc, vp]
def PkAt (B : Nat) (w : World) (p : Pk) (vn vc vp : Value) : Prop := NsAt B w vn p.needs ∧ CsAt B w vc p.conf ∧ BsAt B w vp p.prov

end Go.Proofs.YtenbnmbbfeekpaaDoor

/-
  Packages in memory; the places go on. Nothing of the dump but the types' numbers.
-/
namespace Go.Proofs.YtenbnmbbfeekpaaDoor
open Go.RowKit

theorem PkAt.kp {B : Nat} {w w' : World} {p : Pk} {vn vc vp : Value} (h : PkAt B w p vn vc vp) (hk : Kp B w w') : PkAt B w' p vn vc vp := ⟨h.1.kp hk, h.2.1.kp hk, h.2.2.kp hk⟩
theorem PkAt.alloc {B : Nat} {w : World} {p : Pk} {vn vc vp : Value} (h : PkAt B w p vn vc vp) (o : Obj) : PkAt B (w.alloc o) p vn vc vp := ⟨h.1.alloc o, h.2.1.alloc o, h.2.2.alloc o⟩
theorem PkAt.other {B : Nat} {w w' : World} {p : Pk} {vn vc vp : Value} (h : PkAt B w p vn vc vp) {b : Nat} {sz : Nat} {o : Value} {n : Nat} {xs : List Value} (ho : w.ownsRow b 91 sz o n xs) (hg : w.grownBy w' o.ownBlock) : PkAt B w' p vn vc vp :=
  ⟨h.1.other ho (by decide) (by decide) hg, h.2.1.other ho (by decide) hg, h.2.2.other ho (by decide) hg⟩
theorem PkAt.setT {B : Nat} {w : World} {p : Pk} {vn vc vp : Value} (h : PkAt B w p vn vc vp) {k : Nat} {cur : Array Value} {T : TypeId} {m : Nat × Nat} (hk : w.heap[k]? = some (.cells cur T m)) (h1 : 125 ≠ T) (h2 : 123 ≠ T) (h3 : 5 ≠ T) (o : Nat) (u : Value) : PkAt B (w.setCell ⟨k, o, none⟩ u) p vn vc vp :=
  ⟨h.1.setT hk h1 h2 o u, h.2.1.setT hk h1 o u, h.2.2.setT hk h3 o u⟩
def PkC (B : Nat) (w : World) (cells : List Value) (p : Pk) : Prop := ∃ vn vc vp, cells = pkCells p vn vc vp ∧ PkAt B w p vn vc vp
def PksAt (B : Nat) (w : World) (v : Value) (l : List Pk) : Prop := ∃ css : List (List Value), w.ownsRow (B + 1) 91 6 v l.length css.flatten ∧ All2 (PkC B w) css l
theorem PkC.kp {B : Nat} {w w' : World} {c : List Value} {p : Pk} (h : PkC B w c p) (hk : Kp B w w') : PkC B w' c p := by obtain ⟨a, b, d, e, f⟩ := h; exact ⟨a, b, d, e, f.kp hk⟩
theorem PkC.alloc {B : Nat} {w : World} {c : List Value} {p : Pk} (h : PkC B w c p) (o : Obj) : PkC B (w.alloc o) c p := by obtain ⟨a, b, d, e, f⟩ := h; exact ⟨a, b, d, e, f.alloc o⟩
theorem PkC.other {B : Nat} {w w' : World} {c : List Value} {p : Pk} (h : PkC B w c p) {b : Nat} {sz : Nat} {o : Value} {n : Nat} {xs : List Value} (ho : w.ownsRow b 91 sz o n xs) (hg : w.grownBy w' o.ownBlock) : PkC B w' c p := by obtain ⟨a, b, d, e, f⟩ := h; exact ⟨a, b, d, e, f.other ho hg⟩
theorem PkC.setT {B : Nat} {w : World} {c : List Value} {p : Pk} (h : PkC B w c p) {k : Nat} {cur : Array Value} {T : TypeId} {m : Nat × Nat} (hk : w.heap[k]? = some (.cells cur T m)) (h1 : 125 ≠ T) (h2 : 123 ≠ T) (h3 : 5 ≠ T) (o : Nat) (u : Value) : PkC B (w.setCell ⟨k, o, none⟩ u) c p := by obtain ⟨a, b, d, e, f⟩ := h; exact ⟨a, b, d, e, f.setT hk h1 h2 h3 o u⟩
theorem PksAt.kp {B : Nat} {w w' : World} {v : Value} {l : List Pk} (h : PksAt B w v l) (hk : Kp B w w') : PksAt B w' v l := by
  obtain ⟨css, h1, h2⟩ := h
  exact ⟨css, own_kp h1 hk (by omega), h2.mono fun _ _ h => h.kp hk⟩
theorem PksAt.alloc {B : Nat} {w : World} {v : Value} {l : List Pk} (h : PksAt B w v l) (o : Obj) : PksAt B (w.alloc o) v l := by
  obtain ⟨css, h1, h2⟩ := h
  exact ⟨css, h1.alloc o, h2.mono fun _ _ h => h.alloc o⟩
theorem PksAt.setT {B : Nat} {w : World} {v : Value} {l : List Pk} (h : PksAt B w v l) {k : Nat} {cur : Array Value} {T : TypeId} {m : Nat × Nat} (hk : w.heap[k]? = some (.cells cur T m)) (h0 : 91 ≠ T) (h1 : 125 ≠ T) (h2 : 123 ≠ T) (h3 : 5 ≠ T) (o : Nat) (u : Value) : PksAt B (w.setCell ⟨k, o, none⟩ u) v l := by
  obtain ⟨css, h4, h5⟩ := h
  exact ⟨css, own_setT h4 hk h0 o u, h5.mono fun _ _ h => h.setT hk h1 h2 h3 o u⟩

theorem Fr.alloc {B : Nat} {w wr : World} {T : TypeId} {res cur : Array Value} {s : ByteArray} {st : St} (h : Fr B w wr T res cur s st) (o : Obj) : Fr B w (wr.alloc o) T res cur s st :=
  ⟨blk_old h.b1 o, blk_old h.b2 o, h.rd.alloc o, h.kp.alloc o, h.lt⟩
theorem Fr.grown {B : Nat} {w wr w' : World} {T : TypeId} {res cur : Array Value} {s : ByteArray} {st : St} {row : Option Nat} (h : Fr B w wr T res cur s st) (hg : wr.grownBy w' row) (hr : ∀ k, row = some k → w.heap.size + 2 ≤ k) : Fr B w w' T res cur s st := by
  have hlt := h.lt
  refine ⟨(hg.block _ (ltAt h.b1) (fun e => ?_)).trans h.b1, (hg.block _ (ltAt h.b2) (fun e => ?_)).trans h.b2, h.rd.grown hg (fun e => ?_), h.kp.grown hg (fun k hk => ?_), hlt⟩
  · have := hr _ e.symm; omega
  · have := hr _ e.symm; omega
  · have := hr _ e; omega
  · have := hr _ hk; omega

theorem exS_ge (t : List UInt8) (x : Nat) (st : St) : st.1 ≤ (exS t x st).1 := acI_ge t x st.1 st.2
theorem acS_ge (t : List UInt8) (x : Nat) (st : St) : st.1 ≤ (acS t x st).1 := acI_ge t x st.1 st.2
theorem mkS_ge (t : List UInt8) (st : St) : st.1 ≤ (mkS t st).1 := by
  have l1 := acS_ge t 43 st
  have l2 := acS_ge t 33 (acS t 43 st)
  have l3 := acS_ge t 94 (acS t 33 (acS t 43 st))
  unfold mkS
  split
  · split <;> omega
  · omega
theorem csF_ge (t : List UInt8) (st : St) : st.1 ≤ (csF t st).2.1 := by
  unfold csF
  split
  · exact apT_ge t 44 st
  · exact Nat.le_refl _
theorem ndF_ge (t : List UInt8) : ∀ (f : Nat) (b : Bool) (st : St), st.1 ≤ (ndF t f b st).2.1
  | f, false, st => by rw [ndF_no]; exact Nat.le_refl _
  | 0, true, st => Nat.le_refl _
  | f + 1, true, st => by
    rw [ndF_yes]
    have h1 := apT_ge t 124 st
    have h2 := acS_ge t 44 (apT t 124 st).2
    have h3 := ndF_ge t f (acB t 44 (apT t 124 st).2.1 (apT t 124 st).2.2) (acS t 44 (apT t 124 st).2)
    exact Nat.le_trans h1 (Nat.le_trans h2 h3)
theorem nsF_ge (t : List UInt8) : ∀ (f : Nat) (b : Bool) (st : St), st.1 ≤ (nsF t f b st).2.1
  | f, false, st => by rw [nsF_no]; exact Nat.le_refl _
  | 0, true, st => Nat.le_refl _
  | f + 1, true, st => by
    rw [nsF_yes]
    have h1 : st.1 ≤ (naS t st).1 := naI_ge t st.1 st.2
    have h2 := acS_ge t 44 (naS t st)
    have h3 := nsF_ge t f (acB t 44 (naS t st).1 (naS t st).2) (acS t 44 (naS t st))
    exact Nat.le_trans h1 (Nat.le_trans h2 h3)
theorem p5_ge (t : List UInt8) (st : St) (h : naB t st.1 st.2 = true) : st.1 + 1 ≤ (p5 t st).1 := by
  have h0 : (naS t st).1 = st.1 + 1 := by unfold naS naI; simp [h]
  have h1 : (naS t st).1 ≤ (p1 t st).1 := veI_ge t _ _
  have h2 : (p1 t st).1 ≤ (p2 t st).1 := Nat.le_trans (mkS_ge t (p1 t st)) (exS_ge t 58 (mkS t (p1 t st)))
  have h3 : (p2 t st).1 ≤ (p3 t st).1 := Nat.le_trans (ndF_ge t _ _ (p2 t st)) (exS_ge t 58 (neF t (p2 t st)).2)
  have h4 : (p3 t st).1 ≤ (p4 t st).1 := Nat.le_trans (csF_ge t (p3 t st)) (exS_ge t 58 (csF t (p3 t st)).2)
  have h5 : (p4 t st).1 ≤ (p5 t st).1 := Nat.le_trans (nsF_ge t _ _ (p4 t st)) (exS_ge t 59 (nmsF t (p4 t st)).2)
  omega
theorem pksF_yes {t : List UInt8} {f : Nat} {st : St} (h : naB t st.1 st.2 = true) : pksF t (f + 1) st = (pkV t st :: (pksF t f (p5 t st)).1, (pksF t f (p5 t st)).2) := by rw [pksF, if_pos h]
theorem pksF_no {t : List UInt8} {f : Nat} {st : St} (h : naB t st.1 st.2 = false) : pksF t f st = ([], st) := by
  cases f
  · rfl
  · rw [pksF, if_neg (by simp [h])]

end Go.Proofs.YtenbnmbbfeekpaaDoor

/-
  The reader against the table of what may come next: plain mathematics, nothing of the dump.
-/
namespace Go.Proofs.YtenbnmbbfeekpaaDoor

def fin (q : Int) : Bool := q == 28 || (q == 30 || q == 32)
/-- The place of the fault, told from state q at place i. -/
def PL (t : List UInt8) (q : Int) (i : Nat) : Int := plF q (t.drop i) i

theorem drop_at {t : List UInt8} {i : Nat} {c : UInt8} (h : t[i]? = some c) : t.drop i = c :: t.drop (i + 1) := by
  obtain ⟨hi, rfl⟩ := List.getElem?_eq_some_iff.1 h
  exact List.drop_eq_getElem_cons hi
theorem drop_none {t : List UInt8} {i : Nat} (h : t[i]? = none) : t.drop i = [] := List.drop_of_length_le (List.getElem?_eq_none_iff.1 h)
theorem PL_go {t : List UInt8} {q q' : Int} {i : Nat} {c : UInt8} (h : t[i]? = some c) (hs : stepF q c.toNat = q') (hq : q' ≠ -1) : PL t q i = PL t q' (i + 1) := by
  unfold PL
  rw [drop_at h, plF, hs, if_neg (by simpa using hq)]
theorem PL_stop {t : List UInt8} {q : Int} {i : Nat} (hf : fin q = false) (h : ∀ c, t[i]? = some c → stepF q c.toNat = -1) : PL t q i = i := by
  unfold PL
  cases hc : t[i]? with
  | none => rw [drop_none hc, plF]; unfold fin at hf; rw [hf]; simp
  | some c => rw [drop_at hc, plF, h c hc]; simp
theorem PL_end {t : List UInt8} {q : Int} {i : Nat} (hf : fin q = true) (h : t[i]? = none) : PL t q i = -1 := by
  unfold PL
  rw [drop_none h, plF]; unfold fin at hf; rw [hf]; simp
theorem PL_same {t : List UInt8} {q q' : Int} {i : Nat} (hf : fin q = fin q') (h : ∀ c, t[i]? = some c → stepF q c.toNat = stepF q' c.toNat) : PL t q i = PL t q' i := by
  unfold PL
  cases hc : t[i]? with
  | none => rw [drop_none hc, plF, plF]; unfold fin at hf; rw [hf]
  | some c => rw [drop_at hc, plF, plF, h c hc]

theorem ahF_some {t : List UInt8} {i : Nat} {c : UInt8} (h : t[i]? = some c) : ahF t i false = c.toNat := by unfold ahF; rw [h]; rfl
theorem ahF_none {t : List UInt8} {i : Nat} (h : t[i]? = none) : ahF t i false = 0 := by unfold ahF; rw [h]; rfl

theorem na_yes {t : List UInt8} {i : Nat} (h : naB t i false = true) : ∃ c, t[i]? = some c ∧ nmB c.toNat = true ∧ naV t i false = c.toNat ∧ naI t i false = i + 1 ∧ naBad t i false = false := by
  cases hc : t[i]? with
  | none => unfold naB at h; rw [ahF_none hc] at h; exact absurd h (by decide)
  | some c => exact ⟨c, rfl, by unfold naB at h; rwa [ahF_some hc] at h, by unfold naV; rw [if_pos h, ahF_some hc], by unfold naI; rw [if_pos h], by unfold naBad; rw [if_pos h]⟩
theorem na_no {t : List UInt8} {i : Nat} (h : naB t i false = false) : (∀ c, t[i]? = some c → nmB c.toNat = false) ∧ naI t i false = i ∧ naBad t i false = true :=
  ⟨fun c hc => by unfold naB at h; rwa [ahF_some hc] at h, by unfold naI; rw [h]; rfl, by unfold naBad; rw [h]; rfl⟩
theorem ve_yes {t : List UInt8} {i : Nat} (h : veB t i false = true) : ∃ c, t[i]? = some c ∧ vrB c.toNat = true ∧ veV t i false = c.toNat ∧ veI t i false = i + 1 ∧ veBad t i false = false := by
  cases hc : t[i]? with
  | none => unfold veB at h; rw [ahF_none hc] at h; exact absurd h (by decide)
  | some c => exact ⟨c, rfl, by unfold veB at h; rwa [ahF_some hc] at h, by unfold veV; rw [if_pos h, ahF_some hc], by unfold veI; rw [if_pos h], by unfold veBad; rw [if_pos h]⟩
theorem ve_no {t : List UInt8} {i : Nat} (h : veB t i false = false) : (∀ c, t[i]? = some c → vrB c.toNat = false) ∧ veI t i false = i ∧ veBad t i false = true :=
  ⟨fun c hc => by unfold veB at h; rwa [ahF_some hc] at h, by unfold veI; rw [h]; rfl, by unfold veBad; rw [h]; rfl⟩
theorem si_yes {t : List UInt8} {i : Nat} (h : siB t i false = true) : ∃ c, t[i]? = some c ∧ sgB c.toNat = true ∧ siV t i false = c.toNat ∧ siI t i false = i + 1 ∧ c.toNat ≠ 0 := by
  cases hc : t[i]? with
  | none => unfold siB at h; rw [ahF_none hc] at h; exact absurd h (by decide)
  | some c =>
    have h' : sgB c.toNat = true := by unfold siB at h; rwa [ahF_some hc] at h
    exact ⟨c, rfl, h', by unfold siV; rw [if_pos h, ahF_some hc], by unfold siI; rw [if_pos h], fun e => by rw [e] at h'; revert h'; decide⟩
theorem si_no {t : List UInt8} {i : Nat} (h : siB t i false = false) : (∀ c, t[i]? = some c → sgB c.toNat = false) ∧ siI t i false = i ∧ siV t i false = 0 :=
  ⟨fun c hc => by unfold siB at h; rwa [ahF_some hc] at h, by unfold siI; rw [h]; rfl, by unfold siV; rw [h]; rfl⟩
theorem ac_yes {t : List UInt8} {x i : Nat} (h : acB t x i false = true) : ∃ c, t[i]? = some c ∧ c.toNat = x ∧ acI t x i false = i + 1 := by
  have h' := h
  unfold acB at h'
  cases hc : t[i]? with
  | none => rw [ahF_none hc] at h'; simp at h'
  | some c => rw [ahF_some hc] at h'; simp at h'; exact ⟨c, rfl, h'.2, acI_yes h⟩
theorem ac_no {t : List UInt8} {x i : Nat} (hx : x ≠ 0) (h : acB t x i false = false) : (∀ c, t[i]? = some c → c.toNat ≠ x) ∧ acI t x i false = i := by
  refine ⟨fun c hc e => ?_, acI_no h⟩
  unfold acB at h
  rw [ahF_some hc, e] at h
  simp at h
  exact hx h

/-- A reader that has stopped stays where it is. -/
theorem ac_bad (t : List UInt8) (x i : Nat) : acB t x i true = false ∧ acI t x i true = i ∧ exBad t x i true = true := by
  have h : acB t x i true = false := by unfold acB; rw [ahF_bad]; rfl
  exact ⟨h, acI_no h, by unfold exBad; rw [h]; rfl⟩
theorem na_bad (t : List UInt8) (i : Nat) : naB t i true = false ∧ naS t (i, true) = (i, true) := by
  have h : naB t i true = false := by unfold naB; rw [ahF_bad]; decide
  refine ⟨h, ?_⟩
  unfold naS naI naBad
  simp [h]
theorem ve_bad (t : List UInt8) (i : Nat) : veS t (i, true) = (i, true) := by
  have h : veB t i true = false := by unfold veB; rw [ahF_bad]; decide
  unfold veS veI veBad
  simp [h]
theorem si_bad (t : List UInt8) (i : Nat) : siS t (i, true) = (i, true) := by
  have h : siB t i true = false := by unfold siB; rw [ahF_bad]; decide
  unfold siS siI
  simp [h]
theorem ex_bad (t : List UInt8) (x i : Nat) : exS t x (i, true) = (i, true) := by
  unfold exS; simp [(ac_bad t x i).2.1, (ac_bad t x i).2.2]
theorem acS_bad (t : List UInt8) (x i : Nat) : acS t x (i, true) = (i, true) := by
  unfold acS; simp [(ac_bad t x i).2.1]
theorem cn_bad (t : List UInt8) (i : Nat) : cnS t (i, true) = (i, true) := by
  unfold cnS; rw [(na_bad t i).2, si_bad, ve_bad]; split <;> rfl
theorem mk_bad (t : List UInt8) (i : Nat) : mkS t (i, true) = (i, true) := by
  unfold mkS; simp [(ac_bad t 43 i).1, acS_bad]
theorem ap_bad (t : List UInt8) (x : Nat) (f i : Nat) : (apF t x f (i, true)).2 = (i, true) := by
  cases f with
  | zero => rfl
  | succ f => rw [apF_no (by rw [cn_bad]; exact (ac_bad t x i).1), cn_bad, acS_bad]
theorem cs_bad (t : List UInt8) (i : Nat) : (csF t (i, true)).2 = (i, true) := by
  unfold csF; simp [(na_bad t i).1]
theorem nd_bad (t : List UInt8) (i : Nat) : (neF t (i, true)).2 = (i, true) := by
  unfold neF; rw [show naB t (i, true).1 (i, true).2 = false from (na_bad t i).1, ndF_no]
theorem nms_bad (t : List UInt8) (i : Nat) : (nmsF t (i, true)).2 = (i, true) := by
  unfold nmsF; rw [show naB t (i, true).1 (i, true).2 = false from (na_bad t i).1, nsF_no]

/-- The text of a constraint. -/
def cnT (c : Cn) : List UInt8 := if c.s = 0 then [b8 c.n] else [b8 c.n, b8 c.s, b8 c.v]
structure CnOk (c : Cn) : Prop where
  n : nmB c.n = true
  sv : c.s = 0 ∧ c.v = 0 ∨ sgB c.s = true ∧ vrB c.v = true

/-- Four states of a list of constraints. -/
structure Four (qp qs qv qe : Int) : Prop where
  p1 : ∀ c : Int, nmB c = true → stepF qp c = qs
  p0 : ∀ c : Int, nmB c = false → stepF qp c = -1
  pf : fin qp = false
  s1 : ∀ c : Int, sgB c = true → stepF qs c = qv
  s0 : ∀ c : Int, sgB c = false → stepF qs c = stepF qe c
  sf : fin qs = fin qe
  v1 : ∀ c : Int, vrB c = true → stepF qv c = qe
  v0 : ∀ c : Int, vrB c = false → stepF qv c = -1
  vf : fin qv = false
  ns : qs ≠ -1
  nv : qv ≠ -1
  ne : qe ≠ -1
  np : qp ≠ -1

theorem cn_run {t : List UInt8} {qp qs qv qe : Int} (F : Four qp qs qv qe) (i : Nat) :
    ((cnS t (i, false)).2 = false → PL t qp i = PL t qe (cnS t (i, false)).1 ∧ t.drop i = cnT (cnV t (i, false)) ++ t.drop (cnS t (i, false)).1 ∧ CnOk (cnV t (i, false))) ∧
    ((cnS t (i, false)).2 = true → PL t qp i = (cnS t (i, false)).1) := by
  cases hn : naB t i false with
  | false =>
    obtain ⟨h1, h2, h3⟩ := na_no hn
    have hS : naS t (i, false) = (i, true) := by unfold naS; simp [h2, h3]
    have hc : cnS t (i, false) = (i, true) := by unfold cnS; rw [hS, si_bad, ve_bad]; split <;> rfl
    rw [hc]
    exact ⟨fun h => (by cases h), fun _ => PL_stop F.pf fun c hc => F.p0 _ (h1 c hc)⟩
  | true =>
    obtain ⟨c, hc, h1, h2, h3, h4⟩ := na_yes hn
    have hS : naS t (i, false) = (i + 1, false) := by unfold naS; simp [h3, h4]
    have hgo : PL t qp i = PL t qs (i + 1) := PL_go hc (F.p1 _ h1) F.ns
    cases hs : siB t (i + 1) false with
    | false =>
      obtain ⟨g1, g2, g3⟩ := si_no hs
      have hSS : siS t (i + 1, false) = (i + 1, false) := by unfold siS; simp [g2]
      have e1 : cnS t (i, false) = (i + 1, false) := by unfold cnS; rw [hS]; simp [g3, hSS]
      have e2 : cnV t (i, false) = { n := c.toNat, s := 0, v := 0 } := by unfold cnV; rw [hS]; simp [g3, h2]
      rw [e1, e2]
      refine ⟨fun _ => ⟨hgo.trans (PL_same F.sf fun d hd => F.s0 _ (g1 d hd)), ?_, ⟨h1, Or.inl ⟨rfl, rfl⟩⟩⟩, fun h => (by cases h)⟩
      rw [drop_at hc]; simp [cnT, b8_toNat]
    | true =>
      obtain ⟨d, hd, g1, g2, g3, g4⟩ := si_yes hs
      have hSS : siS t (i + 1, false) = (i + 1 + 1, false) := by unfold siS; simp [g3]
      have hgo2 : PL t qp i = PL t qv (i + 1 + 1) := hgo.trans (PL_go hd (F.s1 _ g1) F.nv)
      have e1 : cnS t (i, false) = veS t (i + 1 + 1, false) := by unfold cnS; rw [hS]; simp [g2, g4, hSS]
      cases hv : veB t (i + 1 + 1) false with
      | false =>
        obtain ⟨k1, k2, k3⟩ := ve_no hv
        have e2 : veS t (i + 1 + 1, false) = (i + 1 + 1, true) := by unfold veS; simp [k2, k3]
        rw [e1, e2]
        exact ⟨fun h => (by cases h), fun _ => hgo2.trans (PL_stop F.vf fun c hc => F.v0 _ (k1 c hc))⟩
      | true =>
        obtain ⟨v, hv', k1, k2, k3, k4⟩ := ve_yes hv
        have e2 : veS t (i + 1 + 1, false) = (i + 1 + 1 + 1, false) := by unfold veS; simp [k3, k4]
        have e3 : cnV t (i, false) = { n := c.toNat, s := d.toNat, v := v.toNat } := by unfold cnV; rw [hS]; simp [g2, g4, h2, hSS, k2]
        rw [e1, e2, e3]
        refine ⟨fun _ => ⟨hgo2.trans (PL_go hv' (F.v1 _ k1) F.ne), ?_, ⟨h1, Or.inr ⟨g1, k1⟩⟩⟩, fun h => (by cases h)⟩
        rw [drop_at hc, drop_at hd, drop_at hv']; simp [cnT, b8_toNat, g4]

end Go.Proofs.YtenbnmbbfeekpaaDoor

/-
  The reader against the table, on: lists, needs, names, packages, documents. Plain mathematics.
-/
namespace Go.Proofs.YtenbnmbbfeekpaaDoor

def joinT (x : UInt8) : List (List UInt8) → List UInt8
  | [] => []
  | [a] => a
  | a :: b :: l => a ++ x :: joinT x (b :: l)
theorem joinT_cons {x : UInt8} {a : List UInt8} {l : List (List UInt8)} (h : l ≠ []) : joinT x (a :: l) = a ++ x :: joinT x l := by
  cases l with
  | nil => exact absurd rfl h
  | cons b l => rfl

theorem PL_halt {t : List UInt8} {q : Int} {i : Nat} {c : UInt8} (h : t[i]? = some c) (hs : stepF q c.toNat = -1) : PL t q i = i := by
  unfold PL; rw [drop_at h, plF, hs]; simp

/-- The list is at its end, and only y may come, which leads to n. -/
structure Cl (t : List UInt8) (q : Int) (j y : Nat) (n : Int) (f : Bool) : Prop where
  f : fin q = f
  s : ∀ c, t[j]? = some c → stepF q c.toNat = if c.toNat = y then n else -1

theorem ex_run {t : List UInt8} {q n : Int} {j y : Nat} (hc : Cl t q j y n false) (hy : y ≠ 0) (hn : n ≠ -1) :
    ((exS t y (j, false)).2 = false → PL t q j = PL t n (exS t y (j, false)).1 ∧ t.drop j = b8 y :: t.drop (exS t y (j, false)).1) ∧
    ((exS t y (j, false)).2 = true → PL t q j = (exS t y (j, false)).1) := by
  unfold exS
  cases h : acB t y j false with
  | false =>
    obtain ⟨h1, h2⟩ := ac_no hy h
    simp only [exBad, h, h2]
    refine ⟨fun h => by simp at h, fun _ => PL_stop hc.f fun c hcc => ?_⟩
    rw [hc.s c hcc, if_neg (h1 c hcc)]
  | true =>
    obtain ⟨c, h1, h2, h3⟩ := ac_yes h
    simp only [exBad, h, h3]
    refine ⟨fun _ => ⟨PL_go h1 (by rw [hc.s c h1, if_pos h2]) hn, ?_⟩, fun h => by simp at h⟩
    rw [drop_at h1, ← h2, b8_toNat]

theorem ap_run {t : List UInt8} {qp qs qv qe : Int} (F : Four qp qs qv qe) (x : Nat) (hx : x ≠ 0) (hq : stepF qe x = qp) : ∀ (f i : Nat), t.length - i < f →
    ((apF t x f (i, false)).2.2 = false → PL t qp i = PL t qe (apF t x f (i, false)).2.1 ∧ (∀ c, t[(apF t x f (i, false)).2.1]? = some c → c.toNat ≠ x) ∧
      t.drop i = joinT (b8 x) ((apF t x f (i, false)).1.map cnT) ++ t.drop (apF t x f (i, false)).2.1 ∧ (apF t x f (i, false)).1 ≠ [] ∧ ∀ c ∈ (apF t x f (i, false)).1, CnOk c) ∧
    ((apF t x f (i, false)).2.2 = true → PL t qp i = (apF t x f (i, false)).2.1)
  | 0, i, hf => by omega
  | f + 1, i, hf => by
    obtain ⟨c1, c2⟩ := cn_run (t := t) F i
    have hge := cnS_ge t (i, false)
    rcases hj : cnS t (i, false) with ⟨j, bad⟩
    rw [hj] at c1 c2 hge
    cases bad with
    | true =>
      rw [apF_no (by rw [hj]; exact (ac_bad t x j).1), hj, acS_bad]
      exact ⟨fun h => (by cases h), fun _ => c2 rfl⟩
    | false =>
      obtain ⟨k1, k2, k3⟩ := c1 rfl
      cases ha : acB t x j false with
      | false =>
        obtain ⟨a1, a2⟩ := ac_no hx ha
        rw [apF_no (by rw [hj]; exact ha), hj]
        have : acS t x (j, false) = (j, false) := by unfold acS; simp [a2]
        rw [this]
        refine ⟨fun _ => ⟨k1, a1, by simpa [joinT] using k2, by simp, fun c hc => ?_⟩, fun h => (by cases h)⟩
        simp at hc; subst hc; exact k3
      | true =>
        obtain ⟨c, a1, a2, a3⟩ := ac_yes ha
        have hlt : j < t.length := (List.getElem?_eq_some_iff.1 a1).1
        have : acS t x (j, false) = (j + 1, false) := by unfold acS; simp [a3]
        rw [apF_yes (by rw [hj]; exact ha), hj, this]
        obtain ⟨r1, r2⟩ := ap_run (t := t) F x hx hq f (j + 1) (by have h9 : i ≤ j := hge; omega)
        have hgo : PL t qp i = PL t qp (j + 1) := k1.trans (PL_go a1 (by rw [a2]; exact hq) F.np)
        refine ⟨fun h => ?_, fun h => hgo.trans (r2 h)⟩
        obtain ⟨e1, e2, e3, e4, e5⟩ := r1 h
        refine ⟨hgo.trans e1, e2, ?_, by simp, fun d hd => ?_⟩
        · simp only [List.map_cons]
          rw [joinT_cons (by simpa using e4), k2, drop_at a1, e3, ← a2, b8_toNat]
          simp
        · rcases List.mem_cons.1 hd with rfl | hd
          · exact k3
          · exact e5 d hd

theorem ap_run' {t : List UInt8} {qp qs qv qe : Int} (F : Four qp qs qv qe) (x : Nat) (hx : x ≠ 0) (hq : stepF qe x = qp) (i : Nat) :
    ((apT t x (i, false)).2.2 = false → PL t qp i = PL t qe (apT t x (i, false)).2.1 ∧ (∀ c, t[(apT t x (i, false)).2.1]? = some c → c.toNat ≠ x) ∧
      t.drop i = joinT (b8 x) ((apT t x (i, false)).1.map cnT) ++ t.drop (apT t x (i, false)).2.1 ∧ (apT t x (i, false)).1 ≠ [] ∧ ∀ c ∈ (apT t x (i, false)).1, CnOk c) ∧
    ((apT t x (i, false)).2.2 = true → PL t qp i = (apT t x (i, false)).2.1) := ap_run F x hx hq (t.length + 2) i (by omega)

/-- A list of constraints, with the states round it. -/
structure Lst (qb qp qs qv qe : Int) (y : Nat) (n : Int) (f : Bool) : Prop where
  four : Four qp qs qv qe
  sep : stepF qe 44 = qp
  b1 : ∀ c : Int, nmB c = true → stepF qb c = qs
  b0 : ∀ c : Nat, c < 256 → nmB c = false → stepF qb c = if c = y then n else -1
  e0 : ∀ c : Nat, c < 256 → c ≠ 44 → stepF qe c = if c = y then n else -1
  bf : fin qb = f
  ef : fin qe = f

def lsT (l : List Cn) : List UInt8 := joinT 44 (l.map cnT)

theorem PL_begin {t : List UInt8} {qb qp qs : Int} {i : Nat} (h : naB t i false = true) (hb : ∀ c : Int, nmB c = true → stepF qb c = qs) (hp : ∀ c : Int, nmB c = true → stepF qp c = qs) (hs : qs ≠ -1) : PL t qb i = PL t qp i := by
  obtain ⟨c, hc, h1, _⟩ := na_yes h
  exact (PL_go hc (hb _ h1) hs).trans (PL_go hc (hp _ h1) hs).symm

theorem cs_run {t : List UInt8} {qb qp qs qv qe : Int} {y : Nat} {n : Int} {f : Bool} (L : Lst qb qp qs qv qe y n f) (i : Nat) :
    ((csF t (i, false)).2.2 = false → ∃ q, PL t qb i = PL t q (csF t (i, false)).2.1 ∧ Cl t q (csF t (i, false)).2.1 y n f ∧ t.drop i = lsT (csF t (i, false)).1 ++ t.drop (csF t (i, false)).2.1 ∧ ∀ c ∈ (csF t (i, false)).1, CnOk c) ∧
    ((csF t (i, false)).2.2 = true → PL t qb i = (csF t (i, false)).2.1) := by
  cases h : naB t i false with
  | false =>
    obtain ⟨h1, _⟩ := na_no h
    have hcs : csF t (i, false) = ([], (i, false)) := by unfold csF; simp [h]
    rw [hcs]
    exact ⟨fun _ => ⟨qb, rfl, ⟨L.bf, fun c hc => L.b0 _ (UInt8.toNat_lt c) (h1 c hc)⟩, by simp [lsT, joinT], by simp⟩, fun h => by simp at h⟩
  | true =>
    have hP := PL_begin h L.b1 L.four.p1 L.four.ns
    have hcs : csF t (i, false) = apT t 44 (i, false) := by unfold csF; simp [h]
    rw [hcs]
    obtain ⟨r1, r2⟩ := ap_run' (t := t) L.four 44 (by decide) L.sep i
    refine ⟨fun h => ?_, fun h => hP.trans (r2 h)⟩
    obtain ⟨e1, e2, e3, e4, e5⟩ := r1 h
    exact ⟨qe, hP.trans e1, ⟨L.ef, fun c hc => L.e0 _ (UInt8.toNat_lt c) (e2 c hc)⟩, e3, e5⟩

/-- A list of constraints and the byte behind it. -/
theorem cs_ex {t : List UInt8} {qb qp qs qv qe : Int} {y : Nat} {n : Int} (L : Lst qb qp qs qv qe y n false) (hy : y ≠ 0) (hn : n ≠ -1) (i : Nat) :
    ((exS t y (csF t (i, false)).2).2 = false → PL t qb i = PL t n (exS t y (csF t (i, false)).2).1 ∧ t.drop i = lsT (csF t (i, false)).1 ++ b8 y :: t.drop (exS t y (csF t (i, false)).2).1 ∧ ∀ c ∈ (csF t (i, false)).1, CnOk c) ∧
    ((exS t y (csF t (i, false)).2).2 = true → PL t qb i = (exS t y (csF t (i, false)).2).1) := by
  obtain ⟨r1, r2⟩ := cs_run (t := t) L i
  generalize hr : csF t (i, false) = r at *
  obtain ⟨l, j, bad⟩ := r
  cases bad with
  | true => simp only [ex_bad]; exact ⟨fun h => (by cases h), fun _ => r2 rfl⟩
  | false =>
    obtain ⟨q, e1, e2, e3, e4⟩ := r1 rfl
    obtain ⟨x1, x2⟩ := ex_run e2 hy hn
    refine ⟨fun h => ?_, fun h => e1.trans (x2 h)⟩
    obtain ⟨k1, k2⟩ := x1 h
    exact ⟨e1.trans k1, by rw [e3]; simp only; rw [k2], e4⟩

theorem sg_ne {c : Int} (h : sgB c = true) : c = 61 ∨ c = 60 ∨ c = 62 := by unfold sgB at h; simp at h; omega
theorem nm_rng {c : Int} (h : nmB c = true) : 97 ≤ c ∧ c ≤ 122 := by unfold nmB at h; simp at h; exact h
theorem vr_rng {c : Int} (h : vrB c = true) : 49 ≤ c ∧ c ≤ 57 := by unfold vrB at h; simp at h; exact h

theorem lst_of (k : Int) (y : Nat) (n : Int) (f : Bool) (hk : k = 0 ∧ y = 58 ∧ n = 10 ∧ f = false ∨ k = 1 ∧ y = 47 ∧ n = 23 ∧ f = false ∨ k = 2 ∧ y = 47 ∧ n = 28 ∧ f = false ∨ k = 3 ∧ y = 1000 ∧ n = 99 ∧ f = true) :
    Lst (13 + 5 * k) (13 + 5 * k + 1) (13 + 5 * k + 2) (13 + 5 * k + 3) (13 + 5 * k + 4) y n f := by
  have hst : ∀ (r c : Int), 0 ≤ r → r < 5 → stepF (13 + 5 * k + r) c = listF k r c := by
    intro r c h0 h1
    unfold stepF
    rw [if_neg (by omega), if_neg (by omega), show (13 + 5 * k + r - 13) / 5 = k by omega, show (13 + 5 * k + r - 13) % 5 = r by omega]
  have hs0 : ∀ c : Int, stepF (13 + 5 * k) c = listF k 0 c := fun c => by have := hst 0 c (by omega) (by omega); simpa using this
  refine ⟨⟨fun c h => ?_, fun c h => ?_, ?_, fun c h => ?_, fun c h => ?_, ?_, fun c h => ?_, fun c h => ?_, ?_, by omega, by omega, by omega, by omega⟩, ?_, fun c h => ?_, fun c hc h => ?_, fun c hc h => ?_, ?_, ?_⟩
  · rw [hst 1 c (by omega) (by omega)]; simp [listF, h]
  · rw [hst 1 c (by omega) (by omega)]; simp [listF, h]
  · unfold fin; simp; omega
  · rw [hst 2 c (by omega) (by omega)]; simp [listF, h]
  · rw [hst 2 c (by omega) (by omega), hst 4 c (by omega) (by omega)]; simp [listF, h]
  · unfold fin; rcases hk with ⟨rfl, _⟩ | ⟨rfl, _⟩ | ⟨rfl, _⟩ | ⟨rfl, _⟩ <;> decide
  · rw [hst 3 c (by omega) (by omega)]; simp [listF, h]
  · rw [hst 3 c (by omega) (by omega)]; simp [listF, h]
  · unfold fin; rcases hk with ⟨rfl, _⟩ | ⟨rfl, _⟩ | ⟨rfl, _⟩ | ⟨rfl, _⟩ <;> decide
  · rw [hst 4 44 (by omega) (by omega)]; simp [listF]
  · rw [hs0]; simp [listF, h]
  · rw [hs0]
    rcases hk with ⟨rfl, rfl, rfl, rfl⟩ | ⟨rfl, rfl, rfl, rfl⟩ | ⟨rfl, rfl, rfl, rfl⟩ | ⟨rfl, rfl, rfl, rfl⟩
    all_goals simp [listF, h]
    all_goals first | omega | (split <;> split <;> omega)
  · rw [hst 4 c (by omega) (by omega)]
    rcases hk with ⟨rfl, rfl, rfl, rfl⟩ | ⟨rfl, rfl, rfl, rfl⟩ | ⟨rfl, rfl, rfl, rfl⟩ | ⟨rfl, rfl, rfl, rfl⟩
    all_goals have h' : ((c : Int) == 44) = false := by rw [beq_eq_false_iff_ne]; omega
    all_goals simp [listF, h']
    all_goals first | omega | (split <;> split <;> omega)
  · unfold fin; rcases hk with ⟨rfl, rfl, rfl, rfl⟩ | ⟨rfl, rfl, rfl, rfl⟩ | ⟨rfl, rfl, rfl, rfl⟩ | ⟨rfl, rfl, rfl, rfl⟩ <;> decide
  · unfold fin; rcases hk with ⟨rfl, rfl, rfl, rfl⟩ | ⟨rfl, rfl, rfl, rfl⟩ | ⟨rfl, rfl, rfl, rfl⟩ | ⟨rfl, rfl, rfl, rfl⟩ <;> decide

theorem lc : Lst 13 14 15 16 17 58 10 false := lst_of 0 58 10 false (Or.inl ⟨rfl, rfl, rfl, rfl⟩)
theorem l1 : Lst 18 19 20 21 22 47 23 false := lst_of 1 47 23 false (Or.inr (Or.inl ⟨rfl, rfl, rfl, rfl⟩))
theorem l2 : Lst 23 24 25 26 27 47 28 false := lst_of 2 47 28 false (Or.inr (Or.inr (Or.inl ⟨rfl, rfl, rfl, rfl⟩)))
theorem l3 : Lst 28 29 30 31 32 1000 99 true := lst_of 3 1000 99 true (Or.inr (Or.inr (Or.inr ⟨rfl, rfl, rfl, rfl⟩)))

theorem st_need (q c : Int) (h0 : 5 ≤ q) (h1 : q < 13) : stepF q c = needF q c := by unfold stepF; rw [if_neg (by omega), if_pos h1]
theorem st_head (q c : Int) (h1 : q < 5) : stepF q c = headF q c := by unfold stepF; rw [if_pos h1]

theorem fn : Four 6 7 8 9 := by
  refine ⟨fun c h => ?_, fun c h => ?_, by decide, fun c h => ?_, fun c h => ?_, by decide, fun c h => ?_, fun c h => ?_, by decide, by decide, by decide, by decide, by decide⟩
  · rw [st_need _ _ (by omega) (by omega)]; simp [needF, h]
  · rw [st_need _ _ (by omega) (by omega)]; simp [needF, h]
  · rw [st_need _ _ (by omega) (by omega)]; simp [needF, h]
  · rw [st_need _ _ (by omega) (by omega), st_need _ _ (by omega) (by omega)]; simp [needF, h]
  · rw [st_need _ _ (by omega) (by omega)]; simp [needF, h]
  · rw [st_need _ _ (by omega) (by omega)]; simp [needF, h]

def ndT (l : List Cn) : List UInt8 := joinT 124 (l.map cnT)
def nsT (l : List (List Cn)) : List UInt8 := joinT 44 (l.map ndT)
def NdOk (l : List Cn) : Prop := l ≠ [] ∧ ∀ c ∈ l, CnOk c

theorem nd_run {t : List UInt8} : ∀ (f i : Nat), t.length - i < f →
    ((ndF t f true (i, false)).2.2 = false → ∃ q, PL t 6 i = PL t q (ndF t f true (i, false)).2.1 ∧ Cl t q (ndF t f true (i, false)).2.1 58 13 false ∧
      t.drop i = nsT (ndF t f true (i, false)).1 ++ t.drop (ndF t f true (i, false)).2.1 ∧ (ndF t f true (i, false)).1 ≠ [] ∧ ∀ l ∈ (ndF t f true (i, false)).1, NdOk l) ∧
    ((ndF t f true (i, false)).2.2 = true → PL t 6 i = (ndF t f true (i, false)).2.1)
  | 0, i, hf => by omega
  | f + 1, i, hf => by
    obtain ⟨c1, c2⟩ := ap_run' (t := t) fn 124 (by decide) (by decide) i
    have hge := apT_ge t 124 (i, false)
    rw [ndF_yes]
    rcases hj : apT t 124 (i, false) with ⟨l, j, bad⟩
    rw [hj] at c1 c2 hge
    simp only at c1 c2 hge ⊢
    cases bad with
    | true =>
      rw [(ac_bad t 44 j).1, acS_bad, ndF_no]
      exact ⟨fun h => (by cases h), fun _ => c2 rfl⟩
    | false =>
      obtain ⟨k1, k2, k3, k4, k5⟩ := c1 rfl
      cases ha : acB t 44 j false with
      | false =>
        obtain ⟨a1, a2⟩ := ac_no (by decide) ha
        have : acS t 44 (j, false) = (j, false) := by unfold acS; simp [a2]
        rw [this, ndF_no]
        refine ⟨fun _ => ⟨9, k1, ⟨by decide, fun c hc => ?_⟩, by simpa [nsT, joinT, ndT, b8] using k3, by simp, fun d hd => ?_⟩, fun h => (by cases h)⟩
        · have g1 := a1 c hc
          have g2 := k2 c hc
          have g1' : ((c.toNat : Int) == 44) = false := by rw [beq_eq_false_iff_ne]; omega
          have g2' : ((c.toNat : Int) == 124) = false := by rw [beq_eq_false_iff_ne]; omega
          rw [st_need _ _ (by omega) (by omega)]; simp [needF, g1', g2']
          split <;> split <;> omega
        · simp at hd; subst hd; exact ⟨k4, k5⟩
      | true =>
        obtain ⟨c, a1, a2, a3⟩ := ac_yes ha
        have hlt : j < t.length := (List.getElem?_eq_some_iff.1 a1).1
        have : acS t 44 (j, false) = (j + 1, false) := by unfold acS; simp [a3]
        rw [this]
        obtain ⟨r1, r2⟩ := nd_run (t := t) f (j + 1) (by omega)
        have hgo : PL t 6 i = PL t 6 (j + 1) := k1.trans (PL_go a1 (by rw [a2]; decide) (by decide))
        refine ⟨fun h => ?_, fun h => hgo.trans (r2 h)⟩
        obtain ⟨q, e1, e2, e3, e4, e5⟩ := r1 h
        refine ⟨q, hgo.trans e1, e2, ?_, by simp, fun d hd => ?_⟩
        · unfold nsT
          simp only [List.map_cons]
          rw [joinT_cons (by simpa using e4), k3, drop_at a1, e3, show c = 44 from UInt8.toNat.inj a2]
          simp [nsT, ndT, b8]
        · rcases List.mem_cons.1 hd with rfl | hd
          · exact ⟨k4, k5⟩
          · exact e5 d hd

theorem ne_ex {t : List UInt8} (i : Nat) :
    ((exS t 58 (neF t (i, false)).2).2 = false → PL t 5 i = PL t 13 (exS t 58 (neF t (i, false)).2).1 ∧ t.drop i = nsT (neF t (i, false)).1 ++ b8 58 :: t.drop (exS t 58 (neF t (i, false)).2).1 ∧ ∀ l ∈ (neF t (i, false)).1, NdOk l) ∧
    ((exS t 58 (neF t (i, false)).2).2 = true → PL t 5 i = (exS t 58 (neF t (i, false)).2).1) := by
  unfold neF
  cases h : naB t i false with
  | false =>
    obtain ⟨h1, _⟩ := na_no h
    rw [ndF_no]
    have hC : Cl t 5 i 58 13 false := ⟨by decide, fun c hc => by
      have g := h1 c hc
      rw [st_need _ _ (by omega) (by omega)]; simp [needF, g]
      split <;> split <;> omega⟩
    obtain ⟨x1, x2⟩ := ex_run hC (by decide) (by decide)
    exact ⟨fun h => ⟨(x1 h).1, by simpa [nsT, joinT] using (x1 h).2, by simp⟩, x2⟩
  | true =>
    have hP : PL t 5 i = PL t 6 i := PL_begin h (fun c h => by rw [st_need _ _ (by omega) (by omega)]; simp [needF, h]) fn.p1 fn.ns
    obtain ⟨r1, r2⟩ := nd_run (t := t) (t.length + 2) i (by omega)
    generalize ndF t (t.length + 2) true (i, false) = r at *
    obtain ⟨l, j, bad⟩ := r
    cases bad with
    | true => simp only [ex_bad]; exact ⟨fun h => (by cases h), fun _ => hP.trans (r2 rfl)⟩
    | false =>
      obtain ⟨q, e1, e2, e3, e4, e5⟩ := r1 rfl
      obtain ⟨x1, x2⟩ := ex_run e2 (by decide) (by decide)
      refine ⟨fun h => ?_, fun h => hP.trans (e1.trans (x2 h))⟩
      obtain ⟨k1, k2⟩ := x1 h
      exact ⟨hP.trans (e1.trans k1), by rw [e3]; simp only; rw [k2], e5⟩

def nmT (l : List Nat) : List UInt8 := joinT 44 (l.map fun c => [b8 c])
theorem ns_run {t : List UInt8} : ∀ (f i : Nat), t.length - i < f →
    ((nsF t f true (i, false)).2.2 = false → ∃ q, PL t 11 i = PL t q (nsF t f true (i, false)).2.1 ∧ Cl t q (nsF t f true (i, false)).2.1 59 0 false ∧
      t.drop i = nmT (nsF t f true (i, false)).1 ++ t.drop (nsF t f true (i, false)).2.1 ∧ (nsF t f true (i, false)).1 ≠ [] ∧ ∀ c ∈ (nsF t f true (i, false)).1, nmB (c : Nat) = true) ∧
    ((nsF t f true (i, false)).2.2 = true → PL t 11 i = (nsF t f true (i, false)).2.1)
  | 0, i, hf => by omega
  | f + 1, i, hf => by
    rw [nsF_yes]
    cases hn : naB t i false with
    | false =>
      obtain ⟨h1, h2, h3⟩ := na_no hn
      have hS : naS t (i, false) = (i, true) := by unfold naS; simp [h2, h3]
      rw [hS, (ac_bad t 44 i).1, acS_bad, nsF_no]
      refine ⟨fun h => (by cases h), fun _ => PL_stop (by decide) fun c hc => ?_⟩
      rw [st_need _ _ (by omega) (by omega)]; simp [needF, h1 c hc]
    | true =>
      obtain ⟨c, hc, h1, h2, h3, h4⟩ := na_yes hn
      have hS : naS t (i, false) = (i + 1, false) := by unfold naS; simp [h3, h4]
      have hlt0 : i < t.length := (List.getElem?_eq_some_iff.1 hc).1
      have k1 : PL t 11 i = PL t 12 (i + 1) := PL_go hc (by rw [st_need _ _ (by omega) (by omega)]; simp [needF, h1]) (by decide)
      rw [hS]
      simp only [h2]
      cases ha : acB t 44 (i + 1) false with
      | false =>
        obtain ⟨a1, a2⟩ := ac_no (by decide) ha
        have : acS t 44 (i + 1, false) = (i + 1, false) := by unfold acS; simp [a2]
        rw [this, nsF_no]
        refine ⟨fun _ => ⟨12, k1, ⟨by decide, fun d hd => ?_⟩, ?_, by simp, fun d hd => ?_⟩, fun h => (by cases h)⟩
        · have g1 := a1 d hd
          have g1' : ((d.toNat : Int) == 44) = false := by rw [beq_eq_false_iff_ne]; omega
          rw [st_need _ _ (by omega) (by omega)]; simp [needF, g1']
          split <;> split <;> omega
        · rw [drop_at hc]; simp [nmT, joinT, b8_toNat]
        · simp at hd; subst hd; exact h1
      | true =>
        obtain ⟨d, a1, a2, a3⟩ := ac_yes ha
        have hlt : i + 1 < t.length := (List.getElem?_eq_some_iff.1 a1).1
        have : acS t 44 (i + 1, false) = (i + 1 + 1, false) := by unfold acS; simp [a3]
        rw [this]
        obtain ⟨r1, r2⟩ := ns_run (t := t) f (i + 1 + 1) (by omega)
        have hgo : PL t 11 i = PL t 11 (i + 1 + 1) := k1.trans (PL_go a1 (by rw [a2]; decide) (by decide))
        refine ⟨fun h => ?_, fun h => hgo.trans (r2 h)⟩
        obtain ⟨q, e1, e2, e3, e4, e5⟩ := r1 h
        refine ⟨q, hgo.trans e1, e2, ?_, by simp, fun u hu => ?_⟩
        · unfold nmT
          simp only [List.map_cons]
          rw [joinT_cons (by simpa using e4), drop_at hc, drop_at a1, e3, show d = 44 from UInt8.toNat.inj a2]
          simp [nmT, b8_toNat]
        · rcases List.mem_cons.1 hu with rfl | hu
          · exact h1
          · exact e5 u hu

theorem nms_ex {t : List UInt8} (i : Nat) :
    ((exS t 59 (nmsF t (i, false)).2).2 = false → PL t 10 i = PL t 0 (exS t 59 (nmsF t (i, false)).2).1 ∧ t.drop i = nmT (nmsF t (i, false)).1 ++ b8 59 :: t.drop (exS t 59 (nmsF t (i, false)).2).1 ∧ ∀ c ∈ (nmsF t (i, false)).1, nmB (c : Nat) = true) ∧
    ((exS t 59 (nmsF t (i, false)).2).2 = true → PL t 10 i = (exS t 59 (nmsF t (i, false)).2).1) := by
  unfold nmsF
  cases h : naB t i false with
  | false =>
    obtain ⟨h1, _⟩ := na_no h
    rw [nsF_no]
    have hC : Cl t 10 i 59 0 false := ⟨by decide, fun c hc => by
      have g := h1 c hc
      rw [st_need _ _ (by omega) (by omega)]; simp [needF, g]
      split <;> split <;> omega⟩
    obtain ⟨x1, x2⟩ := ex_run hC (by decide) (by decide)
    exact ⟨fun h => ⟨(x1 h).1, by simpa [nmT, joinT] using (x1 h).2, by simp⟩, x2⟩
  | true =>
    have hP : PL t 10 i = PL t 11 i := PL_begin (qs := 12) h (fun c h => by rw [st_need _ _ (by omega) (by omega)]; simp [needF, h]) (fun c h => by rw [st_need _ _ (by omega) (by omega)]; simp [needF, h]) (by decide)
    obtain ⟨r1, r2⟩ := ns_run (t := t) (t.length + 2) i (by omega)
    generalize nsF t (t.length + 2) true (i, false) = r at *
    obtain ⟨l, j, bad⟩ := r
    cases bad with
    | true => simp only [ex_bad]; exact ⟨fun h => (by cases h), fun _ => hP.trans (r2 rfl)⟩
    | false =>
      obtain ⟨q, e1, e2, e3, e4, e5⟩ := r1 rfl
      obtain ⟨x1, x2⟩ := ex_run e2 (by decide) (by decide)
      refine ⟨fun h => ?_, fun h => hP.trans (e1.trans (x2 h))⟩
      obtain ⟨k1, k2⟩ := x1 h
      exact ⟨hP.trans (e1.trans k1), by rw [e3]; simp only; rw [k2], e5⟩

end Go.Proofs.YtenbnmbbfeekpaaDoor

/-
  The reader against the table: marks, packages, documents. Plain mathematics.
-/
namespace Go.Proofs.YtenbnmbbfeekpaaDoor

def mkT (m : Nat) : List UInt8 := if m = 0 then [] else if m = 1 then [43] else if m = 2 then [43, 33] else [43, 94]
theorem mk_run {t : List UInt8} (i : Nat) : ∃ j q, mkS t (i, false) = (j, false) ∧ PL t 2 i = PL t q j ∧ Cl t q j 58 5 false ∧ t.drop i = mkT (mkV t (i, false)) ++ t.drop j ∧ mkV t (i, false) ≤ 3 := by
  have cl : ∀ (q : Int) (j : Nat), 2 ≤ q → q ≤ 4 → (∀ c, t[j]? = some c → q = 2 → c.toNat ≠ 43) → (∀ c, t[j]? = some c → q = 3 → c.toNat ≠ 33 ∧ c.toNat ≠ 94) → Cl t q j 58 5 false := by
    intro q j h0 h1 h2 h3
    refine ⟨by unfold fin; simp; omega, fun c hc => ?_⟩
    rw [st_head _ _ (by omega)]
    have g2 := h2 c hc
    have g3 := h3 c hc
    rcases (by omega : q = 2 ∨ q = 3 ∨ q = 4) with rfl | rfl | rfl
    · have : ((c.toNat : Int) == 43) = false := by rw [beq_eq_false_iff_ne]; have := g2 rfl; omega
      simp [headF, this]; split <;> split <;> omega
    · have e1 : ((c.toNat : Int) == 33) = false := by rw [beq_eq_false_iff_ne]; have := (g3 rfl).1; omega
      have e2 : ((c.toNat : Int) == 94) = false := by rw [beq_eq_false_iff_ne]; have := (g3 rfl).2; omega
      simp [headF, e1, e2]; split <;> split <;> omega
    · simp [headF]; split <;> split <;> omega
  cases h1 : acB t 43 i false with
  | false =>
    obtain ⟨a1, a2⟩ := ac_no (by decide) h1
    refine ⟨i, 2, by unfold mkS acS; simp [h1, a2], rfl, cl 2 i (by omega) (by omega) (fun c hc _ => a1 c hc) (fun c hc h => by omega), ?_, ?_⟩
    · unfold mkV; simp [h1, mkT]
    · unfold mkV; simp [h1]
  | true =>
    obtain ⟨c, a1, a2, a3⟩ := ac_yes h1
    have hS : acS t 43 (i, false) = (i + 1, false) := by unfold acS; simp [a3]
    have hgo : PL t 2 i = PL t 3 (i + 1) := PL_go a1 (by rw [a2]; decide) (by decide)
    have hd1 : t.drop i = 43 :: t.drop (i + 1) := by rw [drop_at a1, show c = 43 from UInt8.toNat.inj a2]
    cases h2 : acB t 33 (i + 1) false with
    | true =>
      obtain ⟨d, b1, b2, b3⟩ := ac_yes h2
      have hS2 : acS t 33 (i + 1, false) = (i + 1 + 1, false) := by unfold acS; simp [b3]
      have hd2 : t.drop (i + 1) = 33 :: t.drop (i + 1 + 1) := by rw [drop_at b1, show d = 33 from UInt8.toNat.inj b2]
      refine ⟨i + 1 + 1, 4, by unfold mkS; simp [h1, hS, h2, hS2], hgo.trans (PL_go b1 (by rw [b2]; decide) (by decide)), cl 4 _ (by omega) (by omega) (fun _ _ h => by omega) (fun _ _ h => by omega), ?_, ?_⟩
      · unfold mkV; simp [h1, hS, h2, mkT, hd1, hd2]
      · unfold mkV; simp [h1, hS, h2]
    | false =>
      obtain ⟨b1, b2⟩ := ac_no (by decide) h2
      have hS2 : acS t 33 (i + 1, false) = (i + 1, false) := by unfold acS; simp [b2]
      cases h3 : acB t 94 (i + 1) false with
      | true =>
        obtain ⟨d, k1, k2, k3⟩ := ac_yes h3
        have hS3 : acS t 94 (i + 1, false) = (i + 1 + 1, false) := by unfold acS; simp [k3]
        have hd2 : t.drop (i + 1) = 94 :: t.drop (i + 1 + 1) := by rw [drop_at k1, show d = 94 from UInt8.toNat.inj k2]
        refine ⟨i + 1 + 1, 4, by unfold mkS; simp [h1, hS, h2, hS2, hS3], hgo.trans (PL_go k1 (by rw [k2]; decide) (by decide)), cl 4 _ (by omega) (by omega) (fun _ _ h => by omega) (fun _ _ h => by omega), ?_, ?_⟩
        · unfold mkV; simp [h1, hS, h2, hS2, h3, mkT, hd1, hd2]
        · unfold mkV; simp [h1, hS, h2, hS2, h3]
      | false =>
        obtain ⟨k1, k2⟩ := ac_no (by decide) h3
        have hS3 : acS t 94 (i + 1, false) = (i + 1, false) := by unfold acS; simp [k2]
        refine ⟨i + 1, 3, by unfold mkS; simp [h1, hS, h2, hS2, hS3], hgo, cl 3 _ (by omega) (by omega) (fun _ _ h => by omega) (fun c hc _ => ⟨b1 c hc, k1 c hc⟩), ?_, ?_⟩
        · unfold mkV; simp [h1, hS, h2, hS2, h3, mkT, hd1]
        · unfold mkV; simp [h1, hS, h2, hS2, h3]

def pkT (p : Pk) : List UInt8 := b8 p.n :: b8 p.v :: (mkT p.m ++ 58 :: (nsT p.needs ++ 58 :: (lsT p.conf ++ 58 :: (nmT p.prov ++ [59]))))
structure PkOk (p : Pk) : Prop where
  n : nmB p.n = true
  v : vrB p.v = true
  m : p.m ≤ 3
  needs : ∀ l ∈ p.needs, NdOk l
  conf : ∀ c ∈ p.conf, CnOk c
  prov : ∀ c ∈ p.prov, nmB (c : Nat) = true

/-- One step and then the next: a fault is a fault of the whole. -/
theorem pk_run {t : List UInt8} (i : Nat) (hn : naB t i false = true) :
    ((p5 t (i, false)).2 = false → PL t 0 i = PL t 0 (p5 t (i, false)).1 ∧ t.drop i = pkT (pkV t (i, false)) ++ t.drop (p5 t (i, false)).1 ∧ PkOk (pkV t (i, false))) ∧
    ((p5 t (i, false)).2 = true → PL t 0 i = (p5 t (i, false)).1) := by
  obtain ⟨c, hc, h1, h2, h3, h4⟩ := na_yes hn
  have hS : naS t (i, false) = (i + 1, false) := by unfold naS; simp [h3, h4]
  have hgo : PL t 0 i = PL t 1 (i + 1) := PL_go hc (by rw [st_head _ _ (by omega)]; simp [headF, h1]) (by decide)
  have E1 : p1 t (i, false) = veS t (i + 1, false) := by unfold p1; rw [hS]
  cases hv : veB t (i + 1) false with
  | false =>
    obtain ⟨k1, k2, k3⟩ := ve_no hv
    have e2 : veS t (i + 1, false) = (i + 1, true) := by unfold veS; simp [k2, k3]
    have e5 : p5 t (i, false) = (i + 1, true) := by unfold p5 p4 p3 p2; rw [E1, e2, mk_bad, ex_bad, nd_bad, ex_bad, cs_bad, ex_bad, nms_bad, ex_bad]
    rw [e5]
    refine ⟨fun h => (by cases h), fun _ => hgo.trans (PL_stop (by decide) fun d hd => ?_)⟩
    rw [st_head _ _ (by omega)]; simp [headF, k1 d hd]
  | true =>
    obtain ⟨v, hv', k1, k2, k3, k4⟩ := ve_yes hv
    have e2 : veS t (i + 1, false) = (i + 1 + 1, false) := by unfold veS; simp [k3, k4]
    have hgo2 : PL t 0 i = PL t 2 (i + 1 + 1) := hgo.trans (PL_go hv' (by rw [st_head _ _ (by omega)]; simp [headF, k1]) (by decide))
    obtain ⟨j, q, m1, m2, m3, m4, m5⟩ := mk_run (t := t) (i + 1 + 1)
    obtain ⟨x1, x2⟩ := ex_run m3 (by decide) (by decide)
    have E2 : p2 t (i, false) = exS t 58 (j, false) := by unfold p2; rw [E1, e2, m1]
    rcases hj2 : exS t 58 (j, false) with ⟨j2, bad2⟩
    rw [hj2] at x1 x2 E2
    cases bad2 with
    | true =>
      have e5 : p5 t (i, false) = (j2, true) := by unfold p5 p4 p3; rw [E2, nd_bad, ex_bad, cs_bad, ex_bad, nms_bad, ex_bad]
      rw [e5]
      exact ⟨fun h => (by cases h), fun _ => hgo2.trans (m2.trans (x2 rfl))⟩
    | false =>
      obtain ⟨x3, x4⟩ := x1 rfl
      have hgo3 : PL t 0 i = PL t 5 j2 := hgo2.trans (m2.trans x3)
      obtain ⟨y1, y2⟩ := ne_ex (t := t) j2
      have E3 : p3 t (i, false) = exS t 58 (neF t (j2, false)).2 := by unfold p3; rw [E2]
      rcases hj3 : exS t 58 (neF t (j2, false)).2 with ⟨j3, bad3⟩
      rw [hj3] at y1 y2 E3
      cases bad3 with
      | true =>
        have e5 : p5 t (i, false) = (j3, true) := by unfold p5 p4; rw [E3, cs_bad, ex_bad, nms_bad, ex_bad]
        rw [e5]
        exact ⟨fun h => (by cases h), fun _ => hgo3.trans (y2 rfl)⟩
      | false =>
        obtain ⟨y3, y4, y5⟩ := y1 rfl
        have hgo4 : PL t 0 i = PL t 13 j3 := hgo3.trans y3
        obtain ⟨z1, z2⟩ := cs_ex (t := t) lc (by decide) (by decide) j3
        have E4 : p4 t (i, false) = exS t 58 (csF t (j3, false)).2 := by unfold p4; rw [E3]
        rcases hj4 : exS t 58 (csF t (j3, false)).2 with ⟨j4, bad4⟩
        rw [hj4] at z1 z2 E4
        cases bad4 with
        | true =>
          have e5 : p5 t (i, false) = (j4, true) := by unfold p5; rw [E4, nms_bad, ex_bad]
          rw [e5]
          exact ⟨fun h => (by cases h), fun _ => hgo4.trans (z2 rfl)⟩
        | false =>
          obtain ⟨z3, z4, z5⟩ := z1 rfl
          have hgo5 : PL t 0 i = PL t 10 j4 := hgo4.trans z3
          obtain ⟨u1, u2⟩ := nms_ex (t := t) j4
          have E5 : p5 t (i, false) = exS t 59 (nmsF t (j4, false)).2 := by unfold p5; rw [E4]
          rw [E5]
          refine ⟨fun h => ?_, fun h => hgo5.trans (u2 h)⟩
          obtain ⟨u3, u4, u5⟩ := u1 h
          have eV : pkV t (i, false) = { n := c.toNat, v := v.toNat, m := mkV t (i + 1 + 1, false), needs := (neF t (j2, false)).1, conf := (csF t (j3, false)).1, prov := (nmsF t (j4, false)).1 } := by
            unfold pkV; rw [hS, E1, E2, E3, E4, e2]; simp [h2, k2]
          rw [eV]
          refine ⟨hgo5.trans u3, ?_, ⟨h1, k1, m5, y5, z5, u5⟩⟩
          rw [drop_at hc, drop_at hv', m4, x4, y4, z4, u4]
          simp [pkT, b8]

theorem pks_run {t : List UInt8} : ∀ (f i : Nat), t.length - i < f →
    ((pksF t f (i, false)).2.2 = false → PL t 0 i = PL t 0 (pksF t f (i, false)).2.1 ∧ (∀ c, t[(pksF t f (i, false)).2.1]? = some c → nmB c.toNat = false) ∧
      t.drop i = (pksF t f (i, false)).1.flatMap pkT ++ t.drop (pksF t f (i, false)).2.1 ∧ ∀ p ∈ (pksF t f (i, false)).1, PkOk p) ∧
    ((pksF t f (i, false)).2.2 = true → PL t 0 i = (pksF t f (i, false)).2.1)
  | 0, i, hf => by omega
  | f + 1, i, hf => by
    cases hn : naB t i false with
    | false =>
      rw [pksF_no (by exact hn)]
      exact ⟨fun _ => ⟨rfl, (na_no hn).1, by simp, by simp⟩, fun h => (by cases h)⟩
    | true =>
      rw [pksF_yes (by exact hn)]
      obtain ⟨c1, c2⟩ := pk_run (t := t) i hn
      have hge := p5_ge t (i, false) hn
      rcases hj : p5 t (i, false) with ⟨j, bad⟩
      rw [hj] at c1 c2 hge
      cases bad with
      | true =>
        rw [pksF_no (by exact (na_bad t j).1)]
        exact ⟨fun h => (by cases h), fun _ => c2 rfl⟩
      | false =>
        obtain ⟨k1, k2, k3⟩ := c1 rfl
        obtain ⟨c, hc, _⟩ := na_yes hn
        have hlt : i < t.length := (List.getElem?_eq_some_iff.1 hc).1
        have hge' : i + 1 ≤ j := hge
        obtain ⟨r1, r2⟩ := pks_run (t := t) f j (by omega)
        refine ⟨fun h => ?_, fun h => k1.trans (r2 h)⟩
        obtain ⟨e1, e2, e3, e4⟩ := r1 h
        refine ⟨k1.trans e1, e2, ?_, fun p hp => ?_⟩
        · rw [k2, e3]; simp
        · rcases List.mem_cons.1 hp with rfl | hp
          · exact k3
          · exact e4 p hp

structure DcOk (d : Dc) : Prop where
  packs : ∀ p ∈ d.packs, PkOk p
  ins : ∀ c ∈ d.ins, CnOk c
  rem : ∀ c ∈ d.rem, CnOk c
  upg : ∀ c ∈ d.upg, CnOk c
def pksT (l : List Pk) : List UInt8 := l.flatMap pkT
def dcT (d : Dc) : List UInt8 := pksT d.packs ++ 47 :: (lsT d.ins ++ 47 :: (lsT d.rem ++ 47 :: lsT d.upg))

theorem dc_run (t : List UInt8) : (dcBad t = false → plF 0 t 0 = -1 ∧ t = dcT (dcV t) ∧ DcOk (dcV t)) ∧ (dcBad t = true → plF 0 t 0 = dcI t) := by
  have h0 : plF 0 t 0 = PL t 0 0 := by unfold PL; simp
  rw [h0]
  obtain ⟨c1, c2⟩ := pks_run (t := t) (t.length + 2) 0 (by omega)
  have hd0 : d0 t = pksF t (t.length + 2) (0, false) := rfl
  rcases hj : pksF t (t.length + 2) (0, false) with ⟨ps, j, bad⟩
  rw [hj] at c1 c2 hd0
  have done : ∀ k, (csF t (d3 t)).2 = (k, true) → PL t 0 0 = k → (dcBad t = false → PL t 0 0 = -1 ∧ t = dcT (dcV t) ∧ DcOk (dcV t)) ∧ (dcBad t = true → PL t 0 0 = dcI t) := by
    intro k hk hP
    have e1 : dcI t = k := by unfold dcI; rw [hk]
    have e2 : dcBad t = true := by unfold dcBad; rw [hk]; simp
    exact ⟨fun h => (by rw [e2] at h; cases h), fun _ => (by rw [e1]; exact hP)⟩
  cases bad with
  | true => exact done j (by unfold d3 d2 d1; rw [hd0]; simp only [ex_bad, cs_bad]) (c2 rfl)
  | false =>
    obtain ⟨k1, k2, k3, k4⟩ := c1 rfl
    have hC : Cl t 0 j 47 18 false := ⟨by decide, fun c hc => by
      rw [st_head _ _ (by omega)]; simp [headF, k2 c hc]; split <;> split <;> omega⟩
    obtain ⟨x1, x2⟩ := ex_run hC (by decide) (by decide)
    have E1 : d1 t = exS t 47 (j, false) := by unfold d1; rw [hd0]
    rcases hj1 : exS t 47 (j, false) with ⟨j1, bad1⟩
    rw [hj1] at x1 x2 E1
    cases bad1 with
    | true => exact done j1 (by unfold d3 d2; rw [E1]; simp only [ex_bad, cs_bad]) (k1.trans (x2 rfl))
    | false =>
      obtain ⟨x3, x4⟩ := x1 rfl
      obtain ⟨y1, y2⟩ := cs_ex (t := t) l1 (by decide) (by decide) j1
      have E2 : d2 t = exS t 47 (csF t (j1, false)).2 := by unfold d2; rw [E1]
      rcases hj2 : exS t 47 (csF t (j1, false)).2 with ⟨j2, bad2⟩
      rw [hj2] at y1 y2 E2
      cases bad2 with
      | true => exact done j2 (by unfold d3; rw [E2]; simp only [ex_bad, cs_bad]) (k1.trans (x3.trans (y2 rfl)))
      | false =>
        obtain ⟨y3, y4, y5⟩ := y1 rfl
        obtain ⟨z1, z2⟩ := cs_ex (t := t) l2 (by decide) (by decide) j2
        have E3 : d3 t = exS t 47 (csF t (j2, false)).2 := by unfold d3; rw [E2]
        rcases hj3 : exS t 47 (csF t (j2, false)).2 with ⟨j3, bad3⟩
        rw [hj3] at z1 z2 E3
        cases bad3 with
        | true => exact done j3 (by rw [E3]; exact cs_bad t j3) (k1.trans (x3.trans (y3.trans (z2 rfl))))
        | false =>
          obtain ⟨z3, z4, z5⟩ := z1 rfl
          obtain ⟨u1, u2⟩ := cs_run (t := t) l3 j3
          rcases hj4 : csF t (j3, false) with ⟨lu, j4, bad4⟩
          rw [hj4] at u1 u2
          have E4 : (csF t (d3 t)) = (lu, j4, bad4) := by rw [E3]; exact hj4
          have hall : PL t 0 0 = PL t 28 j3 := k1.trans (x3.trans (y3.trans z3))
          cases bad4 with
          | true => exact done j4 (by rw [E4]) (hall.trans (u2 rfl))
          | false =>
            obtain ⟨q, e1, e2, e3, e4⟩ := u1 rfl
            have eI : dcI t = j4 := by unfold dcI; rw [E4]
            cases hc : t[j4]? with
            | some c =>
              have hlt : j4 < t.length := (List.getElem?_eq_some_iff.1 hc).1
              have eB : dcBad t = true := by unfold dcBad; rw [eI, if_pos hlt]
              refine ⟨fun h => (by rw [eB] at h; cases h), fun _ => ?_⟩
              rw [eI]
              refine hall.trans (e1.trans (PL_halt hc ?_))
              rw [e2.s c hc, if_neg (by have := UInt8.toNat_lt c; omega)]
            | none =>
              have hlt : ¬ j4 < t.length := by have := List.getElem?_eq_none_iff.1 hc; omega
              have eB : dcBad t = false := by unfold dcBad; rw [eI, if_neg hlt, E4]
              refine ⟨fun _ => ⟨hall.trans (e1.trans (PL_end e2.f hc)), ?_, ?_⟩, fun h => (by rw [eB] at h; cases h)⟩
              · have hV : dcV t = { packs := ps, ins := (csF t (j1, false)).1, rem := (csF t (j2, false)).1, upg := lu } := by unfold dcV; rw [hd0, E1, E2, E4]
                rw [hV]
                have hf : t.drop 0 = dcT { packs := ps, ins := (csF t (j1, false)).1, rem := (csF t (j2, false)).1, upg := lu } := by
                  rw [k3]
                  simp only
                  rw [x4]
                  simp only
                  rw [y4]
                  simp only
                  rw [z4]
                  simp only
                  rw [e3]
                  simp only
                  rw [drop_none hc]
                  simp [dcT, pksT, b8]
                simpa using hf
              · have hV : dcV t = { packs := ps, ins := (csF t (j1, false)).1, rem := (csF t (j2, false)).1, upg := lu } := by unfold dcV; rw [hd0, E1, E2, E4]
                rw [hV]
                exact ⟨k4, y5, z5, e4⟩

end Go.Proofs.YtenbnmbbfeekpaaDoor

/-
  Texts that are written, cut again at their signs. Plain mathematics.
-/
namespace Go.Proofs.YtenbnmbbfeekpaaDoor

def Free (c : UInt8) (l : List UInt8) : Prop := ∀ x ∈ l, x ≠ c
theorem Free.nil (c : UInt8) : Free c [] := by intro x hx; cases hx
theorem Free.cons {c x : UInt8} {l : List UInt8} (hx : x ≠ c) (h : Free c l) : Free c (x :: l) := by
  intro y hy; rcases List.mem_cons.1 hy with rfl | hy
  · exact hx
  · exact h y hy
theorem Free.app {c : UInt8} {a b : List UInt8} (ha : Free c a) (hb : Free c b) : Free c (a ++ b) := by
  intro x hx; rcases List.mem_append.1 hx with h | h
  · exact ha x h
  · exact hb x h

theorem piecesGo_free {c : UInt8} : ∀ {a : List UInt8}, Free c a → ∀ (cur r : List UInt8), piecesGo c cur (a ++ r) = piecesGo c (cur ++ a) r
  | [], _, cur, r => by simp
  | x :: a, h, cur, r => by
    have hx : x ≠ c := h x (by simp)
    rw [List.cons_append, piecesGo, if_neg (by simpa using hx), piecesGo_free (fun y hy => h y (by simp [hy])) (cur ++ [x]) r]
    simp
theorem pieces_join {c : UInt8} : ∀ {l : List (List UInt8)}, l ≠ [] → (∀ a ∈ l, Free c a) → piecesL c (joinT c l) = l
  | [a], _, h => by
    unfold piecesL
    have := piecesGo_free (h a (by simp)) [] []
    simp at this
    simp [joinT, this, piecesGo]
  | a :: b :: l, _, h => by
    have ih := pieces_join (c := c) (l := b :: l) (by simp) (fun x hx => h x (by simp [hx]))
    unfold piecesL at ih ⊢
    rw [joinT_cons (by simp), piecesGo_free (h a (by simp)), piecesGo, if_pos (by simp), ih]
    simp
theorem join_ne {c : UInt8} : ∀ {l : List (List UInt8)}, l ≠ [] → (∀ a ∈ l, a ≠ []) → joinT c l ≠ []
  | [a], _, h => h a (by simp)
  | a :: b :: l, _, h => by rw [joinT_cons (by simp)]; simp
theorem split_join {c : UInt8} {l : List (List UInt8)} (h : ∀ a ∈ l, Free c a) (hne : ∀ a ∈ l, a ≠ []) : splitL c (joinT c l) = l := by
  cases l with
  | nil => rfl
  | cons a l =>
    unfold splitL
    rw [if_neg (by rw [List.isEmpty_iff]; exact join_ne (by simp) hne)]
    exact pieces_join (by simp) h
theorem join_free {c x : UInt8} (hx : x ≠ c) : ∀ {l : List (List UInt8)}, (∀ a ∈ l, Free c a) → Free c (joinT x l)
  | [], _ => Free.nil c
  | [a], h => h a (by simp)
  | a :: b :: l, h => by
    rw [joinT_cons (by simp)]
    exact (h a (by simp)).app (Free.cons hx (join_free hx (fun y hy => h y (by simp [hy]))))

/-- A sign between the parts. -/
def Sep (c : UInt8) : Prop := c = 44 ∨ c = 47 ∨ c = 58 ∨ c = 59 ∨ c = 124
theorem nm_free {n : Nat} (h : nmB n = true) {c : UInt8} (hc : Sep c) : b8 n ≠ c := by
  have := nm_rng h
  intro e
  have h2 := congrArg UInt8.toNat e
  rw [b8_val (by omega)] at h2
  rcases hc with rfl | rfl | rfl | rfl | rfl <;> simp at h2 <;> omega
theorem vr_free {n : Nat} (h : vrB n = true) {c : UInt8} (hc : Sep c) : b8 n ≠ c := by
  have := vr_rng h
  intro e
  have h2 := congrArg UInt8.toNat e
  rw [b8_val (by omega)] at h2
  rcases hc with rfl | rfl | rfl | rfl | rfl <;> simp at h2 <;> omega
theorem sg_free {n : Nat} (h : sgB n = true) {c : UInt8} (hc : Sep c) : b8 n ≠ c := by
  have := sg_ne h
  intro e
  have h2 := congrArg UInt8.toNat e
  rw [b8_val (by omega)] at h2
  rcases hc with rfl | rfl | rfl | rfl | rfl <;> simp at h2 <;> omega
theorem cn_free {c : Cn} (h : CnOk c) {x : UInt8} (hx : Sep x) : Free x (cnT c) := by
  unfold cnT
  rcases h.sv with ⟨h1, _⟩ | ⟨h1, h2⟩
  · rw [if_pos h1]; exact Free.cons (nm_free h.n hx) (Free.nil x)
  · rw [if_neg (by intro e; rw [e] at h1; revert h1; decide)]
    exact Free.cons (nm_free h.n hx) (Free.cons (sg_free h1 hx) (Free.cons (vr_free h2 hx) (Free.nil x)))
theorem cn_ne (c : Cn) : cnT c ≠ [] := by unfold cnT; split <;> simp
theorem ls_free {l : List Cn} (h : ∀ c ∈ l, CnOk c) {x : UInt8} (hx : Sep x) (h44 : x ≠ 44) : Free x (lsT l) :=
  join_free (Ne.symm h44) (fun a ha => by obtain ⟨c, hc, rfl⟩ := List.mem_map.1 ha; exact cn_free (h c hc) hx)
theorem ls_split {l : List Cn} (h : ∀ c ∈ l, CnOk c) : splitL 44 (lsT l) = l.map cnT :=
  split_join (fun a ha => by obtain ⟨c, hc, rfl⟩ := List.mem_map.1 ha; exact cn_free (h c hc) (Or.inl rfl)) (fun a ha => by obtain ⟨c, hc, rfl⟩ := List.mem_map.1 ha; exact cn_ne c)
theorem nd_free {l : List Cn} (h : NdOk l) {x : UInt8} (hx : Sep x) (h124 : x ≠ 124) : Free x (ndT l) :=
  join_free (Ne.symm h124) (fun a ha => by obtain ⟨c, hc, rfl⟩ := List.mem_map.1 ha; exact cn_free (h.2 c hc) hx)
theorem nd_ne {l : List Cn} (h : NdOk l) : ndT l ≠ [] := join_ne (by simpa using h.1) (fun a ha => by obtain ⟨c, hc, rfl⟩ := List.mem_map.1 ha; exact cn_ne c)
theorem nd_split {l : List Cn} (h : NdOk l) : splitL 124 (ndT l) = l.map cnT :=
  split_join (fun a ha => by obtain ⟨c, hc, rfl⟩ := List.mem_map.1 ha; exact cn_free (h.2 c hc) (Or.inr (Or.inr (Or.inr (Or.inr rfl))))) (fun a ha => by obtain ⟨c, hc, rfl⟩ := List.mem_map.1 ha; exact cn_ne c)
theorem ns_free {l : List (List Cn)} (h : ∀ n ∈ l, NdOk n) {x : UInt8} (hx : Sep x) (h44 : x ≠ 44) (h124 : x ≠ 124) : Free x (nsT l) :=
  join_free (Ne.symm h44) (fun a ha => by obtain ⟨c, hc, rfl⟩ := List.mem_map.1 ha; exact nd_free (h c hc) hx h124)
theorem ns_split {l : List (List Cn)} (h : ∀ n ∈ l, NdOk n) : splitL 44 (nsT l) = l.map ndT :=
  split_join (fun a ha => by obtain ⟨c, hc, rfl⟩ := List.mem_map.1 ha; exact nd_free (h c hc) (Or.inl rfl) (by decide)) (fun a ha => by obtain ⟨c, hc, rfl⟩ := List.mem_map.1 ha; exact nd_ne (h c hc))
theorem nm1_free {n : Nat} (h : nmB n = true) {x : UInt8} (hx : Sep x) : Free x [b8 n] := Free.cons (nm_free h hx) (Free.nil x)
theorem nmT_free {l : List Nat} (h : ∀ c ∈ l, nmB (c : Nat) = true) {x : UInt8} (hx : Sep x) (h44 : x ≠ 44) : Free x (nmT l) :=
  join_free (Ne.symm h44) (fun a ha => by obtain ⟨c, hc, rfl⟩ := List.mem_map.1 ha; exact nm1_free (h c hc) hx)
theorem nm_split {l : List Nat} (h : ∀ c ∈ l, nmB (c : Nat) = true) : splitL 44 (nmT l) = l.map fun c => [b8 c] :=
  split_join (fun a ha => by obtain ⟨c, hc, rfl⟩ := List.mem_map.1 ha; exact nm1_free (h c hc) (Or.inl rfl)) (fun a ha => by obtain ⟨c, hc, rfl⟩ := List.mem_map.1 ha; simp)
theorem mk_free (m : Nat) {x : UInt8} (hx : Sep x) : Free x (mkT m) := by
  unfold mkT
  intro y hy
  rcases hx with rfl | rfl | rfl | rfl | rfl <;> (split at hy; · simp at hy) <;> (split at hy; · simp at hy; subst hy; decide) <;> (split at hy <;> (simp at hy; rcases hy with rfl | rfl <;> decide))

/-- A package's text without its last sign. -/
def pkH (p : Pk) : List UInt8 := b8 p.n :: b8 p.v :: mkT p.m
def pkB (p : Pk) : List UInt8 := joinT 58 [pkH p, nsT p.needs, lsT p.conf, nmT p.prov]
theorem pkT_eq (p : Pk) : pkT p = pkB p ++ [59] := by simp [pkT, pkB, pkH, joinT]
theorem pkH_free {p : Pk} (h : PkOk p) {x : UInt8} (hx : Sep x) : Free x (pkH p) := Free.cons (nm_free h.n hx) (Free.cons (vr_free h.v hx) (mk_free p.m hx))
theorem pk_pieces {p : Pk} (h : PkOk p) : piecesL 58 (pkB p) = [pkH p, nsT p.needs, lsT p.conf, nmT p.prov] := by
  have hs : Sep 58 := Or.inr (Or.inr (Or.inl rfl))
  refine pieces_join (by simp) (fun a ha => ?_)
  simp at ha
  rcases ha with rfl | rfl | rfl | rfl
  · exact pkH_free h hs
  · exact ns_free h.needs hs (by decide) (by decide)
  · exact ls_free h.conf hs (by decide)
  · exact nmT_free h.prov hs (by decide)
theorem pkB_free {p : Pk} (h : PkOk p) {x : UInt8} (hx : Sep x) (h44 : x ≠ 44) (h124 : x ≠ 124) (h58 : x ≠ 58) : Free x (pkB p) := by
  refine join_free (Ne.symm h58) (fun a ha => ?_)
  simp at ha
  rcases ha with rfl | rfl | rfl | rfl
  · exact pkH_free h hx
  · exact ns_free h.needs hx h44 h124
  · exact ls_free h.conf hx h44
  · exact nmT_free h.prov hx h44
theorem pks_join : ∀ (ps : List Pk), pksT ps = joinT 59 (ps.map pkB ++ [[]])
  | [] => rfl
  | p :: ps => by
    have ih := pks_join ps
    unfold pksT at ih ⊢
    rw [List.flatMap_cons, ih, List.map_cons, List.cons_append, joinT_cons (by simp), pkT_eq]
    simp
theorem pks_split {ps : List Pk} (h : ∀ p ∈ ps, PkOk p) (hne : ps ≠ []) : splitL 59 (pksT ps) = ps.map pkB ++ [[]] := by
  have hs : Sep 59 := Or.inr (Or.inr (Or.inr (Or.inl rfl)))
  unfold splitL
  rw [if_neg]
  · rw [pks_join]
    refine pieces_join (by simp) (fun a ha => ?_)
    simp at ha
    rcases ha with ⟨p, hp, rfl⟩ | rfl
    · exact pkB_free (h p hp) hs (by decide) (by decide) (by decide)
    · exact Free.nil _
  · cases ps with
    | nil => exact absurd rfl hne
    | cons p ps => rw [List.isEmpty_iff]; simp [pksT, pkT]
theorem pks_free {ps : List Pk} (h : ∀ p ∈ ps, PkOk p) : Free 47 (pksT ps) := by
  rw [pks_join]
  refine join_free (by decide) (fun a ha => ?_)
  simp at ha
  rcases ha with ⟨p, hp, rfl⟩ | rfl
  · exact pkB_free (h p hp) (Or.inr (Or.inl rfl)) (by decide) (by decide) (by decide)
  · exact Free.nil _
theorem dc_pieces {d : Dc} (h : DcOk d) : piecesL 47 (dcT d) = [pksT d.packs, lsT d.ins, lsT d.rem, lsT d.upg] := by
  have hs : Sep 47 := Or.inr (Or.inl rfl)
  rw [show dcT d = joinT 47 [pksT d.packs, lsT d.ins, lsT d.rem, lsT d.upg] by simp [dcT, joinT]]
  refine pieces_join (by simp) (fun a ha => ?_)
  simp at ha
  rcases ha with rfl | rfl | rfl | rfl
  · exact pks_free h.packs
  · exact ls_free h.ins hs (by decide)
  · exact ls_free h.rem hs (by decide)
  · exact ls_free h.upg hs (by decide)

theorem join_len {c : UInt8} : ∀ {l : List (List UInt8)} {a : List UInt8}, a ∈ l → a.length ≤ (joinT c l).length
  | [b], a, h => by simp at h; subst h; exact Nat.le_refl _
  | b :: b' :: l, a, h => by
    rw [joinT_cons (by simp)]
    rcases List.mem_cons.1 h with rfl | h
    · simp
    · have := join_len (c := c) h; simp; omega

end Go.Proofs.YtenbnmbbfeekpaaDoor
