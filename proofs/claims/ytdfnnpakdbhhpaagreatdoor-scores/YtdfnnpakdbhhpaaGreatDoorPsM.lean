/-
  The reader's greater methods as plain functions. Nothing of the dump.
-/
import Derived.Test.YtdfnnpakdbhhpaaGreatDoorRdM
namespace Go.Proofs.YtdfnnpakdbhhpaaGreatDoor
open Go.RowKit

/-- Where the reader stands, and whether it has stopped. -/
abbrev St := Nat × Bool
def acS (t : List UInt8) (x : Nat) (st : St) : St := (acI t x st.1 st.2, st.2)
def exS (t : List UInt8) (x : Nat) (st : St) : St := (acI t x st.1 st.2, exBad t x st.1 st.2)
def naS (t : List UInt8) (st : St) : St := (naI t st.1 st.2, naBad t st.1 st.2)
def veS (t : List UInt8) (st : St) : St := (veI t st.1 st.2, veBad t st.1 st.2)
def siS (t : List UInt8) (st : St) : St := (siI t st.1 st.2, st.2)

def mkV (t : List UInt8) (st : St) : Nat :=
  if acB t 43 st.1 st.2 then (if acB t 33 (acS t 43 st).1 st.2 then 2 else if acB t 94 (acS t 33 (acS t 43 st)).1 st.2 then 3 else 1) else 0
def mkS (t : List UInt8) (st : St) : St :=
  if acB t 43 st.1 st.2 then (if acB t 33 (acS t 43 st).1 st.2 then acS t 33 (acS t 43 st) else acS t 94 (acS t 33 (acS t 43 st))) else acS t 43 st

/-- A constraint: its name, its sign (0: none), its version. -/
structure Cn where
  n : Nat
  s : Nat
  v : Nat
def cnV (t : List UInt8) (st : St) : Cn :=
  { n := naV t st.1 st.2, s := siV t (naS t st).1 (naS t st).2, v := if siV t (naS t st).1 (naS t st).2 == 0 then 0 else veV t (siS t (naS t st)).1 (siS t (naS t st)).2 }
def cnS (t : List UInt8) (st : St) : St :=
  if siV t (naS t st).1 (naS t st).2 == 0 then siS t (naS t st) else veS t (siS t (naS t st))

def apF (t : List UInt8) (x : Nat) : Nat → St → List Cn × St
  | 0, st => ([], st)
  | f + 1, st =>
    if acB t x (cnS t st).1 (cnS t st).2 then (cnV t st :: (apF t x f (acS t x (cnS t st))).1, (apF t x f (acS t x (cnS t st))).2)
    else ([cnV t st], acS t x (cnS t st))
def apT (t : List UInt8) (x : Nat) (st : St) : List Cn × St := apF t x (t.length + 2) st
theorem apF_yes {t : List UInt8} {x f : Nat} {st : St} (h : acB t x (cnS t st).1 (cnS t st).2 = true) : apF t x (f + 1) st = (cnV t st :: (apF t x f (acS t x (cnS t st))).1, (apF t x f (acS t x (cnS t st))).2) := by rw [apF, if_pos h]
theorem apF_no {t : List UInt8} {x f : Nat} {st : St} (h : acB t x (cnS t st).1 (cnS t st).2 = false) : apF t x (f + 1) st = ([cnV t st], acS t x (cnS t st)) := by rw [apF, if_neg (by simp [h])]
def csF (t : List UInt8) (st : St) : List Cn × St := if naB t st.1 st.2 then apT t 44 st else ([], st)

def ndF (t : List UInt8) : Nat → Bool → St → List (List Cn) × St
  | 0, _, st => ([], st)
  | f + 1, more, st =>
    if more then
      let a := apT t 124 st
      let r := ndF t f (acB t 44 a.2.1 a.2.2) (acS t 44 a.2)
      (a.1 :: r.1, r.2)
    else ([], st)
def neF (t : List UInt8) (st : St) : List (List Cn) × St := ndF t (t.length + 2) (naB t st.1 st.2) st

def nsF (t : List UInt8) : Nat → Bool → St → List Nat × St
  | 0, _, st => ([], st)
  | f + 1, more, st =>
    if more then
      let r := nsF t f (acB t 44 (naS t st).1 (naS t st).2) (acS t 44 (naS t st))
      (naV t st.1 st.2 :: r.1, r.2)
    else ([], st)
def nmsF (t : List UInt8) (st : St) : List Nat × St := nsF t (t.length + 2) (naB t st.1 st.2) st

structure Pk where
  n : Nat
  v : Nat
  m : Nat
  needs : List (List Cn)
  conf : List Cn
  prov : List Nat
def p1 (t : List UInt8) (st : St) : St := veS t (naS t st)
def p2 (t : List UInt8) (st : St) : St := exS t 58 (mkS t (p1 t st))
def p3 (t : List UInt8) (st : St) : St := exS t 58 (neF t (p2 t st)).2
def p4 (t : List UInt8) (st : St) : St := exS t 58 (csF t (p3 t st)).2
def p5 (t : List UInt8) (st : St) : St := exS t 59 (nmsF t (p4 t st)).2
def pkV (t : List UInt8) (st : St) : Pk :=
  { n := naV t st.1 st.2, v := veV t (naS t st).1 (naS t st).2, m := mkV t (p1 t st), needs := (neF t (p2 t st)).1, conf := (csF t (p3 t st)).1, prov := (nmsF t (p4 t st)).1 }

def pksF (t : List UInt8) : Nat → St → List Pk × St
  | 0, st => ([], st)
  | f + 1, st => if naB t st.1 st.2 then (pkV t st :: (pksF t f (p5 t st)).1, (pksF t f (p5 t st)).2) else ([], st)

structure Dc where
  packs : List Pk
  ins : List Cn
  rem : List Cn
  upg : List Cn
def d0 (t : List UInt8) : List Pk × St := pksF t (t.length + 2) (0, false)
def d1 (t : List UInt8) : St := exS t 47 (d0 t).2
def d2 (t : List UInt8) : St := exS t 47 (csF t (d1 t)).2
def d3 (t : List UInt8) : St := exS t 47 (csF t (d2 t)).2
def dcV (t : List UInt8) : Dc := { packs := (d0 t).1, ins := (csF t (d1 t)).1, rem := (csF t (d2 t)).1, upg := (csF t (d3 t)).1 }
def dcI (t : List UInt8) : Nat := (csF t (d3 t)).2.1
def dcBad (t : List UInt8) : Bool := if dcI t < t.length then true else (csF t (d3 t)).2.2

/-- A method that fills a struct of its own: block H: its result's; block H + 1: the struct's; the reader's block; all else is as it was. -/
structure Fr (B : Nat) (w wr : World) (T : TypeId) (res cur : Array Value) (s : ByteArray) (st : St) : Prop where
  b1 : wr.heap[w.heap.size]? = some (.cells res T (0, 0))
  b2 : wr.heap[w.heap.size + 1]? = some (.cells cur T (0, 0))
  rd : Rd B wr s st.1 st.2
  kp : Kp B w wr
  lt : B < w.heap.size
theorem Fr.start {B : Nat} {w : World} {s : ByteArray} {st : St} (h : Rd B w s st.1 st.2) (T : TypeId) (z : Array Value) : Fr B w ((w.alloc (.cells z T)).alloc (.cells z T)) T z z s st :=
  ⟨blk_old (blk_new _ _) _, by have := blk_new (w.alloc (.cells z T)) (.cells z T); rwa [World.size_alloc] at this, (h.alloc _).alloc _, ((Kp.refl _ _).alloc _).alloc _, h.lt⟩
theorem Fr.call {B : Nat} {w wr w1 : World} {T : TypeId} {res cur : Array Value} {s : ByteArray} {st st' : St} (h : Fr B w wr T res cur s st) (hr : Rd B w1 s st'.1 st'.2) (hk : Kp B wr w1) : Fr B w w1 T res cur s st' :=
  ⟨hk.blk h.b1 (by have := h.lt; omega), hk.blk h.b2 (by have := h.lt; omega), hr, h.kp.trans hk, h.lt⟩
theorem Fr.store {B : Nat} {w wr : World} {T : TypeId} {res cur : Array Value} {s : ByteArray} {st : St} (h : Fr B w wr T res cur s st) (k : Nat) (v : Value) : Fr B w (wr.setCell ⟨w.heap.size + 1, k, none⟩ v) T res (cur.setIfInBounds k v) s st :=
  ⟨blk_set h.b1 (by simp) v, setAt h.b2 k v, h.rd.setNew (by have := h.lt; simp; omega) v, h.kp.setNew (by simp) v, h.lt⟩
theorem Fr.c {B : Nat} {w wr : World} {T : TypeId} {res cur : Array Value} {s : ByteArray} {st : St} (h : Fr B w wr T res cur s st) (k : Nat) {x : Value} (hx : cur[k]? = some x) : wr.cell? ⟨w.heap.size + 1, k, none⟩ = some x := (cellAt h.b2 k).trans hx
theorem Fr.f {B : Nat} {w wr : World} {T : TypeId} {res cur : Array Value} {s : ByteArray} {st : St} (h : Fr B w wr T res cur s st) (k : Nat) : wr.frozen? ⟨w.heap.size + 1, k, none⟩ = false := freeAt h.b2 k
theorem Fr.c' {B : Nat} {w wr : World} {T : TypeId} {res cur : Array Value} {s : ByteArray} {st : St} (h : Fr B w wr T res cur s st) (k : Nat) {x : Value} (hx : res[k]? = some x) : wr.cell? ⟨w.heap.size, k, none⟩ = some x := (cellAt h.b1 k).trans hx
theorem Fr.f' {B : Nat} {w wr : World} {T : TypeId} {res cur : Array Value} {s : ByteArray} {st : St} (h : Fr B w wr T res cur s st) (k : Nat) : wr.frozen? ⟨w.heap.size, k, none⟩ = false := freeAt h.b1 k

/-- A row of the call's own behind a method of the reader. -/
theorem own_kp {B base : Nat} {w w' : World} {e : TypeId} {size : Nat} {v : Value} {n : Nat} {xs : List Value} (h : w.ownsRow base e size v n xs) (hk : Kp B w w') (hB : B < base) : w'.ownsRow base e size v n xs := by
  refine h.kept hk ?_
  rcases hv : v.ownBlock with _ | k
  · exact Or.inl rfl
  · refine Or.inr ?_
    have := (h.lt k hv).1
    intro e
    injection e with e
    omega
theorem own_set {base : Nat} {w : World} {e : TypeId} {size : Nat} {v : Value} {n : Nat} {xs : List Value} (h : w.ownsRow base e size v n xs) {p : Addr} (hp : v.ownBlock ≠ some p.block) (u : Value) : (w.setCell p u).ownsRow base e size v n xs := by
  refine h.kept (row := some p.block) ⟨rfl, rfl, rfl, by simp, fun k _ hn => Below.heap_setCell _ _ _ _ (by intro e; apply hn; rw [e])⟩ ?_
  exact Or.inr hp
theorem cell_new (w : World) (xs : List Value) (t : TypeId) : ∀ j u, xs[j]? = some u → (w.alloc (.cells xs.toArray t)).cell? ((⟨w.heap.size, 0, none⟩ : Addr).add j) = some u := by
  intro j u hu
  rw [Addr.add_lit, cellAt (blk_new _ _)]
  simpa using hu

def cnCells (c : Cn) : List Value := [.int .u8 c.n, .int .u8 c.s, .int .u8 c.v]
def cnFlat (l : List Cn) : List Value := l.flatMap cnCells
theorem cnFlat_snoc (l : List Cn) (c : Cn) : cnFlat (l ++ [c]) = cnFlat l ++ cnCells c := by simp [cnFlat]

/-- The places go on. -/
theorem acI_ge (t : List UInt8) (x i : Nat) (bad : Bool) : i ≤ acI t x i bad := by unfold acI; split <;> omega
theorem naI_ge (t : List UInt8) (i : Nat) (bad : Bool) : i ≤ naI t i bad := by unfold naI; split <;> omega
theorem veI_ge (t : List UInt8) (i : Nat) (bad : Bool) : i ≤ veI t i bad := by unfold veI; split <;> omega
theorem siI_ge (t : List UInt8) (i : Nat) (bad : Bool) : i ≤ siI t i bad := by unfold siI; split <;> omega
theorem cnS_ge (t : List UInt8) (st : St) : st.1 ≤ (cnS t st).1 := by
  have l1 := naI_ge t st.1 st.2
  have l2 := siI_ge t (naI t st.1 st.2) (naBad t st.1 st.2)
  have l3 := veI_ge t (siI t (naI t st.1 st.2) (naBad t st.1 st.2)) (naBad t st.1 st.2)
  unfold cnS
  split
  · exact Nat.le_trans l1 l2
  · exact Nat.le_trans (Nat.le_trans l1 l2) l3
theorem acI_yes {t : List UInt8} {x i : Nat} {bad : Bool} (h : acB t x i bad = true) : acI t x i bad = i + 1 := by unfold acI; rw [if_pos h]
theorem acI_no {t : List UInt8} {x i : Nat} {bad : Bool} (h : acB t x i bad = false) : acI t x i bad = i := by unfold acI; rw [if_neg (by simp [h])]

end Go.Proofs.YtdfnnpakdbhhpaaGreatDoor
