/-
  Packages in memory; the places go on. Nothing of the dump but the types' numbers.
-/
import Derived.Test.YtdfnnpakdbhhpaaGreatDoorRepM
namespace Go.Proofs.YtdfnnpakdbhhpaaGreatDoor
open Go.RowKit

theorem PkAt.kp {B : Nat} {w w' : World} {p : Pk} {vn vc vp : Value} (h : PkAt B w p vn vc vp) (hk : Kp B w w') : PkAt B w' p vn vc vp := ⟨h.1.kp hk, h.2.1.kp hk, h.2.2.kp hk⟩
theorem PkAt.alloc {B : Nat} {w : World} {p : Pk} {vn vc vp : Value} (h : PkAt B w p vn vc vp) (o : Obj) : PkAt B (w.alloc o) p vn vc vp := ⟨h.1.alloc o, h.2.1.alloc o, h.2.2.alloc o⟩
theorem PkAt.other {B : Nat} {w w' : World} {p : Pk} {vn vc vp : Value} (h : PkAt B w p vn vc vp) {b : Nat} {sz : Nat} {o : Value} {n : Nat} {xs : List Value} (ho : w.ownsRow b 88 sz o n xs) (hg : w.grownBy w' o.ownBlock) : PkAt B w' p vn vc vp :=
  ⟨h.1.other ho (by decide) (by decide) hg, h.2.1.other ho (by decide) hg, h.2.2.other ho (by decide) hg⟩
theorem PkAt.setT {B : Nat} {w : World} {p : Pk} {vn vc vp : Value} (h : PkAt B w p vn vc vp) {k : Nat} {cur : Array Value} {T : TypeId} {m : Nat × Nat} (hk : w.heap[k]? = some (.cells cur T m)) (h1 : 121 ≠ T) (h2 : 124 ≠ T) (h3 : 5 ≠ T) (o : Nat) (u : Value) : PkAt B (w.setCell ⟨k, o, none⟩ u) p vn vc vp :=
  ⟨h.1.setT hk h1 h2 o u, h.2.1.setT hk h1 o u, h.2.2.setT hk h3 o u⟩
def PkC (B : Nat) (w : World) (cells : List Value) (p : Pk) : Prop := ∃ vn vc vp, cells = pkCells p vn vc vp ∧ PkAt B w p vn vc vp
def PksAt (B : Nat) (w : World) (v : Value) (l : List Pk) : Prop := ∃ css : List (List Value), w.ownsRow (B + 1) 88 6 v l.length css.flatten ∧ All2 (PkC B w) css l
theorem PkC.kp {B : Nat} {w w' : World} {c : List Value} {p : Pk} (h : PkC B w c p) (hk : Kp B w w') : PkC B w' c p := by obtain ⟨a, b, d, e, f⟩ := h; exact ⟨a, b, d, e, f.kp hk⟩
theorem PkC.alloc {B : Nat} {w : World} {c : List Value} {p : Pk} (h : PkC B w c p) (o : Obj) : PkC B (w.alloc o) c p := by obtain ⟨a, b, d, e, f⟩ := h; exact ⟨a, b, d, e, f.alloc o⟩
theorem PkC.other {B : Nat} {w w' : World} {c : List Value} {p : Pk} (h : PkC B w c p) {b : Nat} {sz : Nat} {o : Value} {n : Nat} {xs : List Value} (ho : w.ownsRow b 88 sz o n xs) (hg : w.grownBy w' o.ownBlock) : PkC B w' c p := by obtain ⟨a, b, d, e, f⟩ := h; exact ⟨a, b, d, e, f.other ho hg⟩
theorem PkC.setT {B : Nat} {w : World} {c : List Value} {p : Pk} (h : PkC B w c p) {k : Nat} {cur : Array Value} {T : TypeId} {m : Nat × Nat} (hk : w.heap[k]? = some (.cells cur T m)) (h1 : 121 ≠ T) (h2 : 124 ≠ T) (h3 : 5 ≠ T) (o : Nat) (u : Value) : PkC B (w.setCell ⟨k, o, none⟩ u) c p := by obtain ⟨a, b, d, e, f⟩ := h; exact ⟨a, b, d, e, f.setT hk h1 h2 h3 o u⟩
theorem PksAt.kp {B : Nat} {w w' : World} {v : Value} {l : List Pk} (h : PksAt B w v l) (hk : Kp B w w') : PksAt B w' v l := by
  obtain ⟨css, h1, h2⟩ := h
  exact ⟨css, own_kp h1 hk (by omega), h2.mono fun _ _ h => h.kp hk⟩
theorem PksAt.alloc {B : Nat} {w : World} {v : Value} {l : List Pk} (h : PksAt B w v l) (o : Obj) : PksAt B (w.alloc o) v l := by
  obtain ⟨css, h1, h2⟩ := h
  exact ⟨css, h1.alloc o, h2.mono fun _ _ h => h.alloc o⟩
theorem PksAt.setT {B : Nat} {w : World} {v : Value} {l : List Pk} (h : PksAt B w v l) {k : Nat} {cur : Array Value} {T : TypeId} {m : Nat × Nat} (hk : w.heap[k]? = some (.cells cur T m)) (h0 : 88 ≠ T) (h1 : 121 ≠ T) (h2 : 124 ≠ T) (h3 : 5 ≠ T) (o : Nat) (u : Value) : PksAt B (w.setCell ⟨k, o, none⟩ u) v l := by
  obtain ⟨css, h4, h5⟩ := h
  exact ⟨css, own_setT h4 hk h0 o u, h5.mono fun _ _ h => h.setT hk h1 h2 h3 o u⟩

theorem Fr.alloc {B : Nat} {w wr : World} {T : TypeId} {res cur : Array Value} {s : ByteArray} {st : St} (h : Fr B w wr T res cur s st) (o : Obj) : Fr B w (wr.alloc o) T res cur s st :=
  ⟨blk_old h.b1 o, blk_old h.b2 o, h.rd.alloc o, h.kp.alloc o, h.lt⟩
theorem Fr.grown {B : Nat} {w wr w' : World} {T : TypeId} {res cur : Array Value} {s : ByteArray} {st : St} {row : Option Nat} (h : Fr B w wr T res cur s st) (hg : wr.grownBy w' row) (hr : ∀ k, row = some k → w.heap.size + 2 ≤ k) : Fr B w w' T res cur s st := by
  have hlt := h.lt
  refine ⟨(hg.block _ (ltAt h.b1) (fun e => ?_)).trans h.b1, (hg.block _ (ltAt h.b2) (fun e => ?_)).trans h.b2, h.rd.grown hg (fun e => ?_), h.kp.grown hg (fun k hk => ?_), hlt⟩
  · have := hr _ e.symm; omega
  · have := hr _ e.symm; omega
  · have := hr _ e; omega
  · have := hr _ hk; omega

theorem exS_ge (t : List UInt8) (x : Nat) (st : St) : st.1 ≤ (exS t x st).1 := acI_ge t x st.1 st.2
theorem acS_ge (t : List UInt8) (x : Nat) (st : St) : st.1 ≤ (acS t x st).1 := acI_ge t x st.1 st.2
theorem mkS_ge (t : List UInt8) (st : St) : st.1 ≤ (mkS t st).1 := by
  have l1 := acS_ge t 43 st
  have l2 := acS_ge t 33 (acS t 43 st)
  have l3 := acS_ge t 94 (acS t 33 (acS t 43 st))
  unfold mkS
  split
  · split <;> omega
  · omega
theorem csF_ge (t : List UInt8) (st : St) : st.1 ≤ (csF t st).2.1 := by
  unfold csF
  split
  · exact apT_ge t 44 st
  · exact Nat.le_refl _
theorem ndF_ge (t : List UInt8) : ∀ (f : Nat) (b : Bool) (st : St), st.1 ≤ (ndF t f b st).2.1
  | f, false, st => by rw [ndF_no]; exact Nat.le_refl _
  | 0, true, st => Nat.le_refl _
  | f + 1, true, st => by
    rw [ndF_yes]
    have h1 := apT_ge t 124 st
    have h2 := acS_ge t 44 (apT t 124 st).2
    have h3 := ndF_ge t f (acB t 44 (apT t 124 st).2.1 (apT t 124 st).2.2) (acS t 44 (apT t 124 st).2)
    exact Nat.le_trans h1 (Nat.le_trans h2 h3)
theorem nsF_ge (t : List UInt8) : ∀ (f : Nat) (b : Bool) (st : St), st.1 ≤ (nsF t f b st).2.1
  | f, false, st => by rw [nsF_no]; exact Nat.le_refl _
  | 0, true, st => Nat.le_refl _
  | f + 1, true, st => by
    rw [nsF_yes]
    have h1 : st.1 ≤ (naS t st).1 := naI_ge t st.1 st.2
    have h2 := acS_ge t 44 (naS t st)
    have h3 := nsF_ge t f (acB t 44 (naS t st).1 (naS t st).2) (acS t 44 (naS t st))
    exact Nat.le_trans h1 (Nat.le_trans h2 h3)
theorem p5_ge (t : List UInt8) (st : St) (h : naB t st.1 st.2 = true) : st.1 + 1 ≤ (p5 t st).1 := by
  have h0 : (naS t st).1 = st.1 + 1 := by unfold naS naI; simp [h]
  have h1 : (naS t st).1 ≤ (p1 t st).1 := veI_ge t _ _
  have h2 : (p1 t st).1 ≤ (p2 t st).1 := Nat.le_trans (mkS_ge t (p1 t st)) (exS_ge t 58 (mkS t (p1 t st)))
  have h3 : (p2 t st).1 ≤ (p3 t st).1 := Nat.le_trans (ndF_ge t _ _ (p2 t st)) (exS_ge t 58 (neF t (p2 t st)).2)
  have h4 : (p3 t st).1 ≤ (p4 t st).1 := Nat.le_trans (csF_ge t (p3 t st)) (exS_ge t 58 (csF t (p3 t st)).2)
  have h5 : (p4 t st).1 ≤ (p5 t st).1 := Nat.le_trans (nsF_ge t _ _ (p4 t st)) (exS_ge t 59 (nmsF t (p4 t st)).2)
  omega
theorem pksF_yes {t : List UInt8} {f : Nat} {st : St} (h : naB t st.1 st.2 = true) : pksF t (f + 1) st = (pkV t st :: (pksF t f (p5 t st)).1, (pksF t f (p5 t st)).2) := by rw [pksF, if_pos h]
theorem pksF_no {t : List UInt8} {f : Nat} {st : St} (h : naB t st.1 st.2 = false) : pksF t f st = ([], st) := by
  cases f
  · rfl
  · rw [pksF, if_neg (by simp [h])]

end Go.Proofs.YtdfnnpakdbhhpaaGreatDoor
