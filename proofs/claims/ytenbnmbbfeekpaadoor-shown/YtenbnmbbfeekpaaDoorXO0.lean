import Derived.WalkKit
import Derived.WalkSpells
import Derived.WalkLawsBesides
import Derived.Deep.Draws
import Derived.Test.YtenbnmbbfeekpaaDoorRows

/-
  Plain functions of the document's answer and of the reader, on bytes as integers. Nothing of the dump.
-/
namespace Go.Proofs.YtenbnmbbfeekpaaDoor

theorem ret_int {k : IntKind} {a b : Int} (h : a = b) : Ending.returned (.int k a) = .returned (.int k b) := by rw [h]
theorem ret_bool {a b : Bool} (h : a = b) : Ending.returned (.bool a) = .returned (.bool b) := by rw [h]

/-- The bytes that may stand there. -/
def nmB (c : Int) : Bool := decide (97 ≤ c) && decide (c ≤ 122)
def vrB (c : Int) : Bool := decide (49 ≤ c) && decide (c ≤ 57)
def sgB (c : Int) : Bool := c == 61 || (c == 60 || c == 62)

def headF (q c : Int) : Int :=
  if q == 0 && nmB c then 1
  else if q == 0 && c == 47 then 18
  else if q == 1 && vrB c then 2
  else if q == 2 && c == 43 then 3
  else if q == 3 && (c == 33 || c == 94) then 4
  else if (q == 2 || (q == 3 || q == 4)) && c == 58 then 5
  else -1

def needF (q c : Int) : Int :=
  if (q == 5 || q == 6) && nmB c then 7
  else if q == 7 && sgB c then 8
  else if q == 8 && vrB c then 9
  else if (q == 7 || q == 9) && (c == 44 || c == 124) then 6
  else if (q == 5 || (q == 7 || q == 9)) && c == 58 then 13
  else if (q == 10 || q == 11) && nmB c then 12
  else if q == 12 && c == 44 then 11
  else if (q == 10 || q == 12) && c == 59 then 0
  else -1

def listF (k q c : Int) : Int :=
  if (q == 0 || q == 1) && nmB c then 13 + 5 * k + 2
  else if q == 2 && sgB c then 13 + 5 * k + 3
  else if q == 3 && vrB c then 13 + 5 * k + 4
  else if (q == 2 || q == 4) && c == 44 then 13 + 5 * k + 1
  else if q == 1 || q == 3 then -1
  else if k == 0 && c == 58 then 10
  else if (k == 1 || k == 2) && c == 47 then 13 + 5 * k + 5
  else -1

def stepF (q c : Int) : Int :=
  if q < 5 then headF q c
  else if q < 13 then needF q c
  else listF ((q - 13) / 5) ((q - 13) % 5) c

/-- The place of the first byte that cannot stand there, from state q at place i on; -1: none. -/
def plF : Int → List UInt8 → Nat → Int
  | q, [], i => if q == 28 || (q == 30 || q == 32) then -1 else i
  | q, c :: l, i => if stepF q c.toNat == -1 then i else plF (stepF q c.toNat) l (i + 1)

theorem headF_rng (q c : Int) : headF q c = -1 ∨ (0 ≤ headF q c ∧ headF q c ≤ 32) := by unfold headF; repeat' split <;> omega
theorem needF_rng (q c : Int) : needF q c = -1 ∨ (0 ≤ needF q c ∧ needF q c ≤ 32) := by unfold needF; repeat' split <;> omega
theorem listF_rng (k q c : Int) (h0 : 0 ≤ k) (h1 : k ≤ 3) : listF k q c = -1 ∨ (0 ≤ listF k q c ∧ listF k q c ≤ 32) := by
  unfold listF
  simp only [Bool.and_eq_true, Bool.or_eq_true, beq_iff_eq]
  repeat' split <;> omega
theorem stepF_rng (q c : Int) (h0 : 0 ≤ q) (h1 : q ≤ 32) : stepF q c = -1 ∨ (0 ≤ stepF q c ∧ stepF q c ≤ 32) := by
  unfold stepF
  split
  · exact headF_rng q c
  · split
    · exact needF_rng q c
    · exact listF_rng _ _ _ (by omega) (by omega)

theorem drop_cons (s : ByteArray) (k : Nat) (h : k < s.size) : s.data.toList.drop k = s[k] :: s.data.toList.drop (k + 1) := by
  rw [List.drop_eq_getElem_cons (by simpa using h)]; rfl

end Go.Proofs.YtenbnmbbfeekpaaDoor

/-
  Plain facts on texts as lists of bytes; rows of the heap behind a call's frame. Nothing of the dump.
-/
namespace Go.Proofs.YtenbnmbbfeekpaaDoor
open Go.RowKit

def bs (l : List UInt8) : ByteArray := ⟨l.toArray⟩
def strV (l : List UInt8) : Value := .string (bs l)
theorem bs_toList (s : ByteArray) : bs s.data.toList = s := rfl
theorem bs_list (l : List UInt8) : (bs l).data.toList = l := by simp [bs]
theorem bs_size (l : List UInt8) : (bs l).size = l.length := by simp [bs, ByteArray.size]
theorem bs_inj {a b : List UInt8} (h : bs a = bs b) : a = b := by have := congrArg (fun x : ByteArray => x.data.toList) h; simpa [bs_list] using this
theorem extract_bs (s : ByteArray) (a b : Nat) : s.extract a b = bs ((s.data.toList.take b).drop a) := by
  apply ByteArray.ext
  simp [bs, ByteArray.data_extract, Array.toList_extract, List.drop_take, ← Array.toList_inj]

/-- The pieces between the bytes c; cur: what the piece at hand holds so far. -/
def piecesGo (c : UInt8) : List UInt8 → List UInt8 → List (List UInt8)
  | cur, [] => [cur]
  | cur, x :: l => if x == c then cur :: piecesGo c [] l else piecesGo c (cur ++ [x]) l
def splitL (c : UInt8) (l : List UInt8) : List (List UInt8) := if l.isEmpty then [] else piecesGo c [] l
def piecesL (c : UInt8) (l : List UInt8) : List (List UInt8) := piecesGo c [] l

theorem piecesGo_len (c : UInt8) : ∀ (l cur : List UInt8), (piecesGo c cur l).length ≤ l.length + 1
  | [], _ => by simp [piecesGo]
  | x :: l, cur => by
    unfold piecesGo
    split
    · have := piecesGo_len c l []; simp; omega
    · have := piecesGo_len c l (cur ++ [x]); simp; omega
theorem splitL_len (c : UInt8) (l : List UInt8) : (splitL c l).length ≤ l.length + 1 := by
  unfold splitL; split
  · simp
  · exact piecesGo_len c l []

theorem take_snoc' (l : List UInt8) (f k : Nat) (x : UInt8) (r : List UInt8) (hf : f ≤ k) (h : l.drop k = x :: r) : (l.take (k + 1)).drop f = (l.take k).drop f ++ [x] := by
  have hk : k < l.length := by
    rcases Nat.lt_or_ge k l.length with h1 | h1
    · exact h1
    · rw [List.drop_of_length_le h1] at h; cases h
  have hx : l[k] = x := by rw [List.drop_eq_getElem_cons hk] at h; exact (List.cons.inj h).1
  rw [List.take_succ_eq_append_getElem hk, hx, List.drop_append_of_le_length (by simp; omega)]

def b8 (n : Nat) : UInt8 := UInt8.ofNat n
theorem b8_toNat (c : UInt8) : b8 c.toNat = c := by unfold b8; simp
theorem b8_val {n : Nat} (h : n < 256) : (b8 n).toNat = n := by unfold b8; simp; omega

end Go.Proofs.YtenbnmbbfeekpaaDoor

/-
  Blocks of the heap: the reader's own block, and what a method of it leaves as it was. Nothing of the dump.
-/
namespace Go.Proofs.YtenbnmbbfeekpaaDoor
open Go.RowKit

theorem cellAt {w : World} {b : Nat} {cur : Array Value} {t : TypeId} (h : w.heap[b]? = some (.cells cur t (0, 0))) (o : Nat) : w.cell? ⟨b, o, none⟩ = cur[o]? := by simp [World.cell?, h]
theorem freeAt {w : World} {b : Nat} {cur : Array Value} {t : TypeId} (h : w.heap[b]? = some (.cells cur t (0, 0))) (o : Nat) : w.frozen? ⟨b, o, none⟩ = false := by simp [World.frozen?, h]
theorem ltAt {w : World} {b : Nat} {x : Obj} (h : w.heap[b]? = some x) : b < w.heap.size := by
  rcases Nat.lt_or_ge b w.heap.size with h1 | h1
  · exact h1
  · rw [Array.getElem?_eq_none h1] at h; cases h
theorem setAt {w : World} {b : Nat} {cur : Array Value} {t : TypeId} (h : w.heap[b]? = some (.cells cur t (0, 0))) (o : Nat) (v : Value) : (w.setCell ⟨b, o, none⟩ v).heap[b]? = some (.cells (cur.setIfInBounds o v) t (0, 0)) := by
  simp [World.setCell, Array.getElem?_modify, h]

/-- All blocks but B are as they were. -/
def Kp (B : Nat) (w w' : World) : Prop := w.grownBy w' (some B)
theorem Kp.refl (B : Nat) (w : World) : Kp B w w := ⟨rfl, rfl, rfl, Nat.le_refl _, fun _ _ _ => rfl⟩
theorem Kp.trans {B : Nat} {a b c : World} (h : Kp B a b) (k : Kp B b c) : Kp B a c :=
  ⟨k.os.trans h.os, k.tape.trans h.tape, k.output.trans h.output, Nat.le_trans h.size k.size, fun i hi hn => (k.block i (Nat.lt_of_lt_of_le hi h.size) hn).trans (h.block i hi hn)⟩
theorem Kp.drew {B : Nat} {a w : World} (h : Kp B a w) : Kp B a w.drew := ⟨h.os, h.tape, h.output, h.size, h.block⟩
theorem Kp.drewN {B : Nat} {a w : World} (h : Kp B a w) (n : Nat) : Kp B a (w.drewN n) := ⟨h.os, h.tape, h.output, h.size, h.block⟩
theorem Kp.below {B : Nat} {a w w' : World} (h : Kp B a w) (k : Below w.heap.size w w') : Kp B a w' :=
  h.trans ⟨k.os, k.tape, k.output, k.size, fun i hi _ => k.block i hi⟩
theorem Kp.alloc {B : Nat} {a w : World} (h : Kp B a w) (o : Obj) : Kp B a (w.alloc o) := h.below ((Below.refl _ _).alloc (Nat.le_refl _) o)
theorem Kp.set {B : Nat} {a w : World} (h : Kp B a w) (o : Nat) (v : Value) : Kp B a (w.setCell ⟨B, o, none⟩ v) :=
  h.trans ⟨rfl, rfl, rfl, by simp, fun k _ hn => Below.heap_setCell _ _ _ _ (by intro e; apply hn; rw [e])⟩
theorem Kp.setNew {B : Nat} {a w : World} (h : Kp B a w) {p : Addr} (hp : a.heap.size ≤ p.block) (v : Value) : Kp B a (w.setCell p v) :=
  ⟨h.os, h.tape, h.output, by simpa using h.size, fun k hk hn => (Below.heap_setCell _ _ _ _ (by omega)).trans (h.block k hk hn)⟩
/-- A row of the call's own is written, or a new one laid. -/
theorem Kp.grown {B : Nat} {a w w' : World} {row : Option Nat} (h : Kp B a w) (hg : w.grownBy w' row) (hr : ∀ k, row = some k → a.heap.size ≤ k) : Kp B a w' :=
  ⟨hg.os.trans h.os, hg.tape.trans h.tape, hg.output.trans h.output, Nat.le_trans h.size hg.size, fun i hi hn => (hg.block i (Nat.lt_of_lt_of_le hi h.size) (fun e => by have := hr i e.symm; omega)).trans (h.block i hi hn)⟩

theorem blk_new (w : World) (o : Obj) : (w.alloc o).heap[w.heap.size]? = some o := heap_alloc_new w o
theorem blk_old {w : World} {k : Nat} {x : Obj} (h : w.heap[k]? = some x) (o : Obj) : (w.alloc o).heap[k]? = some x := (Below.heap_alloc w o k (ltAt h)).trans h
theorem Kp.blk {B : Nat} {a w : World} (hk : Kp B a w) {k : Nat} {x : Obj} (h : a.heap[k]? = some x) (hn : k ≠ B) : w.heap[k]? = some x := (hk.block k (ltAt h) (by intro e; apply hn; injection e)).trans h
theorem blk_set {w : World} {k : Nat} {x : Obj} (h : w.heap[k]? = some x) {p : Addr} (hn : k ≠ p.block) (v : Value) : (w.setCell p v).heap[k]? = some x := (Below.heap_setCell _ _ _ _ hn).trans h

end Go.Proofs.YtenbnmbbfeekpaaDoor

namespace Go.Proofs.YtenbnmbbfeekpaaDoor

theorem Tryd.infoStr : (Tryd.prog.info? 9).map (fun i => (i.zero, i.size, i.bytes)) = some (some (.string ByteArray.empty), 1, 16) := by kernel_rfl

end Go.Proofs.YtenbnmbbfeekpaaDoor
