/-
  Plain functions of the document's answer and of the reader, on bytes as integers. Nothing of the dump.
-/
import Derived.WalkKit
import Derived.WalkSpells
import Derived.WalkLawsBesides
namespace Go.Proofs.YtdfnnpakdbhhpaaGreatDoor

theorem ret_int {k : IntKind} {a b : Int} (h : a = b) : Ending.returned (.int k a) = .returned (.int k b) := by rw [h]
theorem ret_bool {a b : Bool} (h : a = b) : Ending.returned (.bool a) = .returned (.bool b) := by rw [h]

/-- The bytes that may stand there. -/
def nmB (c : Int) : Bool := decide (97 ≤ c) && decide (c ≤ 122)
def vrB (c : Int) : Bool := decide (49 ≤ c) && decide (c ≤ 57)
def sgB (c : Int) : Bool := c == 61 || (c == 60 || c == 62)

def headF (q c : Int) : Int :=
  if q == 0 && nmB c then 1
  else if q == 0 && c == 47 then 18
  else if q == 1 && vrB c then 2
  else if q == 2 && c == 43 then 3
  else if q == 3 && (c == 33 || c == 94) then 4
  else if (q == 2 || (q == 3 || q == 4)) && c == 58 then 5
  else -1

def needF (q c : Int) : Int :=
  if (q == 5 || q == 6) && nmB c then 7
  else if q == 7 && sgB c then 8
  else if q == 8 && vrB c then 9
  else if (q == 7 || q == 9) && (c == 44 || c == 124) then 6
  else if (q == 5 || (q == 7 || q == 9)) && c == 58 then 13
  else if (q == 10 || q == 11) && nmB c then 12
  else if q == 12 && c == 44 then 11
  else if (q == 10 || q == 12) && c == 59 then 0
  else -1

def listF (k q c : Int) : Int :=
  if (q == 0 || q == 1) && nmB c then 13 + 5 * k + 2
  else if q == 2 && sgB c then 13 + 5 * k + 3
  else if q == 3 && vrB c then 13 + 5 * k + 4
  else if (q == 2 || q == 4) && c == 44 then 13 + 5 * k + 1
  else if q == 1 || q == 3 then -1
  else if k == 0 && c == 58 then 10
  else if (k == 1 || k == 2) && c == 47 then 13 + 5 * k + 5
  else -1

def stepF (q c : Int) : Int :=
  if q < 5 then headF q c
  else if q < 13 then needF q c
  else listF ((q - 13) / 5) ((q - 13) % 5) c

/-- The place of the first byte that cannot stand there, from state q at place i on; -1: none. -/
def plF : Int → List UInt8 → Nat → Int
  | q, [], i => if q == 28 || (q == 30 || q == 32) then -1 else i
  | q, c :: l, i => if stepF q c.toNat == -1 then i else plF (stepF q c.toNat) l (i + 1)

theorem headF_rng (q c : Int) : headF q c = -1 ∨ (0 ≤ headF q c ∧ headF q c ≤ 32) := by unfold headF; repeat' split <;> omega
theorem needF_rng (q c : Int) : needF q c = -1 ∨ (0 ≤ needF q c ∧ needF q c ≤ 32) := by unfold needF; repeat' split <;> omega
theorem listF_rng (k q c : Int) (h0 : 0 ≤ k) (h1 : k ≤ 3) : listF k q c = -1 ∨ (0 ≤ listF k q c ∧ listF k q c ≤ 32) := by
  unfold listF
  simp only [Bool.and_eq_true, Bool.or_eq_true, beq_iff_eq]
  repeat' split <;> omega
theorem stepF_rng (q c : Int) (h0 : 0 ≤ q) (h1 : q ≤ 32) : stepF q c = -1 ∨ (0 ≤ stepF q c ∧ stepF q c ≤ 32) := by
  unfold stepF
  split
  · exact headF_rng q c
  · split
    · exact needF_rng q c
    · exact listF_rng _ _ _ (by omega) (by omega)

theorem drop_cons (s : ByteArray) (k : Nat) (h : k < s.size) : s.data.toList.drop k = s[k] :: s.data.toList.drop (k + 1) := by
  rw [List.drop_eq_getElem_cons (by simpa using h)]; rfl

end Go.Proofs.YtdfnnpakdbhhpaaGreatDoor
