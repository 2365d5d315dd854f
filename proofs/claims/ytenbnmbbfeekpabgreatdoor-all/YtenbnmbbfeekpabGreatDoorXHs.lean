import Derived.Test.YtenbnmbbfeekpabGreatDoorXG
import Derived.Test.YtenbnmbbfeekpabGreatDoorXH
import Derived.Test.YtenbnmbbfeekpabGreatDoorXE

/-
  The two ways of writing a document in its usual form are one: plain mathematics.
-/
namespace Go.Proofs.YtenbnmbbfeekpabGreatDoor

theorem less_self : ∀ (a : List UInt8), Op.bytesLess a a = false
  | [] => rfl
  | x :: a => by simp [Op.bytesLess, less_self a]
theorem less_two {a b a' b' : UInt8} (h : ¬ (a = a' ∧ b = b')) (x y x' y' : List UInt8) : Op.bytesLess (a :: b :: x) (a' :: b' :: y) = Op.bytesLess (a :: b :: x') (a' :: b' :: y') := by
  simp only [Op.bytesLess]
  by_cases h1 : a = a'
  · have h2 : b ≠ b' := fun e => h ⟨h1, e⟩
    have h3 : (b == b') = false := by simpa using h2
    simp [h3]
  · have h3 : (a == a') = false := by simpa using h1
    simp [h3]

theorem pkS0_form (p : Pk) : ∃ r, pkS0 p = b8 p.n :: b8 p.v :: r ∧ pkS p = b8 p.n :: b8 p.v :: (r ++ [59]) :=
  ⟨mkT p.m ++ [58] ++ ordT [44] (p.needs.map ndS) ++ [58] ++ ordT [44] (p.conf.map cnT) ++ [58] ++ ordT [44] (p.prov.map fun c => [b8 c]), by simp [pkS0], by simp [pkS, pkS0]⟩

theorem pk_same {ps : List Pk} (hok : ∀ p ∈ ps, PkOk p) (h : ¬ ftT ps < ps.length) : Same ps pkS pkS0 := by
  have key : ∀ p ∈ ps, ∀ q ∈ ps, p = q ∨ ¬ (b8 p.n = b8 q.n ∧ b8 p.v = b8 q.v) := by
    intro p hp q hq
    by_cases e : b8 p.n = b8 q.n ∧ b8 p.v = b8 q.v
    · left
      have a1 := nm_rng (hok p hp).n
      have a2 := nm_rng (hok q hq).n
      have a3 := vr_rng (hok p hp).v
      have a4 := vr_rng (hok q hq).v
      have e1 := congrArg UInt8.toNat e.1
      have e2 := congrArg UInt8.toNat e.2
      rw [b8_val (by omega), b8_val (by omega)] at e1 e2
      exact ft_apart h hp hq e1 e2
    · exact Or.inr e
  refine ⟨fun p hp q hq => ?_, fun p hp q hq => ?_, fun p _ => ?_, fun p _ => ?_⟩
  · rcases key p hp q hq with rfl | hn
    · rw [less_self, less_self]
    · obtain ⟨r, e1, e2⟩ := pkS0_form p
      obtain ⟨r', e3, e4⟩ := pkS0_form q
      rw [e1, e2, e3, e4]
      exact less_two hn _ _ _ _
  · rcases key p hp q hq with rfl | hn
    · simp
    · obtain ⟨r, e1, e2⟩ := pkS0_form p
      obtain ⟨r', e3, e4⟩ := pkS0_form q
      rw [e1, e2, e3, e4]
      have f1 : (b8 p.n :: b8 p.v :: (r ++ [59]) == b8 q.n :: b8 q.v :: (r' ++ [59])) = false := by
        rw [beq_eq_false_iff_ne]; intro e; injection e with e1 e; injection e with e2 _; exact hn ⟨e1, e2⟩
      have f2 : (b8 p.n :: b8 p.v :: r == b8 q.n :: b8 q.v :: r') = false := by
        rw [beq_eq_false_iff_ne]; intro e; injection e with e1 e; injection e with e2 _; exact hn ⟨e1, e2⟩
      rw [f1, f2]
  · obtain ⟨r, e1, e2⟩ := pkS0_form p; rw [e2]; rfl
  · obtain ⟨r, e1, e2⟩ := pkS0_form p; rw [e1]; rfl

theorem show_same (t : List UInt8) : shT t = rshT t := by
  unfold shT rshT
  by_cases h : rdE t = 0
  · rw [if_pos h, if_pos h]
    obtain ⟨_, hok, _, _, hft⟩ := rd_ok h
    unfold dcS rdcS
    cases hp : (dcV t).packs with
    | nil => rfl
    | cons p ps =>
      have hne : (dcV t).packs ≠ [] := by rw [hp]; simp
      have := ord_first (pk_same hok.packs hft) [59] (fun p _ => rfl) hne
      rw [hp] at this
      rw [this]
      rfl
  · rw [if_neg h, if_neg h]

end Go.Proofs.YtenbnmbbfeekpabGreatDoor

namespace Go.Proofs.YtenbnmbbfeekpabGreatDoor
open Go.RowKit

set_option maxHeartbeats 800000 in
theorem law_texts2 (n : Int) (S T U : ByteArray) (w : World) (hS : S.size ≤ maxLen) : Calls Tryz.prog 31 #[.agg #[.int .i64 2, .int .i64 n, .string S, .string T, .string U]] w fun e w' => e = .returned (.bool true) ∧ Below w.heap.size w w' := by
  go_enter Tryz.func31, Tryz.ntmps31
  go_wp2_with fail
  refine (up_Show S _ hS).mono ?_
  rintro e w1 ⟨rfl, hb1⟩
  rw [show_same]
  have hb : Below w.heap.size w w1 := ((Below.refl _ _).alloc (Nat.le_refl _) _).trans (hb1.mono (by simp))
  have hbx := blk_below hb1 (blk_new w (.cells #[.int .i64 2, .int .i64 n, .string S, .string T, .string U] 39)) (by simp)
  have c2 := cellAt hbx 2
  simp at c2
  have HB : Hid (Below w.heap.size w w1) := hb
  clear hb hb1 hbx
  go_wp2_with fail
  refine (ref_Show S _ hS).mono ?_
  rintro e w2 ⟨rfl, hb2⟩
  have HB2 : Hid (Below w.heap.size w w2) := HB.out.trans (hb2.mono HB.out.size)
  clear hb2 HB c2
  go_wp2_with (go_at_call 33; refine (law_num _ _).mono ?_; rintro e w' ⟨rfl, rfl⟩)
  all_goals go_ret
  all_goals exact ⟨ret_bool (by simp), HB2.out⟩

set_option maxHeartbeats 800000 in
theorem law_plays2 (n : Int) (S T U : ByteArray) (w : World) (hS : S.size ≤ maxLen) : Calls Tryz.prog 15 #[.agg #[.int .i64 2, .int .i64 n, .string S, .string T, .string U]] w fun e w' => e = .returned (.bool true) ∧ Below w.heap.size w w' := by
  go_enter Tryz.func15, Tryz.ntmps15
  go_wp2_with fail
  refine (law_texts2 n S T U _ hS).mono ?_
  rintro e w1 ⟨rfl, hb1⟩
  have HB : Hid (Below w.heap.size w w1) := ((Below.refl _ _).alloc (Nat.le_refl _) _).trans (hb1.mono (by simp))
  clear hb1
  go_wp2
  go_ret
  exact ⟨rfl, HB.out⟩

/-- The document's own example of Show. -/
def headT : List UInt8 := [98, 50, 43, 58, 97, 60, 50, 124, 97, 124, 97, 44, 97, 58, 99, 44, 98, 58, 59, 97, 49, 58, 58, 58, 59, 47, 47, 98, 44, 97, 44, 98, 47]
def headU : List UInt8 := [97, 49, 58, 58, 58, 59, 98, 50, 43, 58, 97, 44, 97, 124, 97, 60, 50, 58, 98, 44, 99, 58, 59, 47, 47, 97, 44, 98, 47]
theorem head2E : rdE headT = 0 := by decide +kernel
theorem head2S : shT headT = headU := by decide +kernel

set_option maxHeartbeats 800000 in
theorem law_heads2 (w : World) : Calls Tryz.prog 13 #[.int .i64 2] w fun e w' => e = .returned (.bool true) ∧ Below w.heap.size w w' := by
  go_enter Tryz.func13, Tryz.ntmps13
  go_wp2_with fail
  refine (up_Show (bs headT) _ (by unfold maxLen; decide)).mono ?_
  rintro e w1 ⟨rfl, hb1⟩
  rw [bs_list, head2E, head2S]
  have he : ((bs headU).toList == [97, 49, 58, 58, 58, 59, 98, 50, 43, 58, 97, 44, 97, 124, 97, 60, 50, 58, 98, 44, 99, 58, 59, 47, 47, 97, 44, 98, 47]) = true := by rw [tl]; decide
  go_wp2
  go_ret
  exact ⟨rfl, hb1⟩

end Go.Proofs.YtenbnmbbfeekpabGreatDoor
