import Derived.Test.YtenbnmbbfeekpabGreatDoorXHs
import Derived.Test.YtenbnmbbfeekpabGreatDoorLawC
import Derived.Test.YtenbnmbbfeekpabGreatDoorLawD
import Derived.Test.YtenbnmbbfeekpabGreatDoorLawE
import Derived.Test.YtenbnmbbfeekpabGreatDoorLawG
namespace Go.Proofs.YtenbnmbbfeekpabGreatDoor
open Go.RowKit

set_option maxHeartbeats 1600000 in
theorem law_plays0 (kk n : Int) (S T U : ByteArray) (w : World) (h : kk < 1 ∨ 6 < kk) : Calls Tryz.prog 15 #[.agg #[.int .i64 kk, .int .i64 n, .string S, .string T, .string U]] w fun e w' => e = .returned (.bool true) ∧ Below w.heap.size w w' := by
  have e1 : (kk == 1) = false := by rw [beq_eq_false_iff_ne]; omega
  have e2 : (kk == 2) = false := by rw [beq_eq_false_iff_ne]; omega
  have e3 : (kk == 3) = false := by rw [beq_eq_false_iff_ne]; omega
  have e4 : (kk == 4) = false := by rw [beq_eq_false_iff_ne]; omega
  have e5 : (kk == 5) = false := by rw [beq_eq_false_iff_ne]; omega
  have e6 : (kk == 6) = false := by rw [beq_eq_false_iff_ne]; omega
  clear h
  go_enter Tryz.func15, Tryz.ntmps15
  go_wp2
  go_ret
  exact ⟨rfl, (Below.refl _ _).alloc (Nat.le_refl _) _⟩

/-- What Solve and Choose tell, as a text. -/
def frT (TS : List UInt8 → List UInt8 → List UInt8) (BS : List UInt8 → List UInt8 → Bool) (TC : List UInt8 → List UInt8 → List UInt8) (kk : Int) (S T U : List UInt8) : List UInt8 :=
  if kk = 5 then (if BS S T then TS S T ++ [33] else TS S T) else if kk = 6 then TC S U else []
theorem frT_len {TS : List UInt8 → List UInt8 → List UInt8} {BS : List UInt8 → List UInt8 → Bool} {TC : List UInt8 → List UInt8 → List UInt8} {E : List UInt8 → List UInt8 → Nat} (hs : SolveP TS BS) (hc : ChooseP TC E) (kk : Int) (S T U : List UInt8) : (frT TS BS TC kk S T U).length ≤ 2000 := by
  unfold frT
  have h1 := hs.len S T
  have h2 := hc.len S U
  split
  · split
    · simp; omega
    · omega
  · split
    · omega
    · simp

set_option maxHeartbeats 3200000 in
set_option maxRecDepth 100000 in
theorem law_free {TS : List UInt8 → List UInt8 → List UInt8} {BS : List UInt8 → List UInt8 → Bool} {TC : List UInt8 → List UInt8 → List UInt8} {E : List UInt8 → List UInt8 → Nat} (hs : SolveP TS BS) (hsc : SolveC TS BS) (hcc : ChooseC TC E) (kk n : Int) (S T U : List UInt8) (w : World) (hS : S.length ≤ maxLen) (hT : T.length ≤ maxLen) (hU : U.length ≤ maxLen) :
    Calls Tryz.prog 14 #[.agg #[.int .i64 kk, .int .i64 n, .string (bs S), .string (bs T), .string (bs U)]] w fun e w' => e = .returned (.string (bs (frT TS BS TC kk S T U))) ∧ Below w.heap.size w w' := by
  have HSC : Hid (SolveC TS BS) := hsc
  have HCC : Hid (ChooseC TC E) := hcc
  have HS : Hid (S.length ≤ maxLen) := hS
  have HT : Hid (T.length ≤ maxLen) := hT
  have HU : Hid (U.length ≤ maxLen) := hU
  have hln := hs.len S T
  clear hsc hcc hS hT hU hs
  by_cases h5 : kk = 5
  · subst h5
    cases hB : BS S T with
    | true =>
      have HF : Hid (bs (TS S T) ++ bs [33] = bs (frT TS BS TC 5 S T U)) := by show _ = _; unfold frT; rw [if_pos rfl, hB, if_pos rfl, kApp]
      have HBB : Hid (BS S T = true) := hB
      have hsz : (bs (TS S T)).size ≤ 256 := by rw [bs_size]; exact hln
      clear hB hln
      go_enter Tryz.func14, Tryz.ntmps14
      go_wp2_with fail
      refine (HSC.out S T _ HS.out HT.out).mono ?_
      rintro e w1 ⟨rfl, hb1⟩
      rw [HBB.out]
      have HB1 : Hid (Below w.heap.size w w1) := ((Below.refl _ _).alloc (Nat.le_refl _) _).trans (hb1.mono (by simp))
      clear hb1
      go_wp2
      go_ret
      exact ⟨kStr HF.out, HB1.out⟩
    | false =>
      have HF : Hid (bs (TS S T) = bs (frT TS BS TC 5 S T U)) := by show _ = _; unfold frT; rw [if_pos rfl, hB]; rfl
      have HBB : Hid (BS S T = false) := hB
      clear hB hln
      go_enter Tryz.func14, Tryz.ntmps14
      go_wp2_with fail
      refine (HSC.out S T _ HS.out HT.out).mono ?_
      rintro e w1 ⟨rfl, hb1⟩
      rw [HBB.out]
      have HB1 : Hid (Below w.heap.size w w1) := ((Below.refl _ _).alloc (Nat.le_refl _) _).trans (hb1.mono (by simp))
      clear hb1
      go_wp2
      go_ret
      exact ⟨kStr HF.out, HB1.out⟩
  · have e5 : (kk == 5) = false := by rw [beq_eq_false_iff_ne]; exact h5
    by_cases h6 : kk = 6
    · subst h6
      have HF : Hid (bs (TC S U) = bs (frT TS BS TC 6 S T U)) := by show _ = _; unfold frT; rw [if_neg (by decide), if_pos rfl]
      clear hln h5
      go_enter Tryz.func14, Tryz.ntmps14
      go_wp2_with fail
      refine (HCC.out S U _ HS.out HU.out).mono ?_
      rintro e w1 ⟨rfl, hb1⟩
      have HB1 : Hid (Below w.heap.size w w1) := ((Below.refl _ _).alloc (Nat.le_refl _) _).trans (hb1.mono (by simp))
      clear hb1
      go_wp2
      go_ret
      exact ⟨kStr HF.out, HB1.out⟩
    · have e6 : (kk == 6) = false := by rw [beq_eq_false_iff_ne]; exact h6
      have HF : Hid (bs [] = bs (frT TS BS TC kk S T U)) := by show _ = _; unfold frT; rw [if_neg h5, if_neg h6]
      clear hln h5 h6
      go_enter Tryz.func14, Tryz.ntmps14
      go_wp2
      go_ret
      exact ⟨kStr HF.out, (Below.refl _ _).alloc (Nat.le_refl _) _⟩

theorem law_playsA {TS : List UInt8 → List UInt8 → List UInt8} {BS : List UInt8 → List UInt8 → Bool} {TC : List UInt8 → List UInt8 → List UInt8} {E : List UInt8 → List UInt8 → Nat} (hs : SolveP TS BS) (hsc : SolveC TS BS) (hc : ChooseP TC E) (hcc : ChooseC TC E) (kk n : Int) (S T U : ByteArray) (w : World) (hS : S.size ≤ maxLen) (hT : T.size ≤ maxLen) (hU : U.size ≤ maxLen) :
    Calls Tryz.prog 15 #[.agg #[.int .i64 kk, .int .i64 n, .string S, .string T, .string U]] w fun e w' => e = .returned (.bool true) ∧ Below w.heap.size w w' := by
  by_cases h : kk < 1 ∨ 6 < kk
  · exact law_plays0 kk n S T U w h
  · rcases (by omega : kk = 1 ∨ kk = 2 ∨ kk = 3 ∨ kk = 4 ∨ kk = 5 ∨ kk = 6) with rfl | rfl | rfl | rfl | rfl | rfl
    · exact law_plays1 n S T U w hS
    · exact law_plays2 n S T U w hS
    · exact law_plays3 n S T U w hS hT
    · exact law_plays4 n S T U w hS hT hU
    · exact law_plays5 hs hsc n S T U w hS hT
    · exact law_plays6 hc hcc n S T U w hS hT hU
theorem law_headsA {TS : List UInt8 → List UInt8 → List UInt8} {BS : List UInt8 → List UInt8 → Bool} {TC : List UInt8 → List UInt8 → List UInt8} {E : List UInt8 → List UInt8 → Nat} (hs : SolveP TS BS) (hsc : SolveC TS BS) (hc : ChooseP TC E) (hcc : ChooseC TC E) (k : Nat) (hk : 1 ≤ k ∧ k ≤ 6) (w : World) :
    Calls Tryz.prog 13 #[.int .i64 (k : Int)] w fun e w' => e = .returned (.bool true) ∧ Below w.heap.size w w' := by
  rcases (by omega : k = 1 ∨ k = 2 ∨ k = 3 ∨ k = 4 ∨ k = 5 ∨ k = 6) with rfl | rfl | rfl | rfl | rfl | rfl
  · exact law_heads1 w
  · exact law_heads2 w
  · exact law_heads3 w
  · exact law_heads4 w
  · exact law_heads5 hs hsc w
  · exact law_heads6 hc hcc w

end Go.Proofs.YtenbnmbbfeekpabGreatDoor
