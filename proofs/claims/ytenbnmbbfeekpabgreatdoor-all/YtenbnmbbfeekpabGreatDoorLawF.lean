import Derived.Test.YtenbnmbbfeekpabGreatDoorXE
import Derived.Test.YtenbnmbbfeekpabGreatDoorXS
import Derived.Test.YtenbnmbbfeekpabGreatDoorXT
import Derived.Deep.RegionHeld3
namespace Go.Proofs.YtenbnmbbfeekpabGreatDoor
open Go.RowKit

theorem bs_back6 (q : ByteArray) : bs q.data.toList = q := by cases q; simp [bs]

set_option maxHeartbeats 3200000 in
theorem law_plays6 {T : List UInt8 → List UInt8 → List UInt8} {E : List UInt8 → List UInt8 → Nat} (hp : ChooseP T E) (hc : ChooseC T E) (n : Int) (S' T' U : ByteArray) (w : World) (hS : S'.size ≤ maxLen) (hT : T'.size ≤ maxLen) (hU : U.size ≤ maxLen) : Calls Tryz.prog 15 #[.agg #[.int .i64 6, .int .i64 n, .string S', .string T', .string U]] w fun e w' => e = .returned (.bool true) ∧ Below w.heap.size w w' := by
  obtain ⟨t, rfl⟩ : ∃ t, S' = bs t := ⟨_, (bs_back6 S').symm⟩
  obtain ⟨O, rfl⟩ : ∃ O, T' = bs O := ⟨_, (bs_back6 T').symm⟩
  obtain ⟨C, rfl⟩ : ∃ C, U = bs C := ⟨_, (bs_back6 U).symm⟩
  have HS : Hid ((bs t).size ≤ maxLen) := hS
  rw [bs_size] at hS hT hU
  have Ht : Hid (t.length ≤ maxLen) := hS
  have HO : Hid (O.length ≤ maxLen) := hT
  have HC : Hid (C.length ≤ maxLen) := hU
  have HCC : Hid (ChooseC T E) := hc
  have HCH : Hid (chB (bs t).data.toList C (T t C) (E t C) O = true) := by show _ = _; rw [bs_list]; exact hp.chosen t C O
  have hln := hp.len t C
  have hle := hp.le t C
  clear hS hT hU hp hc
  go_enter Tryz.func15, Tryz.ntmps15
  go_wp2_with fail
  refine (HCC.out t C _ Ht.out HC.out).mono ?_
  rintro e w1 ⟨rfl, hb1⟩
  have hb : Below w.heap.size w w1 := ((Below.refl _ _).alloc (Nat.le_refl _) _).trans (hb1.mono (by simp))
  have hbx := blk_below hb1 (blk_new w (.cells #[.int .i64 6, .int .i64 n, .string (bs t), .string (bs O), .string (bs C)] 39)) (by simp)
  have c2 : w1.cell? ⟨w.heap.size, 2, none⟩ = some (.string (bs t)) := (cellAt hbx 2).trans rfl
  have c3 : w1.cell? ⟨w.heap.size, 3, none⟩ = some (.string (bs O)) := (cellAt hbx 3).trans rfl
  have c4 : w1.cell? ⟨w.heap.size, 4, none⟩ = some (.string (bs C)) := (cellAt hbx 4).trans rfl
  have HB : Hid (Below w.heap.size w w1) := hb
  have hw1 := hb.size
  clear hb hb1 hbx
  generalize T t C = TT at *
  generalize E t C = EE at *
  go_wp2_with fail
  go_region_held3 (fun w' => w'.cell? ⟨w.heap.size, 2, none⟩ = some (.string (bs t)) ∧ w'.cell? ⟨w.heap.size, 3, none⟩ = some (.string (bs O)) ∧ w'.cell? ⟨w.heap.size, 4, none⟩ = some (.string (bs C))) (first | exact ⟨c2, c3, c4⟩ | exact ⟨dcell (by assumption) c2, dcell (by assumption) c3, dcell (by assumption) c4⟩)
    (first | (go_at_call 33; refine (law_num _ _).mono ?_; rintro e w' ⟨rfl, rfl⟩) | (go_at_call 36; refine (ref_Chosen (bs t) C TT EE O _ HS.out HC.out (le_max hln) HO.out (by omega)).mono ?_; rintro e w2 ⟨rfl, hb2⟩; rw [HCH.out]; have HB2 : Hid (Below w.heap.size w w2) := HB.out.trans ((below_drew hb2).mono hw1)))
  all_goals (try go_wp2)
  all_goals go_ret
  all_goals exact ⟨rfl, HB2.out⟩

end Go.Proofs.YtenbnmbbfeekpabGreatDoor
