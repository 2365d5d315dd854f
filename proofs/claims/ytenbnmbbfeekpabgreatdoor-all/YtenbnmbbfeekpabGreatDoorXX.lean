import Derived.Test.YtenbnmbbfeekpabGreatDoorXW
import Derived.Laws.IdiomStrings
import Derived.Laws.BytesArg
import Derived.Deep.RegionWith
import Derived.Deep.QuietTactic
import Derived.BigQuiet

namespace Go.Proofs.YtenbnmbbfeekpabGreatDoor
open Go.RowKit

theorem Tryz.infoByte : (Tryz.prog.info? 5).map (fun i => (i.zero, i.size, i.bytes)) = some (some (.int .u8 0), 1, 1) := by kernel_rfl

/-- Bytes in a row of the call's own. -/
def UB (w wr : World) (v : Value) (l : List UInt8) : Prop := wr.ownsRow w.heap.size 5 1 v l.length (l.map fun b => .int .u8 (b.toNat : Int))
theorem UB.conv {w wr : World} {v : Value} {l : List UInt8} (h : UB w wr v l) : (convert 46 9 v).run Tryz.prog wr = .ok (.string (bs l)) wr := by
  rcases ownK_shape h with ⟨rfl, h0⟩ | ⟨g, cap, rfl, hc⟩
  · have : l = [] := List.eq_nil_of_length_eq_zero h0
    subst this
    exact run_convert_bytes_nil (P := Tryz.prog) (w := wr) 46 5 Tryz.underlying46 Tryz.underlying5 0 0 9 Tryz.underlying9
  · refine run_convert_bytes_back (P := Tryz.prog) _ 46 9 5 ⟨g, 0, none⟩ cap l Tryz.underlying46 Tryz.underlying5 Tryz.underlying9 (fun j hj => ?_)
    rw [Addr.add_lit, Nat.zero_add]
    exact ownK_cell h j _ (by simp [hj])
theorem kRet {a b : List UInt8} (h : a = b) : Ending.returned (.string (bs a)) = .returned (.string (bs b)) := by rw [h]
theorem bb_step (S k c : Nat) : bbT S (k + 1) c = (if S &&& litN c ≠ 0 then [b8 c] else []) ++ bbT S k (c + 1) := rfl
theorem bb_yes {S k c : Nat} (h : S &&& litN c ≠ 0) : bbT S (k + 1) c = b8 c :: bbT S k (c + 1) := by rw [bb_step, if_pos h]; rfl
theorem bb_no {S k c : Nat} (h : ¬ (S &&& litN c ≠ 0)) : bbT S (k + 1) c = bbT S k (c + 1) := by rw [bb_step, if_neg h]; rfl

theorem sv_literalI (x : Nat) (z : Int) (hz : z = (x : Int)) (hx : x < 256) (w : World) : Calls Tryz.prog 43 #[.int .u8 z] w fun e w' => e = .returned (.int .u64 (litN x : Nat)) ∧ w' = w := by
  rw [hz]; exact sv_literal x hx w

set_option maxHeartbeats 3200000 in
set_option maxRecDepth 100000 in
theorem Set_ByBytes (S : Nat) (hS : S < 2 ^ 52) (w : World) : Calls Tryz.prog 22 #[.int .u64 S] w fun e w' => e = .returned (.string (bs (bbT S 58 65))) ∧ Below w.heap.size w w' := by
  obtain ⟨i0, hi0, hz0, hz1, hz2⟩ := info_parts Tryz.infoByte
  obtain ⟨R, hR⟩ : ∃ R, R = bbT S 58 65 := ⟨_, rfl⟩
  rw [← hR]
  have HR : Hid ([] ++ bbT S (123 - 65) 65 = R) := hR.symm
  clear hR
  go_enter Tryz.func22, Tryz.ntmps22
  go_wp2
  go_loopw [3, 4] (fun o i wr => ∃ (c : Nat) (acc : List UInt8), 65 ≤ c ∧ c ≤ 123 ∧ acc.length + 65 ≤ c ∧ i = .int .u8 (c : Int) ∧ Hid (UB w wr o acc) ∧ Hid (acc ++ bbT S (123 - c) c = R) ∧ Below w.heap.size w wr) (fun _ i _ => 123 - (intOf i).toNat)
  case atStart => exact ⟨65, [], by omega, by omega, by simp, rfl, World.ownsRow_nil _ _ _ _, HR, Below.refl _ _⟩
  case round =>
    obtain ⟨c, acc, hc1, hc2, hacc, rfl, HO, HI, hb⟩ := hrel
    have hbs := hb.size
    have HB : Hid (Below w.heap.size w wr) := hb
    clear hb
    by_cases hlt : c ≤ 122
    · have e1 : (c : Int) ≤ 122 := by omega
      have hll := litN_lt c
      have ha := bits_and_u64_nat S (litN c) (by omega) (by omega)
      have HD : Hid (acc ++ bbT S ((122 - c) + 1) c = R) := by show _ = _; rw [← HI.out, show 123 - c = 122 - c + 1 by omega]
      clear HI
      by_cases hin : S &&& litN c ≠ 0
      · have e2 : (((S &&& litN c : Nat) : Int) != 0) = true := by rw [bne_iff_ne]; omega
        have HF : Hid ((acc ++ [b8 c]) ++ bbT S (123 - (c + 1)) (c + 1) = R) := by show _ = _; rw [← HD.out, bb_yes hin, show 123 - (c + 1) = 122 - c by omega]; simp
        have hown : wr.ownsRow w.heap.size 5 1 _ acc.length (acc.map fun b => .int .u8 (b.toNat : Int)) := HO.out
        clear HD hin HO
        go_wp2_with fail
        refine (sv_literal c (by omega) _).mono ?_
        rintro e w1 ⟨rfl, rfl⟩
        go_wp2_with (at_builtin; refine wpList_append_own _ rfl _ _ 46 rfl w.heap.size 5 i0 (.int .u8 0) 1 1 Tryz.underlying46 hi0 hz0 hz1 hz2 rfl (by decide) _ _ _ rfl (hown.alloc _) ⟨w1.heap.size, 0, none⟩ 1 1 [.int .u8 c] rfl rfl ?c1 ?c2 ?c3 ?c4 ?c5 ?_)
        case c1 => exact cell_one_new _ _ _
        case c2 => intro u hu; simp at hu; subst hu; rfl
        case c3 => unfold maxLen; omega
        case c4 => omega
        case c5 => simp; omega
        intro v' w2 hown' hgrow _
        have HB2 : Hid (Below w.heap.size w w2) := (HB.out.alloc (by omega) _).grown hgrow (by simp; omega) (fun j hj => (hown.lt j hj).1)
        have HO2 : Hid (UB w w2 v' (acc ++ [b8 c])) := by
          show World.ownsRow _ _ _ _ _ _ _
          simpa [b8_val (show c < 256 by omega)] using hown'
        clear hown' hgrow hown
        go_wp2
        go_roundw
        case rel => exact ⟨c + 1, acc ++ [b8 c], by omega, by omega, by simp; omega, by go_num, HO2, HF, HB2.out⟩
        case measure => simp [intOf]; omega
      · have e2 : (((S &&& litN c : Nat) : Int) != 0) = false := by rw [bne_eq_false_iff_eq]; omega
        have HF : Hid (acc ++ bbT S (123 - (c + 1)) (c + 1) = R) := by show _ = _; rw [← HD.out, bb_no hin, show 123 - (c + 1) = 122 - c by omega]
        clear HD hin
        go_wp2_with fail
        refine (sv_literal c (by omega) _).mono ?_
        rintro e w1 ⟨rfl, rfl⟩
        go_wp2
        go_roundw
        case rel => exact ⟨c + 1, acc, by omega, by omega, by omega, by go_num, HO, HF, HB.out⟩
        case measure => simp [intOf]; omega
    · have e1 : ¬ (c : Int) ≤ 122 := by omega
      have HF : Hid (acc = R) := by show _ = _; rw [← HI.out, show 123 - c = 0 by omega]; simp [bbT]
      have hcv := HO.out.conv
      clear HI
      go_wp2
      go_ret
      exact ⟨kRet HF.out, HB.out⟩

end Go.Proofs.YtenbnmbbfeekpabGreatDoor

namespace Go.Proofs.YtenbnmbbfeekpabGreatDoor
open Go.RowKit

theorem bv_step (S k v : Nat) : bvT S (k + 1) v = (if S &&& litN (65 + v) ≠ 0 then [b8 (65 + v)] else []) ++ ((if S &&& litN (97 + v) ≠ 0 then [b8 (97 + v)] else []) ++ bvT S k (v + 1)) := rfl

set_option maxHeartbeats 6400000 in
set_option maxRecDepth 100000 in
theorem Set_ByVariables (S : Nat) (hS : S < 2 ^ 52) (w : World) : Calls Tryz.prog 23 #[.int .u64 S] w fun e w' => e = .returned (.string (bs (bvT S 26 0))) ∧ Below w.heap.size w w' := by
  obtain ⟨i0, hi0, hz0, hz1, hz2⟩ := info_parts Tryz.infoByte
  obtain ⟨R, hR⟩ : ∃ R, R = bvT S 26 0 := ⟨_, rfl⟩
  rw [← hR]
  have HR : Hid ([] ++ bvT S (26 - 0) 0 = R) := hR.symm
  clear hR
  go_enter Tryz.func23, Tryz.ntmps23
  go_wp2
  go_loopw [3, 4] (fun o i wr => ∃ (c : Nat) (acc : List UInt8), c ≤ 26 ∧ acc.length ≤ 2 * c ∧ i = .int .u8 (c : Int) ∧ Hid (UB w wr o acc) ∧ Hid (acc ++ bvT S (26 - c) c = R) ∧ Below w.heap.size w wr) (fun _ i _ => 26 - (intOf i).toNat)
  case atStart => exact ⟨0, [], by omega, by simp, rfl, World.ownsRow_nil _ _ _ _, HR, Below.refl _ _⟩
  case round =>
    obtain ⟨c, acc, hc2, hacc, rfl, HO, HI, hb⟩ := hrel
    have hbs := hb.size
    have HB : Hid (Below w.heap.size w wr) := hb
    clear hb
    by_cases hlt : c < 26
    · have e1 : (c : Int) < 26 := by omega
      have l1 := litN_lt (65 + c)
      have l2 := litN_lt (97 + c)
      have a1 := bits_and_u64_nat S (litN (65 + c)) (by omega) (by omega)
      have a2 := bits_and_u64_nat S (litN (97 + c)) (by omega) (by omega)
      have HD : Hid (acc ++ ((if S &&& litN (65 + c) ≠ 0 then [b8 (65 + c)] else []) ++ ((if S &&& litN (97 + c) ≠ 0 then [b8 (97 + c)] else []) ++ bvT S (26 - (c + 1)) (c + 1))) = R) := by
        show _ = _; rw [← HI.out, show 26 - c = (26 - (c + 1)) + 1 by omega, bv_step]
      clear HI
      by_cases h1 : S &&& litN (65 + c) ≠ 0
      · have e2 : (((S &&& litN (65 + c) : Nat) : Int) != 0) = true := by rw [bne_iff_ne]; omega
        by_cases h2 : S &&& litN (97 + c) ≠ 0
        · have e3 : (((S &&& litN (97 + c) : Nat) : Int) != 0) = true := by rw [bne_iff_ne]; omega
          have HF : Hid (((acc ++ [b8 (65 + c)]) ++ [b8 (97 + c)]) ++ bvT S (26 - (c + 1)) (c + 1) = R) := by show _ = _; rw [← HD.out, if_pos h1, if_pos h2]; simp
          clear HD h1 h2
          have hown : wr.ownsRow w.heap.size 5 1 _ acc.length ((acc).map fun b => .int .u8 (b.toNat : Int)) := HO.out
          clear HO
          go_wp2_with fail
          refine (sv_literalI (65 + c) _ (by omega) (by omega) _).mono ?_
          rintro e wl65 ⟨rfl, rfl⟩
          go_wp2_with (at_builtin; refine wpList_append_own _ rfl _ _ 46 rfl w.heap.size 5 i0 (.int .u8 0) 1 1 Tryz.underlying46 hi0 hz0 hz1 hz2 rfl (by decide) _ _ _ rfl (hown.alloc _) ⟨wl65.heap.size, 0, none⟩ 1 1 [.int .u8 (65 + (c : Int))] rfl rfl ?c1 ?c2 ?c3 ?c4 ?c5 ?_)
          case c1 => exact cell_one_new _ _ _
          case c2 => intro u hu; simp at hu; subst hu; rfl
          case c3 => unfold maxLen; simp; omega
          case c4 => simp; omega
          case c5 => simp; omega
          intro v1 w1 hown1' hgrow1 _
          have HB1 : Hid (Below w.heap.size w w1) := (HB.out.alloc (by omega) _).grown hgrow1 (by simp; omega) (fun j hj => (hown.lt j hj).1)
          have hbs1 := HB1.out.size
          have HO1 : Hid (UB w w1 v1 (acc ++ [b8 (65 + c)])) := by
            show World.ownsRow _ _ _ _ _ _ _
            simpa [b8_val (show 65 + c < 256 by omega)] using hown1'
          clear hown1' hgrow1 hown
          have hownb : w1.ownsRow w.heap.size 5 1 _ (acc ++ [b8 (65 + c)]).length (((acc ++ [b8 (65 + c)])).map fun b => .int .u8 (b.toNat : Int)) := HO1.out
          clear HO1
          go_wp2_with fail
          refine (sv_literalI (97 + c) _ (by omega) (by omega) _).mono ?_
          rintro e wl97 ⟨rfl, rfl⟩
          go_wp2_with (at_builtin; refine wpList_append_own _ rfl _ _ 46 rfl w.heap.size 5 i0 (.int .u8 0) 1 1 Tryz.underlying46 hi0 hz0 hz1 hz2 rfl (by decide) _ _ _ rfl (hownb.alloc _) ⟨wl97.heap.size, 0, none⟩ 1 1 [.int .u8 (97 + (c : Int))] rfl rfl ?c1 ?c2 ?c3 ?c4 ?c5 ?_)
          case c1 => exact cell_one_new _ _ _
          case c2 => intro u hu; simp at hu; subst hu; rfl
          case c3 => unfold maxLen; simp; omega
          case c4 => simp; omega
          case c5 => simp; omega
          intro v2 w2 hown2' hgrow2 _
          have HB2 : Hid (Below w.heap.size w w2) := (HB1.out.alloc (by omega) _).grown hgrow2 (by simp; omega) (fun j hj => (hownb.lt j hj).1)
          have hbs2 := HB2.out.size
          have HO2 : Hid (UB w w2 v2 ((acc ++ [b8 (65 + c)]) ++ [b8 (97 + c)])) := by
            show World.ownsRow _ _ _ _ _ _ _
            simpa [b8_val (show 97 + c < 256 by omega)] using hown2'
          clear hown2' hgrow2 hownb
          go_wp2
          go_roundw
          case rel => exact ⟨c + 1, (acc ++ [b8 (65 + c)]) ++ [b8 (97 + c)], by omega, by simp; omega, by go_num, HO2, HF, HB2.out⟩
          case measure => simp [intOf]; omega
        · have e3 : (((S &&& litN (97 + c) : Nat) : Int) != 0) = false := by rw [bne_eq_false_iff_eq]; omega
          have HF : Hid ((acc ++ [b8 (65 + c)]) ++ bvT S (26 - (c + 1)) (c + 1) = R) := by show _ = _; rw [← HD.out, if_pos h1, if_neg h2]; simp
          clear HD h1 h2
          have hown : wr.ownsRow w.heap.size 5 1 _ acc.length ((acc).map fun b => .int .u8 (b.toNat : Int)) := HO.out
          clear HO
          go_wp2_with fail
          refine (sv_literalI (65 + c) _ (by omega) (by omega) _).mono ?_
          rintro e wl65 ⟨rfl, rfl⟩
          go_wp2_with (at_builtin; refine wpList_append_own _ rfl _ _ 46 rfl w.heap.size 5 i0 (.int .u8 0) 1 1 Tryz.underlying46 hi0 hz0 hz1 hz2 rfl (by decide) _ _ _ rfl (hown.alloc _) ⟨wl65.heap.size, 0, none⟩ 1 1 [.int .u8 (65 + (c : Int))] rfl rfl ?c1 ?c2 ?c3 ?c4 ?c5 ?_)
          case c1 => exact cell_one_new _ _ _
          case c2 => intro u hu; simp at hu; subst hu; rfl
          case c3 => unfold maxLen; simp; omega
          case c4 => simp; omega
          case c5 => simp; omega
          intro v1 w1 hown1' hgrow1 _
          have HB1 : Hid (Below w.heap.size w w1) := (HB.out.alloc (by omega) _).grown hgrow1 (by simp; omega) (fun j hj => (hown.lt j hj).1)
          have hbs1 := HB1.out.size
          have HO1 : Hid (UB w w1 v1 (acc ++ [b8 (65 + c)])) := by
            show World.ownsRow _ _ _ _ _ _ _
            simpa [b8_val (show 65 + c < 256 by omega)] using hown1'
          clear hown1' hgrow1 hown
          go_wp2_with fail
          refine (sv_literalI (97 + c) _ (by omega) (by omega) _).mono ?_
          rintro e wl97 ⟨rfl, rfl⟩
          go_wp2
          go_roundw
          case rel => exact ⟨c + 1, acc ++ [b8 (65 + c)], by omega, by simp; omega, by go_num, HO1, HF, HB1.out⟩
          case measure => simp [intOf]; omega
      · have e2 : (((S &&& litN (65 + c) : Nat) : Int) != 0) = false := by rw [bne_eq_false_iff_eq]; omega
        by_cases h2 : S &&& litN (97 + c) ≠ 0
        · have e3 : (((S &&& litN (97 + c) : Nat) : Int) != 0) = true := by rw [bne_iff_ne]; omega
          have HF : Hid ((acc ++ [b8 (97 + c)]) ++ bvT S (26 - (c + 1)) (c + 1) = R) := by show _ = _; rw [← HD.out, if_neg h1, if_pos h2]; simp
          clear HD h1 h2
          have hown : wr.ownsRow w.heap.size 5 1 _ acc.length ((acc).map fun b => .int .u8 (b.toNat : Int)) := HO.out
          clear HO
          go_wp2_with fail
          refine (sv_literalI (65 + c) _ (by omega) (by omega) _).mono ?_
          rintro e wl65 ⟨rfl, rfl⟩
          go_wp2_with fail
          refine (sv_literalI (97 + c) _ (by omega) (by omega) _).mono ?_
          rintro e wl97 ⟨rfl, rfl⟩
          go_wp2_with (at_builtin; refine wpList_append_own _ rfl _ _ 46 rfl w.heap.size 5 i0 (.int .u8 0) 1 1 Tryz.underlying46 hi0 hz0 hz1 hz2 rfl (by decide) _ _ _ rfl (hown.alloc _) ⟨wl97.heap.size, 0, none⟩ 1 1 [.int .u8 (97 + (c : Int))] rfl rfl ?c1 ?c2 ?c3 ?c4 ?c5 ?_)
          case c1 => exact cell_one_new _ _ _
          case c2 => intro u hu; simp at hu; subst hu; rfl
          case c3 => unfold maxLen; simp; omega
          case c4 => simp; omega
          case c5 => simp; omega
          intro v1 w1 hown1' hgrow1 _
          have HB1 : Hid (Below w.heap.size w w1) := (HB.out.alloc (by omega) _).grown hgrow1 (by simp; omega) (fun j hj => (hown.lt j hj).1)
          have hbs1 := HB1.out.size
          have HO1 : Hid (UB w w1 v1 (acc ++ [b8 (97 + c)])) := by
            show World.ownsRow _ _ _ _ _ _ _
            simpa [b8_val (show 97 + c < 256 by omega)] using hown1'
          clear hown1' hgrow1 hown
          go_wp2
          go_roundw
          case rel => exact ⟨c + 1, acc ++ [b8 (97 + c)], by omega, by simp; omega, by go_num, HO1, HF, HB1.out⟩
          case measure => simp [intOf]; omega
        · have e3 : (((S &&& litN (97 + c) : Nat) : Int) != 0) = false := by rw [bne_eq_false_iff_eq]; omega
          have HF : Hid (acc ++ bvT S (26 - (c + 1)) (c + 1) = R) := by show _ = _; rw [← HD.out, if_neg h1, if_neg h2]; simp
          clear HD h1 h2
          go_wp2_with fail
          refine (sv_literalI (65 + c) _ (by omega) (by omega) _).mono ?_
          rintro e wl65 ⟨rfl, rfl⟩
          go_wp2_with fail
          refine (sv_literalI (97 + c) _ (by omega) (by omega) _).mono ?_
          rintro e wl97 ⟨rfl, rfl⟩
          go_wp2
          go_roundw
          case rel => exact ⟨c + 1, acc, by omega, by omega, by go_num, HO, HF, HB.out⟩
          case measure => simp [intOf]; omega
    · have e1 : ¬ (c : Int) < 26 := by omega
      have HF : Hid (acc = R) := by show _ = _; rw [← HI.out, show 26 - c = 0 by omega]; simp [bvT]
      have hcv := HO.out.conv
      clear HI
      go_wp2
      go_ret
      exact ⟨kRet HF.out, HB.out⟩

end Go.Proofs.YtenbnmbbfeekpabGreatDoor

namespace Go.Proofs.YtenbnmbbfeekpabGreatDoor
open Go.RowKit

/-- One step of the search. -/
theorem srch_all {k : Nat} {l : List Nat} {met : Nat} (h : l.length ≤ tight l met) : srch (k + 1) l met = (true, met) := by rw [srch, if_pos h]
theorem srch_ref {k : Nat} {l : List Nat} {met c : Nat} (h : tight l met < l.length) (hc : l.getD (tight l met) 0 = c) (ho : adN c (oppN met) = 0) : srch (k + 1) l met = (false, oppN c) := by
  rw [srch, if_neg (Nat.not_le.2 h), hc, if_pos ho]
theorem srch_with {k : Nat} {l : List Nat} {met c a : Nat} {W : Bool × Nat} (h : tight l met < l.length) (hc : l.getD (tight l met) 0 = c) (ho : adN c (oppN met) ≠ 0) (ha : fstN (adN c (oppN met)) = a) (hW : srch k l (met ||| a) = W) (hw : W.1 = true ∨ W.2 &&& a = 0) : srch (k + 1) l met = W := by
  rw [srch, if_neg (Nat.not_le.2 h), hc, if_neg ho, ha, hW, if_pos hw]
theorem srch_against {k : Nat} {l : List Nat} {met c a : Nat} {W G : Bool × Nat} (h : tight l met < l.length) (hc : l.getD (tight l met) 0 = c) (ho : adN c (oppN met) ≠ 0) (ha : fstN (adN c (oppN met)) = a) (hW : srch k l (met ||| a) = W) (hw : ¬ (W.1 = true ∨ W.2 &&& a = 0)) (hG : srch k l (met ||| oppN a) = G) (hg : G.1 = true ∨ G.2 &&& oppN a = 0) : srch (k + 1) l met = G := by
  rw [srch, if_neg (Nat.not_le.2 h), hc, if_neg ho, ha, hW, if_neg hw, hG, if_pos hg]
theorem srch_both {k : Nat} {l : List Nat} {met c a : Nat} {W G : Bool × Nat} (h : tight l met < l.length) (hc : l.getD (tight l met) 0 = c) (ho : adN c (oppN met) ≠ 0) (ha : fstN (adN c (oppN met)) = a) (hW : srch k l (met ||| a) = W) (hw : ¬ (W.1 = true ∨ W.2 &&& a = 0)) (hG : srch k l (met ||| oppN a) = G) (hg : ¬ (G.1 = true ∨ G.2 &&& oppN a = 0)) : srch (k + 1) l met = (false, adN (W.2 ||| G.2) (a ||| oppN a)) := by
  rw [srch, if_neg (Nat.not_le.2 h), hc, if_neg ho, ha, hW, if_neg hw, hG, if_neg hg]
theorem cons_of (s : Nat) : s < 2 ^ 52 → True := fun _ => trivial
theorem srch_lt (l : List Nat) (hl : ∀ c ∈ l, c < 2 ^ 52) : ∀ (k met : Nat), met < 2 ^ 52 → (srch k l met).2 < 2 ^ 52
  | 0, met, h => h
  | k + 1, met, h => by
    by_cases ht : l.length ≤ tight l met
    · rw [srch_all ht]; exact h
    · have ht' : tight l met < l.length := Nat.not_le.1 ht
      have hc : l.getD (tight l met) 0 < 2 ^ 52 := by
        rw [List.getD_eq_getElem?_getD, List.getElem?_eq_getElem ht']
        exact hl _ (List.getElem_mem ht')
      by_cases ho : adN (l.getD (tight l met) 0) (oppN met) = 0
      · rw [srch_ref ht' rfl ho]; exact oppN_lt hc
      · have ha : fstN (adN (l.getD (tight l met) 0) (oppN met)) < 2 ^ 52 := fstN_lt (adN_lt hc)
        have hW := srch_lt l hl k (met ||| fstN (adN (l.getD (tight l met) 0) (oppN met))) (or_lt h ha)
        have hG := srch_lt l hl k (met ||| oppN (fstN (adN (l.getD (tight l met) 0) (oppN met)))) (or_lt h (oppN_lt ha))
        by_cases hw : (srch k l (met ||| fstN (adN (l.getD (tight l met) 0) (oppN met)))).1 = true ∨ (srch k l (met ||| fstN (adN (l.getD (tight l met) 0) (oppN met)))).2 &&& fstN (adN (l.getD (tight l met) 0) (oppN met)) = 0
        · rw [srch_with ht' rfl ho rfl rfl hw]; exact hW
        · by_cases hg : (srch k l (met ||| oppN (fstN (adN (l.getD (tight l met) 0) (oppN met))))).1 = true ∨ (srch k l (met ||| oppN (fstN (adN (l.getD (tight l met) 0) (oppN met))))).2 &&& oppN (fstN (adN (l.getD (tight l met) 0) (oppN met))) = 0
          · rw [srch_against ht' rfl ho rfl rfl hw rfl hg]; exact hG
          · rw [srch_both ht' rfl ho rfl rfl hw rfl hg]; exact adN_lt (or_lt hW hG)

theorem ret_ans {a b : Bool} {x y : Nat} (h : (a, x) = (b, y)) : Ending.returned (.agg #[.bool a, .int .u64 (x : Int)]) = .returned (.agg #[.bool b, .int .u64 (y : Int)]) := by
  injection h with h1 h2
  rw [h1, h2]

/-- The result's two cells, written, and a block laid behind. -/
theorem res2 {w1 : World} {B : Nat} {x0 y0 : Value} {T : TypeId} (h : w1.heap[B]? = some (.cells #[x0, y0] T (0, 0))) (x y : Value) (o : Obj) :
    (((w1.setCell ⟨B, 0, none⟩ x).setCell ⟨B, 1, none⟩ y).alloc o).cell? ⟨B, 0, none⟩ = some x ∧ (((w1.setCell ⟨B, 0, none⟩ x).setCell ⟨B, 1, none⟩ y).alloc o).cell? ⟨B, 1, none⟩ = some y := by
  have hk := blk_old (setAt (setAt h 0 x) 1 y) o
  exact ⟨by rw [cellAt hk]; rfl, by rw [cellAt hk]; rfl⟩

set_option maxHeartbeats 6400000 in
set_option maxRecDepth 100000 in
theorem sv_search (ao : Option Addr) (cap : Nat) (l : List Nat) : ∀ (k met : Nat), met < 2 ^ 52 → 2 ^ 52 ≤ met + k → ∀ (w : World), UV w ao l →
    Calls Tryz.prog 45 #[.slice ao l.length cap, .int .u64 met] w fun e w' => ∃ b n, e = .returned (.agg #[.bool b, .int .u64 ((n : Nat) : Int)]) ∧ srch k l met = (b, n) ∧ Below w.heap.size w w'
  | 0, met, h1, h2, _, _ => by omega
  | k + 1, met, h1, h2, w, hl => by
    have hcs := hl.2.1
    have h801 := hl.1
    have HV : Hid (∀ w', Below w.heap.size w w' → UV w' ao l) := fun w' hb => hl.below hb
    have HB0 : Hid (Below w.heap.size w (w.alloc (.cells #[.bool false, .int .u64 0] 57))) := (Below.refl _ _).alloc (Nat.le_refl _) _
    obtain ⟨T, hT⟩ : ∃ T, T = tight l met := ⟨_, rfl⟩
    have HT : Hid (tight l met = T) := hT.symm
    by_cases ht : l.length ≤ tight l met
    · have HF : Hid (srch (k + 1) l met = (true, met)) := srch_all ht
      have e1 : (l.length : Int) ≤ (T : Int) := by omega
      clear hT ht hl
      go_enter Tryz.func45, Tryz.ntmps45
      go_wp2_with fail
      refine (sv_tightest ao cap l met h1 _ (HV.out _ HB0.out)).mono ?_
      rintro e w1 ⟨rfl, rfl⟩
      rw [HT.out]
      go_wp2
      refine bodyPost_ret (v := .agg #[.bool true, .int .u64 met]) ?_ rfl ⟨true, met, rfl, HF.out, ?_⟩
      · simp [results, Tryz.results45, go_sem]
      · exact (Below.refl _ _).alloc (Nat.le_refl _) _
    · have ht' : tight l met < l.length := Nat.not_le.1 ht
      obtain ⟨c, g, off, hao, hg, hc, HG, x0⟩ : ∃ c g off, ao = some ⟨g, off, none⟩ ∧ g < w.heap.size ∧ c < 2 ^ 52 ∧ Hid (l.getD (tight l met) 0 = c) ∧ w.cell? ⟨g, off + tight l met, none⟩ = some (.int .u64 ((c : Nat) : Int)) := by
        obtain ⟨g, off, e, hg, x0⟩ := hl.2.2 _ ht'
        exact ⟨_, g, off, e, hg, hcs _ (List.getElem_mem ht'), by show _ = _; rw [List.getD_eq_getElem?_getD, List.getElem?_eq_getElem ht']; rfl, x0⟩
      subst hao
      rw [← HB0.out.cell (p := ⟨g, _, none⟩) hg, ← hT] at x0
      have HTL : Hid (tight l met < l.length) := ht'
      have e1 : ¬ (l.length : Int) ≤ (T : Int) := by omega
      have e1' : (T : Int) < (l.length : Int) := by omega
      have hTl : T < l.length := by omega
      have hom := oppN_lt h1
      have HCS : Hid (∀ c ∈ l, c < 2 ^ 52) := hcs
      have a1 := andNot_u64 c (oppN met) (by omega) (by omega)
      have hopn := adN_lt (b := oppN met) hc
      clear ht ht' hT hl hcs
      by_cases ho : adN c (oppN met) = 0
      · have HF : Hid (srch (k + 1) l met = (false, oppN c)) := srch_ref HTL.out HG.out ho
        have HO : Hid (adN c (oppN met) = 0) := ho
        clear ho
        go_enter Tryz.func45, Tryz.ntmps45
        go_wp2_with fail
        refine (sv_tightest _ cap l met h1 _ (HV.out _ HB0.out)).mono ?_
        rintro e w1 ⟨rfl, rfl⟩
        rw [HT.out]
        go_wp2_with fail
        refine (Set_opposites met h1 _).mono ?_
        rintro e w1 ⟨rfl, rfl⟩
        rw [HO.out] at a1
        go_wp2_with fail
        refine (Set_opposites c hc _).mono ?_
        rintro e w1 ⟨rfl, rfl⟩
        go_wp2
        refine bodyPost_ret (v := .agg #[.bool false, .int .u64 (oppN c : Nat)]) ?_ rfl ⟨false, oppN c, rfl, HF.out, ?_⟩
        · simp [results, Tryz.results45, go_sem]
        · exact (Below.refl _ _).alloc (Nat.le_refl _) _
      · have eo : (((adN c (oppN met) : Nat) : Int) == 0) = false := by rw [beq_eq_false_iff_ne]; omega
        obtain ⟨i, hi, hfi, hb1, hm1, hm2, _⟩ := step_lit HCS.out h1 HTL.out (by rw [HG.out]; exact ho)
        rw [HG.out] at hfi
        have HO : Hid (adN c (oppN met) ≠ 0) := ho
        obtain ⟨a, ha⟩ : ∃ a, fstN (adN c (oppN met)) = a := ⟨_, rfl⟩
        have hai : a = 2 ^ i := by rw [← ha, hfi]
        have ha52 : a < 2 ^ 52 := by rw [hai]; exact Nat.pow_lt_pow_right (by omega) hi
        have hoa52 := oppN_lt ha52
        have g1 : met < met ||| a := by rw [hai]; exact or_grow hm1
        have g2 : met < met ||| oppN a := by rw [hai, oppN_pow hi]; exact or_grow hm2
        have o1 := bits_or_u64_nat met a (by omega) (by omega)
        have o2 := bits_or_u64_nat met (oppN a) (by omega) (by omega)
        have m1 := or_lt h1 ha52
        have m2 := or_lt h1 hoa52
        have HAE : Hid (fstN (adN c (oppN met)) = a) := ha
        have HW : Hid _ := fun w' hw' => sv_search (some ⟨g, off, none⟩) cap l k (met ||| a) m1 (by omega) w' hw'
        have HGG : Hid _ := fun w' hw' => sv_search (some ⟨g, off, none⟩) cap l k (met ||| oppN a) m2 (by omega) w' hw'
        have HWL : Hid ((srch k l (met ||| a)).2 < 2 ^ 52) := srch_lt l HCS.out k _ m1
        have HGL : Hid ((srch k l (met ||| oppN a)).2 < 2 ^ 52) := srch_lt l HCS.out k _ m2
        clear hai hfi hm1 hm2 hb1 hi ho ha g1 g2
        go_enter Tryz.func45, Tryz.ntmps45
        go_wp2_with fail
        refine (sv_tightest _ cap l met h1 _ (HV.out _ HB0.out)).mono ?_
        rintro e w1 ⟨rfl, rfl⟩
        rw [HT.out]
        go_wp2_with fail
        refine (Set_opposites met h1 _).mono ?_
        rintro e w1 ⟨rfl, rfl⟩
        go_wp2_with fail
        refine (Set_first _ hopn _).mono ?_
        rintro e w1 ⟨rfl, rfl⟩
        rw [HAE.out]
        go_wp2_with fail
        refine (HW.out _ (HV.out _ HB0.out)).mono ?_
        rintro e w1 ⟨b, n, rfl, hs1, hbl1⟩
        have HW1 : Hid (srch k l (met ||| a) = (b, n)) := hs1
        have hn52 : n < 2 ^ 52 := by have := HWL.out; rw [hs1] at this; exact this
        have HB1 : Hid (Below w.heap.size w w1) := HB0.out.trans (hbl1.mono (by simp))
        have hbk : w1.heap[w.heap.size]? = some (.cells #[.bool false, .int .u64 0] 57 (0, 0)) := (hbl1.block _ (by simp)).trans (blk_new _ _)
        have hltw := ltAt hbk
        have d0 : w1.cell? ⟨w.heap.size, 0, none⟩ = some (.bool false) := by rw [cellAt hbk]; rfl
        have d1 : w1.cell? ⟨w.heap.size, 1, none⟩ = some (.int .u64 0) := by rw [cellAt hbk]; rfl
        have f0 := freeAt hbk 0
        have f1 := freeAt hbk 1
        have HBK : Hid (w1.heap[w.heap.size]? = some (.cells #[.bool false, .int .u64 0] 57 (0, 0))) := hbk
        have HBA : Hid (Below w.heap.size w (w1.alloc (.cells #[.bool b, .int .u64 n] 57))) := HB1.out.alloc (by omega) _
        have na := bits_and_u64_nat n a (by omega) (by omega)
        clear hbk hbl1 hs1
        cases b with
        | true =>
          have HF : Hid (srch (k + 1) l met = (true, n)) := srch_with HTL.out HG.out HO.out HAE.out HW1.out (Or.inl rfl)
          go_wp2
          refine bodyPost_ret (v := .agg #[.bool true, .int .u64 n]) ?_ rfl ⟨true, n, rfl, HF.out, ?_⟩
          · simp [results, Tryz.results45, go_sem, (res2 HBK.out (.bool true) (.int .u64 n) _).1, (res2 HBK.out (.bool true) (.int .u64 n) _).2]
          · exact (((HB1.out.setCell (Nat.le_refl _) _).setCell (Nat.le_refl _) _).alloc (by simp; omega) _)
        | false =>
          by_cases hz : n &&& a = 0
          · have ez : (((n &&& a : Nat) : Int) == 0) = true := by rw [beq_iff_eq]; omega
            have HF : Hid (srch (k + 1) l met = (false, n)) := srch_with HTL.out HG.out HO.out HAE.out HW1.out (Or.inr hz)
            clear hz
            go_wp2
            refine bodyPost_ret (v := .agg #[.bool false, .int .u64 n]) ?_ rfl ⟨false, n, rfl, HF.out, ?_⟩
            · simp [results, Tryz.results45, go_sem, (res2 HBK.out (.bool false) (.int .u64 n) _).1, (res2 HBK.out (.bool false) (.int .u64 n) _).2]
            · exact (((HB1.out.setCell (Nat.le_refl _) _).setCell (Nat.le_refl _) _).alloc (by simp; omega) _)
          · have ez : (((n &&& a : Nat) : Int) == 0) = false := by rw [beq_eq_false_iff_ne]; omega
            have HNW : Hid (¬ ((false, n).1 = true ∨ (false, n).2 &&& a = 0)) := fun h => h.elim (fun h => by cases h) hz
            clear hz
            go_wp2_with fail
            refine (Set_opposites a ha52 _).mono ?_
            rintro e w1' ⟨rfl, rfl⟩
            go_wp2_with fail
            refine (HGG.out _ (HV.out _ HBA.out)).mono ?_
            rintro e w2 ⟨b2, n2, rfl, hs2, hbl2⟩
            have HG2 : Hid (srch k l (met ||| oppN a) = (b2, n2)) := hs2
            have hn252 : n2 < 2 ^ 52 := by have := HGL.out; rw [hs2] at this; exact this
            have HB2 : Hid (Below w.heap.size w w2) := HBA.out.trans (hbl2.mono (by simp; omega))
            have hbk : w2.heap[w.heap.size]? = some (.cells #[.bool false, .int .u64 0] 57 (0, 0)) := (hbl2.block _ (by simp; omega)).trans (blk_old HBK.out _)
            have hbj : w2.heap[w1.heap.size]? = some (.cells #[.bool false, .int .u64 n] 57 (0, 0)) := (hbl2.block _ (by simp)).trans (blk_new _ _)
            have hltw2 := ltAt hbk
            have hltw3 := ltAt hbj
            have d20 : w2.cell? ⟨w.heap.size, 0, none⟩ = some (.bool false) := by rw [cellAt hbk]; rfl
            have d21 : w2.cell? ⟨w.heap.size, 1, none⟩ = some (.int .u64 0) := by rw [cellAt hbk]; rfl
            have j20 : w2.cell? ⟨w1.heap.size, 0, none⟩ = some (.bool false) := by rw [cellAt hbj]; rfl
            have j21 : w2.cell? ⟨w1.heap.size, 1, none⟩ = some (.int .u64 n) := by rw [cellAt hbj]; rfl
            have f20 := freeAt hbk 0
            have f21 := freeAt hbk 1
            have HBK2 : Hid (w2.heap[w.heap.size]? = some (.cells #[.bool false, .int .u64 0] 57 (0, 0))) := hbk
            have HBB : Hid (Below w.heap.size w (w2.alloc (.cells #[.bool b2, .int .u64 n2] 57))) := HB2.out.alloc (by omega) _
            have na2 := bits_and_u64_nat n2 (oppN a) (by omega) (by omega)
            have no2 := bits_or_u64_nat n n2 (by omega) (by omega)
            have hol := or_lt hn52 hn252
            have hol2 := or_lt ha52 hoa52
            have no3 := bits_or_u64_nat a (oppN a) (by omega) (by omega)
            have no4 := andNot_u64 (n ||| n2) (a ||| oppN a) (by omega) (by omega)
            clear hbk hbj hbl2 hs2
            cases b2 with
            | true =>
              have HF : Hid (srch (k + 1) l met = (true, n2)) := srch_against HTL.out HG.out HO.out HAE.out HW1.out HNW.out HG2.out (Or.inl rfl)
              go_wp2
              refine bodyPost_ret (v := .agg #[.bool true, .int .u64 n2]) ?_ rfl ⟨true, n2, rfl, HF.out, ?_⟩
              · simp [results, Tryz.results45, go_sem, (res2 HBK2.out (.bool true) (.int .u64 n2) _).1, (res2 HBK2.out (.bool true) (.int .u64 n2) _).2]
              · exact (((HB2.out.setCell (Nat.le_refl _) _).setCell (Nat.le_refl _) _).alloc (by simp; omega) _)
            | false =>
              by_cases hz : n2 &&& oppN a = 0
              · have ez2 : (((n2 &&& oppN a : Nat) : Int) == 0) = true := by rw [beq_iff_eq]; omega
                have HF : Hid (srch (k + 1) l met = (false, n2)) := srch_against HTL.out HG.out HO.out HAE.out HW1.out HNW.out HG2.out (Or.inr hz)
                clear hz
                go_wp2
                refine bodyPost_ret (v := .agg #[.bool false, .int .u64 n2]) ?_ rfl ⟨false, n2, rfl, HF.out, ?_⟩
                · simp [results, Tryz.results45, go_sem, (res2 HBK2.out (.bool false) (.int .u64 n2) _).1, (res2 HBK2.out (.bool false) (.int .u64 n2) _).2]
                · exact (((HB2.out.setCell (Nat.le_refl _) _).setCell (Nat.le_refl _) _).alloc (by simp; omega) _)
              · have ez2 : (((n2 &&& oppN a : Nat) : Int) == 0) = false := by rw [beq_eq_false_iff_ne]; omega
                have HNG : Hid (¬ ((false, n2).1 = true ∨ (false, n2).2 &&& oppN a = 0)) := fun h => h.elim (fun h => by cases h) hz
                have HF : Hid (srch (k + 1) l met = (false, adN (n ||| n2) (a ||| oppN a))) := srch_both HTL.out HG.out HO.out HAE.out HW1.out HNW.out HG2.out HNG.out
                clear hz
                go_wp2
                refine bodyPost_ret (v := .agg #[.bool false, .int .u64 (adN (n ||| n2) (a ||| oppN a) : Nat)]) ?_ rfl ⟨false, adN (n ||| n2) (a ||| oppN a), rfl, HF.out, ?_⟩
                · simp [results, Tryz.results45, go_sem, (res2 HBK2.out (.bool false) (.int .u64 (adN (n ||| n2) (a ||| oppN a) : Nat)) _).1, (res2 HBK2.out (.bool false) (.int .u64 (adN (n ||| n2) (a ||| oppN a) : Nat)) _).2]
                · exact (((HB2.out.setCell (Nat.le_refl _) _).setCell (Nat.le_refl _) _).alloc (by simp; omega) _)

end Go.Proofs.YtenbnmbbfeekpabGreatDoor

namespace Go.Proofs.YtenbnmbbfeekpabGreatDoor
open Go.RowKit

theorem dcd_clash {l : List Nat} {a : Nat} (h : a &&& oppN a ≠ 0) : dcdN l a = (false, a &&& oppN a) := by unfold dcdN; rw [if_pos h]
theorem dcd_yes {l : List Nat} {a n : Nat} (h : ¬ (a &&& oppN a ≠ 0)) (hs : srch (2 ^ 52) l a = (true, n)) : dcdN l a = (true, n ||| unsd (orL a l) n) := by unfold dcdN; rw [if_neg h, hs]; rfl
theorem dcd_no {l : List Nat} {a n : Nat} (h : ¬ (a &&& oppN a ≠ 0)) (hs : srch (2 ^ 52) l a = (false, n)) : dcdN l a = (false, n) := by unfold dcdN; rw [if_neg h, hs]; rfl

set_option maxHeartbeats 6400000 in
set_option maxRecDepth 100000 in
theorem sv_Decide (ao : Option Addr) (cap : Nat) (l : List Nat) (a : Nat) (ha : a < 2 ^ 52) (w : World) (hl : UV w ao l) :
    Calls Tryz.prog 21 #[.slice ao l.length cap, .int .u64 a] w fun e w' => ∃ b n, e = .returned (.agg #[.bool b, .int .u64 ((n : Nat) : Int)]) ∧ dcdN l a = (b, n) ∧ Below w.heap.size w w' := by
  have HV : Hid (∀ w', Below w.heap.size w w' → UV w' ao l) := fun w' hb => hl.below hb
  have HB0 : Hid (Below w.heap.size w (w.alloc (.cells #[.bool false, .int .u64 0] 57))) := (Below.refl _ _).alloc (Nat.le_refl _) _
  have hoa := oppN_lt ha
  have a1 := bits_and_u64_nat a (oppN a) (by omega) (by omega)
  have h801 := hl.1
  have HCS : Hid (∀ c ∈ l, c < 2 ^ 52) := hl.2.1
  clear hl
  by_cases hz : a &&& oppN a ≠ 0
  · have ez : (((a &&& oppN a : Nat) : Int) != 0) = true := by rw [bne_iff_ne]; omega
    have HF : Hid (dcdN l a = (false, a &&& oppN a)) := dcd_clash hz
    clear hz
    go_enter Tryz.func21, Tryz.ntmps21
    go_wp2_with fail
    refine (Set_opposites a ha _).mono ?_
    rintro e w1 ⟨rfl, rfl⟩
    go_wp2
    refine bodyPost_ret (v := .agg #[.bool false, .int .u64 (a &&& oppN a : Nat)]) ?_ rfl ⟨false, a &&& oppN a, rfl, HF.out, ?_⟩
    · simp [results, Tryz.results21, go_sem]
    · exact (Below.refl _ _).alloc (Nat.le_refl _) _
  · have ez : (((a &&& oppN a : Nat) : Int) != 0) = false := by rw [bne_eq_false_iff_eq]; omega
    have HZ : Hid (¬ (a &&& oppN a ≠ 0)) := hz
    clear hz
    go_enter Tryz.func21, Tryz.ntmps21
    go_wp2_with fail
    refine (Set_opposites a ha _).mono ?_
    rintro e w1 ⟨rfl, rfl⟩
    go_wp2_with fail
    refine (sv_search ao cap l (2 ^ 52) a ha (by omega) _ (HV.out _ HB0.out)).mono ?_
    rintro e w1 ⟨b, n, rfl, hs, hbl⟩
    have HS : Hid (srch (2 ^ 52) l a = (b, n)) := hs
    have hn52 : n < 2 ^ 52 := by have := srch_lt l HCS.out (2 ^ 52) a ha; rw [hs] at this; exact this
    have HB1 : Hid (Below w.heap.size w w1) := HB0.out.trans (hbl.mono (by simp))
    have hbk : w1.heap[w.heap.size]? = some (.cells #[.bool false, .int .u64 0] 57 (0, 0)) := (hbl.block _ (by simp)).trans (blk_new _ _)
    have hltw := ltAt hbk
    have d0 : w1.cell? ⟨w.heap.size, 0, none⟩ = some (.bool false) := by rw [cellAt hbk]; rfl
    have d1 : w1.cell? ⟨w.heap.size, 1, none⟩ = some (.int .u64 0) := by rw [cellAt hbk]; rfl
    have f0 := freeAt hbk 0
    have f1 := freeAt hbk 1
    have HBK : Hid (w1.heap[w.heap.size]? = some (.cells #[.bool false, .int .u64 0] 57 (0, 0))) := hbk
    have HBA : Hid (Below w.heap.size w (w1.alloc (.cells #[.bool b, .int .u64 n] 57))) := HB1.out.alloc (by omega) _
    clear hbk hbl hs
    cases b with
    | false =>
      have HF : Hid (dcdN l a = (false, n)) := dcd_no HZ.out HS.out
      go_wp2
      refine bodyPost_ret (v := .agg #[.bool false, .int .u64 n]) ?_ rfl ⟨false, n, rfl, HF.out, ?_⟩
      · simp [results, Tryz.results21, go_sem, (res2 HBK.out (.bool false) (.int .u64 n) _).1, (res2 HBK.out (.bool false) (.int .u64 n) _).2]
      · exact (((HB1.out.setCell (Nat.le_refl _) _).setCell (Nat.le_refl _) _).alloc (by simp; omega) _)
    | true =>
      have HF : Hid (dcdN l a = (true, n ||| unsd (orL a l) n)) := dcd_yes HZ.out HS.out
      have hol := orL_lt l a ha HCS.out
      have hul : unsd (orL a l) n < 2 ^ 52 := by
        unfold unsd
        exact adN_lt (and_lt (or_lt hol (oppN_lt hol)))
      have o1 := bits_or_u64_nat n (unsd (orL a l) n) (by omega) (by omega)
      go_wp2_with fail
      refine (sv_allLiterals ao cap l a ha _ (HV.out _ HBA.out)).mono ?_
      rintro e w2 ⟨rfl, rfl⟩
      go_wp2_with fail
      have c1 : (w1.alloc (.cells #[.bool true, .int .u64 n] 57)).cell? ⟨w1.heap.size, 1, none⟩ = some (.int .u64 n) := by rw [cellAt (blk_new _ _)]; rfl
      go_region_with (first | (go_at_call 47; refine (sv_unsaid (orL a l) n hol hn52 _).mono ?_; rintro e w2 ⟨rfl, rfl⟩))
      all_goals (try go_wp2)
      all_goals
        refine bodyPost_ret (v := .agg #[.bool true, .int .u64 (n ||| unsd (orL a l) n : Nat)]) ?_ rfl ⟨true, n ||| unsd (orL a l) n, rfl, HF.out, ?_⟩
        · simp [results, Tryz.results21, go_sem, (res2 HBK.out (.bool true) (.int .u64 (n ||| unsd (orL a l) n : Nat)) _).1, (res2 HBK.out (.bool true) (.int .u64 (n ||| unsd (orL a l) n : Nat)) _).2]
        · exact Below.drew (((HB1.out.setCell (Nat.le_refl _) _).setCell (Nat.le_refl _) _).alloc (by simp; omega) _)

/-- Solve's three texts: refused for their length. -/
theorem rf_len {C A : List UInt8} (h : 800 < C.length ∨ 800 < A.length) : rfE C A = 1 := by
  unfold rfE
  by_cases h1 : 800 < C.length
  · rw [if_pos h1]
  · rw [if_neg h1, if_pos (h.resolve_left h1)]
theorem rf_cl {C A : List UInt8} (h1 : ¬ 800 < C.length) (h2 : ¬ 800 < A.length) (h : rdR C = none) : rfE C A = 8 := by
  unfold rfE
  rw [if_neg h1, if_neg h2]
  unfold rdR at h
  by_cases hl : lastB C = true
  · rw [if_pos hl] at h
    split at h
    · cases h
    · rename_i hc
      rw [if_pos (by simpa using hc)]
  · split
    · rfl
    · rw [if_pos (by simpa using hl)]
theorem rf_as {C A : List UInt8} {l : List Nat} (h1 : ¬ 800 < C.length) (h2 : ¬ 800 < A.length) (h : rdR C = some l) : l = clR 0 C ∧ rfE C A = if (A.all fun x => litB x.toNat) = true then 0 else 9 := by
  unfold rfE
  rw [if_neg h1, if_neg h2]
  unfold rdR at h
  by_cases hl : lastB C = true
  · rw [if_pos hl] at h
    split at h
    · rename_i hc
      injection h with h
      refine ⟨h.symm, ?_⟩
      rw [hc, hl]
      cases (A.all fun x => litB x.toNat) <;> rfl
    · cases h
  · rw [if_neg hl] at h; cases h
theorem slv_bad {C A : List UInt8} (h : rfE C A ≠ 0) : slvT C A = [] ∧ slvB C A = false := by
  unfold slvT slvB
  rw [if_neg h, if_neg h]
  exact ⟨rfl, rfl⟩
theorem slv_yes {C A : List UInt8} {n : Nat} (h : rfE C A = 0) (hd : dcdN (clR 0 C) (ltR 0 A) = (true, n)) : slvT C A = bvT n 26 0 ∧ slvB C A = true := by
  unfold slvT slvB
  rw [if_pos h, if_pos h, hd]
  exact ⟨rfl, rfl⟩
theorem slv_no {C A : List UInt8} {n : Nat} (h : rfE C A = 0) (hd : dcdN (clR 0 C) (ltR 0 A) = (false, n)) : slvT C A = bbT n 58 65 ∧ slvB C A = false := by
  unfold slvT slvB
  rw [if_pos h, if_pos h, hd]
  exact ⟨rfl, rfl⟩
theorem ret3 {a b : List UInt8} {x y : Bool} {m n : Nat} (h : b = a ∧ y = x) (hm : n = m) : Ending.returned (.tuple #[.string (bs a), .bool x, .int .i64 (m : Int)]) = .returned (.tuple #[.string (bs b), .bool y, .int .i64 (n : Int)]) := by
  rw [h.1, h.2, hm]
theorem bs_nil : bs [] = ByteArray.empty := rfl

end Go.Proofs.YtenbnmbbfeekpabGreatDoor

namespace Go.Proofs.YtenbnmbbfeekpabGreatDoor
open Go.RowKit

set_option maxHeartbeats 12800000 in
set_option maxRecDepth 100000 in
theorem up_Solve : SolveC slvT slvB := by
  intro C A w hCm hAm
  have hsC : (bs C).size = C.length := bs_size C
  have hsA : (bs A).size = A.length := bs_size A
  unfold maxLen at hCm hAm
  by_cases h1 : 800 < C.length
  · have e1 : (800 : Int) < (C.length : Int) := by omega
    have HF : Hid (rfE C A = 1) := rf_len (Or.inl h1)
    clear h1
    go_enter Tryz.func9, Tryz.ntmps9
    go_wp2
    refine bodyPost_ret (v := .tuple #[.string (bs []), .bool false, .int .i64 ((1 : Nat) : Int)]) ?_ rfl ⟨ret3 (slv_bad (by rw [HF.out]; decide)) HF.out, Below.refl _ _⟩
    simp [results, Tryz.results9, go_sem, bs_nil]; rfl
  have e1 : ¬ (800 : Int) < (C.length : Int) := by omega
  have d1 : decide (800 < C.length) = false := by simpa using h1
  by_cases h2 : 800 < A.length
  · have e2 : (800 : Int) < (A.length : Int) := by omega
    have HF : Hid (rfE C A = 1) := rf_len (Or.inr h2)
    clear h1 h2
    go_enter Tryz.func9, Tryz.ntmps9
    go_wp2
    refine bodyPost_ret (v := .tuple #[.string (bs []), .bool false, .int .i64 ((1 : Nat) : Int)]) ?_ rfl ⟨ret3 (slv_bad (by rw [HF.out]; decide)) HF.out, Below.refl _ _⟩
    simp [results, Tryz.results9, go_sem, bs_nil]; rfl
  have e2 : ¬ (800 : Int) < (A.length : Int) := by omega
  have d2 : decide (800 < A.length) = false := by simpa using h2
  have hC8 : C.length ≤ 800 := by omega
  have hA8 : A.length ≤ 800 := by omega
  cases hr : rdR C with
  | none =>
    have HF : Hid (rfE C A = 8) := rf_cl h1 h2 hr
    have HN : Hid (rdN C = 8) := rdN_none hr.symm
    clear h1 h2 hr
    go_enter Tryz.func9, Tryz.ntmps9
    go_wp2_with fail
    refine (sv_Read C _ hC8).mono ?_
    rintro e w1 ⟨ao, n, cap, rfl, hb1, _⟩
    have HB : Hid (Below w.heap.size w w1) := hb1
    rw [HN.out]
    go_wp2_with fail
    go_quiet (fail)
    go_wp2
    refine bodyPost_ret (v := .tuple #[.string (bs []), .bool false, .int .i64 ((8 : Nat) : Int)]) ?_ rfl ⟨ret3 (slv_bad (by rw [HF.out]; decide)) HF.out, (HB.out.alloc HB.out.size _).trans ⟨rfl, rfl, rfl, Nat.le_refl _, fun _ _ => rfl⟩⟩
    simp [results, Tryz.results9, go_sem, bs_nil]; rfl
  | some l =>
    obtain ⟨hle, hrf⟩ := rf_as (A := A) h1 h2 hr
    have HN : Hid (rdN C = 0) := rdN_some hr.symm
    have HR : Hid (rdR C = some l) := hr
    have HLE : Hid (l = clR 0 C) := hle
    clear h1 h2 hr hle
    cases ha : A.all fun x => litB x.toNat with
    | false =>
      have HF : Hid (rfE C A = 9) := by show _ = _; rw [hrf, ha]; rfl
      have HA : Hid ((A.all fun x => litB x.toNat) = false) := ha
      clear hrf ha
      go_enter Tryz.func9, Tryz.ntmps9
      go_wp2_with fail
      refine (sv_Read C _ hC8).mono ?_
      rintro e w1 ⟨ao, n, cap, rfl, hb1, _⟩
      have HB : Hid (Below w.heap.size w w1) := hb1
      have hws := hb1.size
      rw [HN.out]
      clear hb1
      go_wp2_with fail
      refine (sv_ReadAssumption A _ hA8).mono ?_
      rintro e w2 ⟨hb2, rfl⟩
      rw [HA.out, if_neg (by decide)]
      have HB2 : Hid (Below w.heap.size w w2) := (HB.out.alloc hws _).trans (hb2.mono (by simp; omega))
      clear hb2
      go_wp2_with fail
      go_quiet (fail)
      go_wp2
      refine bodyPost_ret (v := .tuple #[.string (bs []), .bool false, .int .i64 ((9 : Nat) : Int)]) ?_ rfl ⟨ret3 (slv_bad (by rw [HF.out]; decide)) HF.out, (HB2.out.alloc HB2.out.size _).trans ⟨rfl, rfl, rfl, Nat.le_refl _, fun _ _ => rfl⟩⟩
      simp [results, Tryz.results9, go_sem, bs_nil]; rfl
    | true =>
      have HF : Hid (rfE C A = 0) := by show _ = _; rw [hrf, ha]; rfl
      have HA : Hid ((A.all fun x => litB x.toNat) = true) := ha
      have hal := ltR_lt A 0 (by decide)
      have HDL : Hid ((dcdN (clR 0 C) (ltR 0 A)).2 < 2 ^ 52) := dcd_lt hal (clR_lt C 0 (by decide))
      clear hrf ha
      go_enter Tryz.func9, Tryz.ntmps9
      go_wp2_with fail
      refine (sv_Read C _ hC8).mono ?_
      rintro e w1 ⟨ao, n, cap, rfl, hb1, huu⟩
      obtain ⟨ao', cap', hsl, hu⟩ := huu l HR.out
      injection hsl with q1 q2 q3
      subst q1 q2 q3
      have HU : Hid (∀ w', Below w1.heap.size w1 w' → UV w' ao l) := fun w' hb => hu.below hb
      have HB : Hid (Below w.heap.size w w1) := hb1
      have hws := hb1.size
      rw [HN.out]
      have HKA : Hid ((w1.alloc (.cells #[.slice ao l.length cap, .int .i64 0] 49)).heap[w1.heap.size]? = some (.cells #[.slice ao l.length cap, .int .i64 0] 49 (0, 0))) := blk_new _ _
      clear hb1 hu huu
      go_wp2_with fail
      refine (sv_ReadAssumption A _ hA8).mono ?_
      rintro e w2 ⟨hb2, rfl⟩
      rw [HA.out, if_pos rfl]
      have HK2 : Hid (w2.heap[w1.heap.size]? = some (.cells #[.slice ao l.length cap, .int .i64 0] 49 (0, 0))) := (hb2.block _ (by simp)).trans HKA.out
      have y0 : w2.cell? ⟨w1.heap.size, 0, none⟩ = some (.slice ao l.length cap) := (cellAt HK2.out 0).trans rfl
      have hl2 := ltAt HK2.out
      have HB12 : Hid (Below w1.heap.size w1 w2) := ((Below.refl _ _).alloc (Nat.le_refl _) _).trans (hb2.mono (by simp))
      have HB2 : Hid (Below w.heap.size w w2) := HB.out.trans (HB12.out.mono hws)
      have HB3 : Hid (Below w1.heap.size w1 (w2.alloc (.cells #[.int .u64 (ltR 0 A : Nat), .int .i64 0] 54))) := HB12.out.alloc HB12.out.size _
      have HB3w : Hid (Below w.heap.size w (w2.alloc (.cells #[.int .u64 (ltR 0 A : Nat), .int .i64 0] 54))) := HB2.out.alloc HB2.out.size _
      clear hb2 HKA
      obtain ⟨a, hae⟩ : ∃ a, ltR 0 A = a := ⟨_, rfl⟩
      have HAE : Hid (ltR 0 A = a) := hae
      rw [hae] at hal ⊢
      rw [hae] at HB3 HB3w
      clear hae
      go_wp2_with fail
      refine (sv_Decide ao cap l a hal _ (HU.out _ HB3.out)).mono ?_
      rintro e w3 ⟨b, n, rfl, hd, hb3⟩
      have HD : Hid (dcdN (clR 0 C) (ltR 0 A) = (b, n)) := by show _ = _; rw [← HLE.out, HAE.out]; exact hd
      have hn52 : n < 2 ^ 52 := by have := HDL.out; rw [HD.out] at this; exact this
      have HB4 : Hid (Below w.heap.size w w3) := HB3w.out.trans (hb3.mono (by simp; have := HB2.out.size; omega))
      have HB5 : Hid (Below w.heap.size w (w3.alloc (.cells #[.bool b, .int .u64 n] 57))) := HB4.out.alloc HB4.out.size _
      clear hb3 hd
      cases b with
      | false =>
        have HT : Hid (slvT C A = bbT n 58 65 ∧ slvB C A = false) := slv_no HF.out HD.out
        go_wp2_with fail
        refine (Set_ByBytes n hn52 _).mono ?_
        rintro e w4 ⟨rfl, hb4⟩
        have HB6 : Hid (Below w.heap.size w w4) := HB5.out.trans (hb4.mono (by simp; have := HB4.out.size; omega))
        clear hb4
        go_wp2
        refine bodyPost_ret (v := .tuple #[.string (bs (bbT n 58 65)), .bool false, .int .i64 ((0 : Nat) : Int)]) ?_ rfl ⟨ret3 HT.out HF.out, HB6.out⟩
        simp [results, Tryz.results9, go_sem]
      | true =>
        have HT : Hid (slvT C A = bvT n 26 0 ∧ slvB C A = true) := slv_yes HF.out HD.out
        go_wp2_with fail
        refine (Set_ByVariables n hn52 _).mono ?_
        rintro e w4 ⟨rfl, hb4⟩
        have HB6 : Hid (Below w.heap.size w w4) := HB5.out.trans (hb4.mono (by simp; have := HB4.out.size; omega))
        clear hb4
        go_wp2
        refine bodyPost_ret (v := .tuple #[.string (bs (bvT n 26 0)), .bool true, .int .i64 ((0 : Nat) : Int)]) ?_ rfl ⟨ret3 HT.out HF.out, HB6.out⟩
        simp [results, Tryz.results9, go_sem]

end Go.Proofs.YtenbnmbbfeekpabGreatDoor
