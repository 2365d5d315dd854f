import Derived.Test.YtdfnnpakdbhhpaaGreatDoorRdC
import Derived.Deep.LoopGhost
namespace Go.Proofs.YtdfnnpakdbhhpaaGreatDoor
open Go.RowKit

theorem Tryz.infoCn : (Tryz.prog.info? 121).map (fun i => (i.zero, i.size, i.bytes)) = some (some (.agg #[.int .u8 0, .int .u8 0, .int .u8 0]), 3, 3) := by kernel_rfl

/-- What holds at the head of a round of a list of constraints. -/
structure ApR (B : Nat) (w wr : World) (s : ByteArray) (x : Nat) (st0 : St) (gk : Nat) (o : Value) (b : Bool) (acc : List Cn) (st : St) : Prop where
  le : st.1 ≤ s.size
  rd : Rd B wr s st.1 st.2
  own : wr.ownsRow w.heap.size 121 3 o acc.length (cnFlat acc)
  kp : Kp B w wr
  yes : b = true → apT s.data.toList x st0 = (acc ++ (apF s.data.toList x gk st).1, (apF s.data.toList x gk st).2) ∧ s.size - st.1 < gk ∧ acc.length ≤ st.1
  no : b = false → apT s.data.toList x st0 = (acc, st) ∧ acc.length ≤ st.1 + 1

theorem apR_step {B : Nat} {w wr w2 : World} {s : ByteArray} {x : Nat} {st0 : St} {gk : Nat} {o v' : Value} {acc : List Cn} {st : St} (h : ApR B w wr s x st0 gk o true acc st)
    (own : w2.ownsRow w.heap.size 121 3 v' (acc.length + 1) (cnFlat acc ++ cnCells (cnV s.data.toList st)))
    (rd : Rd B w2 s (acI s.data.toList x (cnS s.data.toList st).1 (cnS s.data.toList st).2) (cnS s.data.toList st).2) (kp : Kp B w w2) :
    ApR B w w2 s x st0 (gk - 1) v' (acB s.data.toList x (cnS s.data.toList st).1 (cnS s.data.toList st).2) (acc ++ [cnV s.data.toList st]) (acS s.data.toList x (cnS s.data.toList st)) := by
  obtain ⟨hy, hg, ha⟩ := h.yes rfl
  have hle := acI_le s x (cnS s.data.toList st).1 (cnS s.data.toList st).2 (cnS_le s st h.le)
  have hge := cnS_ge s.data.toList st
  obtain ⟨f, rfl⟩ : ∃ f, gk = f + 1 := ⟨gk - 1, by omega⟩
  refine ⟨hle, rd, ?_, kp, fun hb => ?_, fun hb => ?_⟩
  · rw [cnFlat_snoc]; simpa using own
  · have := acI_yes hb
    rw [apF_yes hb] at hy
    refine ⟨by rw [hy]; simp, ?_, ?_⟩
    · simp only [acS, this] at hle ⊢; omega
    · simp only [acS, this, List.length_append, List.length_cons, List.length_nil]; omega
  · have := acI_no hb
    rw [apF_no hb] at hy
    refine ⟨by rw [hy], ?_⟩
    simp only [acS, this, List.length_append, List.length_cons, List.length_nil]; omega

set_option maxHeartbeats 1600000 in
set_option maxRecDepth 100000 in
theorem rd_apart (B : Nat) (s : ByteArray) (st0 : St) (x : Nat) (xi : Int) (hx : xi = (x : Int)) (w : World) (hs : s.size ≤ 800) (hi : st0.1 ≤ s.size) (hr : Rd B w s st0.1 st0.2) :
    Calls Tryz.prog 107 #[.pointer (some ⟨B, 0, none⟩), .int .u8 xi] w fun e w' => ∃ v, e = .returned v ∧
      w'.ownsRow w.heap.size 121 3 v (apT s.data.toList x st0).1.length (cnFlat (apT s.data.toList x st0).1) ∧
      Rd B w' s (apT s.data.toList x st0).2.1 (apT s.data.toList x st0).2.2 ∧ Kp B w w' ∧
      (apT s.data.toList x st0).2.1 ≤ s.size ∧ (apT s.data.toList x st0).1.length ≤ 801 := by
  have HX : Hid (xi = (x : Int)) := hx
  clear hx
  obtain ⟨i0, hi0, hz0, hz1, hz2⟩ := info_parts Tryz.infoCn
  have HR : Hid (Rd B w s st0.1 st0.2) := hr
  have hB := hr.lt
  clear hr
  go_enter Tryz.func107, Tryz.ntmps107
  go_wp2
  go_loopg [5, 6] (s.size + 2) (fun gk o m wr => ∃ (b : Bool) (acc : List Cn) (st : St), m = .bool b ∧ ApR B w wr s x st0 gk o b acc st)
  case atStart => exact ⟨true, [], st0, rfl, hi, HR.out, World.ownsRow_nil _ _ _ _, Kp.refl _ _, fun _ => ⟨by rw [show s.size = s.data.toList.length from (sz s).symm]; simp [apT], by omega, by simp⟩, fun h => by cases h⟩
  case round =>
    obtain ⟨b, acc, st, rfl, hA⟩ := hrel
    have HA : Hid (ApR B w wr s x st0 gk _ b acc st) := hA
    cases b
    · clear hA
      go_wp2
      go_ret
      obtain ⟨h1, h2⟩ := HA.out.no rfl
      rw [h1]
      exact ⟨_, rfl, HA.out.own, HA.out.rd, HA.out.kp, HA.out.le, by have := HA.out.le; show acc.length ≤ 801; omega⟩
    · have hle := hA.le
      have hal := (hA.yes rfl).2.2
      have hgk := (hA.yes rfl).2.1
      clear hA
      go_wp2_with fail
      refine (rd_constraint B s st _ hs hle HA.out.rd).mono ?_
      rintro e w1 ⟨rfl, hr1, hk1⟩
      have hown := own_kp HA.out.own hk1 hB
      have hsz1 : w.heap.size ≤ w1.heap.size := (HA.out.kp.trans hk1).size
      have HR1 : Hid (Rd B w1 s (cnS s.data.toList st).1 (cnS s.data.toList st).2) := hr1
      have HK1 : Hid (Kp B w w1) := HA.out.kp.trans hk1
      clear hr1 hk1
      unfold cnVal
      go_wp2_with (at_builtin; refine wpList_append_own _ rfl _ _ 48 rfl w.heap.size 121 i0 (.agg #[.int .u8 0, .int .u8 0, .int .u8 0]) 3 3 Tryz.underlying48 hi0 hz0 hz1 hz2 rfl (by decide) _ _ _ rfl ((hown.alloc _).alloc _) ⟨w1.heap.size + 1, 0, none⟩ 1 1 (cnCells (cnV s.data.toList st)) rfl rfl ?c1 ?c2 ?c3 ?c4 ?c5 ?_)
      case c1 => have := cell_new (w1.alloc (.cells (cnCells (cnV s.data.toList st)).toArray 121)) (cnCells (cnV s.data.toList st)) 121; rw [World.size_alloc] at this; exact this
      case c2 => intro u hu; simp [cnCells] at hu; rcases hu with rfl | rfl | rfl <;> rfl
      case c3 => unfold maxLen; omega
      case c4 => omega
      case c5 => simp; omega
      intro v' w2 hown' hgrow _
      have HR2 : Hid (Rd B w2 s (cnS s.data.toList st).1 (cnS s.data.toList st).2) := ((HR1.out.alloc _).alloc _).grown hgrow (fun e => by have := (hown.lt B e).1; omega)
      have HK2 : Hid (Kp B w w2) := Kp.grown ((HK1.out.alloc _).alloc _) hgrow (fun k hk => (hown.lt k hk).1)
      have HO2 : Hid _ := hown'
      clear hown' hgrow hown HR1 HK1
      go_wp2_with fail
      refine (rd_accept B s (cnS s.data.toList st).1 (cnS s.data.toList st).2 x _ HX.out _ hs (cnS_le s st hle) HR2.out).mono ?_
      rintro e w3 ⟨rfl, hr3, hk3⟩
      have HR3 : Hid _ := apR_step HA.out (own_kp HO2.out hk3 hB) hr3 (HK2.out.trans hk3)
      clear HA hr3 hk3 HR2 HK2 HO2
      go_wp2
      go_roundg (gk - 1)
      case measure => omega
      case rel => exact ⟨_, _, _, rfl, HR3.out⟩

end Go.Proofs.YtdfnnpakdbhhpaaGreatDoor
