import Derived.Test.YtdfnnpakdbhhpaaGreatDoorRdE
namespace Go.Proofs.YtdfnnpakdbhhpaaGreatDoor
open Go.RowKit

structure NmR (B : Nat) (w wr : World) (s : ByteArray) (st0 : St) (gk : Nat) (o : Value) (b : Bool) (acc : List Nat) (st : St) : Prop where
  le : st.1 ≤ s.size
  rd : Rd B wr s st.1 st.2
  own : wr.ownsRow w.heap.size 5 1 o acc.length (acc.map fun (c : Nat) => .int .u8 (c : Int))
  kp : Kp B w wr
  eq : nmsF s.data.toList st0 = (acc ++ (nsF s.data.toList gk b st).1, (nsF s.data.toList gk b st).2)
  yes : b = true → s.size - st.1 < gk ∧ acc.length ≤ st.1
  no : acc.length ≤ st.1 + 1

theorem nmR_step {B : Nat} {w wr w2 : World} {s : ByteArray} {st0 : St} {gk : Nat} {o v' : Value} {acc : List Nat} {st : St} (h : NmR B w wr s st0 gk o true acc st)
    (own : w2.ownsRow w.heap.size 5 1 v' (acc.length + 1) ((acc.map fun (c : Nat) => .int .u8 (c : Int)) ++ [.int .u8 (naV s.data.toList st.1 st.2)]))
    (rd : Rd B w2 s (acI s.data.toList 44 (naS s.data.toList st).1 (naS s.data.toList st).2) (naS s.data.toList st).2) (kp : Kp B w w2) :
    NmR B w w2 s st0 (gk - 1) v' (acB s.data.toList 44 (naS s.data.toList st).1 (naS s.data.toList st).2) (acc ++ [naV s.data.toList st.1 st.2]) (acS s.data.toList 44 (naS s.data.toList st)) := by
  obtain ⟨hg, ha⟩ := h.yes rfl
  have hge : st.1 ≤ (naS s.data.toList st).1 := naI_ge s.data.toList st.1 st.2
  have hle : (naS s.data.toList st).1 ≤ s.size := naI_le s st.1 st.2 h.le
  have hle' := acI_le s 44 _ (naS s.data.toList st).2 hle
  have hge' := acI_ge s.data.toList 44 (naS s.data.toList st).1 (naS s.data.toList st).2
  obtain ⟨f, rfl⟩ : ∃ f, gk = f + 1 := ⟨gk - 1, by omega⟩
  have hy := h.eq
  rw [nsF_yes] at hy
  refine ⟨hle', rd, by simpa using own, kp, by rw [hy]; simp, fun hb => ?_, ?_⟩
  · have := acI_yes hb
    simp only [acS, this, List.length_append, List.length_cons, List.length_nil] at hle' ⊢
    omega
  · simp only [acS, List.length_append, List.length_cons, List.length_nil]
    omega

set_option maxHeartbeats 1600000 in
set_option maxRecDepth 100000 in
theorem rd_names (B : Nat) (s : ByteArray) (st0 : St) (w : World) (hs : s.size ≤ 800) (hi : st0.1 ≤ s.size) (hr : Rd B w s st0.1 st0.2) :
    Calls Tryz.prog 105 #[.pointer (some ⟨B, 0, none⟩)] w fun e w' => ∃ v, e = .returned v ∧ BsAt B w' v (nmsF s.data.toList st0).1 ∧
      Rd B w' s (nmsF s.data.toList st0).2.1 (nmsF s.data.toList st0).2.2 ∧ Kp B w w' ∧ (nmsF s.data.toList st0).2.1 ≤ s.size ∧ (nmsF s.data.toList st0).1.length ≤ 801 := by
  obtain ⟨i0, hi0, hz0, hz1, hz2⟩ := info_parts Tryz.infoU8
  have HR : Hid (Rd B w s st0.1 st0.2) := hr
  have hB := hr.lt
  clear hr
  go_enter Tryz.func105, Tryz.ntmps105
  go_wp2_with (go_at_call 73; refine (rd_nameAhead B s st0.1 st0.2 _ hs hi HR.out).mono ?_; rintro e w' ⟨rfl, n, rfl⟩)
  go_loopg [3, 4] (s.size + 2) (fun gk o m wr => ∃ (b : Bool) (acc : List Nat) (st : St), m = .bool b ∧ NmR B w wr s st0 gk o b acc st)
  case atStart => exact ⟨_, [], st0, rfl, hi, HR.out.drewN n, World.ownsRow_nil _ _ _ _, (Kp.refl _ _).drewN n, by rw [show s.size = s.data.toList.length from (sz s).symm]; simp [nmsF], fun _ => ⟨by omega, by simp⟩, by simp⟩
  case round =>
    obtain ⟨b, acc, st, rfl, hA⟩ := hrel
    have HA : Hid (NmR B w wr s st0 gk _ b acc st) := hA
    cases b
    · clear hA
      go_wp2
      go_ret
      have h1 := HA.out.eq
      rw [nsF_no] at h1
      rw [h1]
      refine ⟨_, rfl, ?_, HA.out.rd, HA.out.kp, HA.out.le, ?_⟩
      · unfold BsAt; simpa using own_mono HA.out.own (show B + 1 ≤ w.heap.size from hB)
      · have := HA.out.le; have := HA.out.no; simp; omega
    · have hle := hA.le
      have hal := (hA.yes rfl).2
      have hgk := (hA.yes rfl).1
      clear hA
      go_wp2_with fail
      refine (rd_name B s st.1 st.2 _ hs hle HA.out.rd).mono ?_
      rintro e w1 ⟨rfl, hr1, hk1⟩
      have hwr := HA.out.kp.size
      have hown := own_kp HA.out.own hk1 hB
      have hsz1 : w.heap.size ≤ w1.heap.size := (HA.out.kp.trans hk1).size
      have HR1 : Hid (Rd B w1 s (naS s.data.toList st).1 (naS s.data.toList st).2) := hr1
      have HK1 : Hid (Kp B w w1) := HA.out.kp.trans hk1
      clear hr1 hk1
      go_wp2_with (at_builtin; refine wpList_append_own _ rfl _ _ 59 rfl w.heap.size 5 i0 (.int .u8 0) 1 1 Tryz.underlying59 hi0 hz0 hz1 hz2 rfl (by decide) _ _ _ rfl (hown.alloc _) ⟨w1.heap.size, 0, none⟩ 1 1 [.int .u8 (naV s.data.toList st.1 st.2)] rfl rfl ?c1 ?c2 ?c3 ?c4 ?c5 ?_)
      case c1 => exact cell_one_new _ _ _
      case c2 => intro u hu; simp at hu; subst hu; rfl
      case c3 => unfold maxLen; omega
      case c4 => omega
      case c5 => simp; omega
      intro v' w2 hown' hgrow _
      have HR2 : Hid (Rd B w2 s (naS s.data.toList st).1 (naS s.data.toList st).2) := (HR1.out.alloc _).grown hgrow (fun e => by have := (hown.lt B e).1; omega)
      have HK2 : Hid (Kp B w w2) := Kp.grown (HK1.out.alloc _) hgrow (fun k hk => (hown.lt k hk).1)
      have HO2 : Hid _ := hown'
      clear hown' hgrow hown HR1 HK1
      go_wp2_with fail
      refine (rd_accept B s (naS s.data.toList st).1 (naS s.data.toList st).2 44 44 rfl _ hs (naI_le s st.1 st.2 hle) HR2.out).mono ?_
      rintro e w3 ⟨rfl, hr3, hk3⟩
      have HR3 : Hid _ := nmR_step HA.out (own_kp HO2.out hk3 hB) hr3 (HK2.out.trans hk3)
      clear HA hr3 hk3 HR2 HK2 HO2
      go_wp2
      go_roundg (gk - 1)
      case measure => omega
      case rel => exact ⟨_, _, _, rfl, HR3.out⟩

end Go.Proofs.YtdfnnpakdbhhpaaGreatDoor
