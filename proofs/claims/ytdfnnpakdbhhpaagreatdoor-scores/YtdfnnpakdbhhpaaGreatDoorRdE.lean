import Derived.Test.YtdfnnpakdbhhpaaGreatDoorRdD
import Derived.Test.YtdfnnpakdbhhpaaGreatDoorRepM
namespace Go.Proofs.YtdfnnpakdbhhpaaGreatDoor
open Go.RowKit

theorem Tryz.infoNd : (Tryz.prog.info? 124).map (fun i => (i.zero, i.size, i.bytes)) = some (some (.agg #[.slice none 0 0]), 1, 24) := by kernel_rfl
theorem Tryz.infoU8 : (Tryz.prog.info? 5).map (fun i => (i.zero, i.size, i.bytes)) = some (some (.int .u8 0), 1, 1) := by kernel_rfl

set_option maxHeartbeats 400000 in
theorem rd_constraints (B : Nat) (s : ByteArray) (st : St) (w : World) (hs : s.size ≤ 800) (hi : st.1 ≤ s.size) (hr : Rd B w s st.1 st.2) :
    Calls Tryz.prog 76 #[.pointer (some ⟨B, 0, none⟩)] w fun e w' => ∃ v, e = .returned v ∧ CsAt B w' v (csF s.data.toList st).1 ∧
      Rd B w' s (csF s.data.toList st).2.1 (csF s.data.toList st).2.2 ∧ Kp B w w' ∧ (csF s.data.toList st).2.1 ≤ s.size ∧ (csF s.data.toList st).1.length ≤ 801 := by
  have HR : Hid (Rd B w s st.1 st.2) := hr
  have hB := hr.lt
  clear hr
  by_cases h : naB s.data.toList st.1 st.2 = true
  · have HC : Hid (csF s.data.toList st = apT s.data.toList 44 st) := by show _ = _; unfold csF; rw [if_pos h]
    go_enter Tryz.func76, Tryz.ntmps76
    go_wp2_with (go_at_call 73; refine (rd_nameAhead B s st.1 st.2 _ hs hi HR.out).mono ?_; rintro e w' ⟨rfl, n, rfl⟩)
    go_wp2_with fail
    refine (rd_apart B s st 44 44 rfl _ hs hi (HR.out.drewN n)).mono ?_
    rintro e w1 ⟨v, rfl, ho, hr1, hk1, hl1, hn1⟩
    go_wp2
    go_ret
    refine ⟨v, rfl, ?_⟩
    rw [HC.out]
    exact ⟨own_mono ho (show B + 1 ≤ w.heap.size from hB), hr1, (((Kp.refl B w).drewN n).trans hk1), hl1, hn1⟩
  · simp only [Bool.not_eq_true] at h
    have HC : Hid (csF s.data.toList st = ([], st)) := by show _ = _; unfold csF; rw [if_neg (by simp [h])]
    go_enter Tryz.func76, Tryz.ntmps76
    go_wp2_with (go_at_call 73; refine (rd_nameAhead B s st.1 st.2 _ hs hi HR.out).mono ?_; rintro e w' ⟨rfl, n, rfl⟩)
    go_ret
    refine ⟨_, rfl, ?_⟩
    rw [HC.out]
    exact ⟨World.ownsRow_nil _ _ _ _, HR.out.drewN n, (Kp.refl B w).drewN n, hi, by simp⟩

structure NdR (B : Nat) (w wr : World) (s : ByteArray) (st0 : St) (gk : Nat) (o : Value) (b : Bool) (acc : List (List Cn)) (vs : List Value) (st : St) : Prop where
  le : st.1 ≤ s.size
  rd : Rd B wr s st.1 st.2
  own : wr.ownsRow w.heap.size 124 1 o acc.length vs
  all : All2 (CsAt B wr) vs acc
  kp : Kp B w wr
  eq : neF s.data.toList st0 = (acc ++ (ndF s.data.toList gk b st).1, (ndF s.data.toList gk b st).2)
  yes : b = true → s.size - st.1 < gk ∧ acc.length ≤ st.1
  no : acc.length ≤ st.1 + 1

theorem ndR_step {B : Nat} {w wr w2 : World} {s : ByteArray} {st0 : St} {gk : Nat} {o v' v : Value} {acc : List (List Cn)} {vs : List Value} {st : St} (h : NdR B w wr s st0 gk o true acc vs st)
    (own : w2.ownsRow w.heap.size 124 1 v' (acc.length + 1) (vs ++ [v])) (all : All2 (CsAt B w2) (vs ++ [v]) (acc ++ [(apT s.data.toList 124 st).1]))
    (hle : (apT s.data.toList 124 st).2.1 ≤ s.size)
    (rd : Rd B w2 s (acI s.data.toList 44 (apT s.data.toList 124 st).2.1 (apT s.data.toList 124 st).2.2) (apT s.data.toList 124 st).2.2) (kp : Kp B w w2) :
    NdR B w w2 s st0 (gk - 1) v' (acB s.data.toList 44 (apT s.data.toList 124 st).2.1 (apT s.data.toList 124 st).2.2) (acc ++ [(apT s.data.toList 124 st).1]) (vs ++ [v]) (acS s.data.toList 44 (apT s.data.toList 124 st).2) := by
  obtain ⟨hg, ha⟩ := h.yes rfl
  have hge := apT_ge s.data.toList 124 st
  have hle' := acI_le s 44 _ (apT s.data.toList 124 st).2.2 hle
  have hge' := acI_ge s.data.toList 44 (apT s.data.toList 124 st).2.1 (apT s.data.toList 124 st).2.2
  obtain ⟨f, rfl⟩ : ∃ f, gk = f + 1 := ⟨gk - 1, by omega⟩
  have hy := h.eq
  rw [ndF_yes] at hy
  refine ⟨hle', rd, by simpa using own, all, kp, by rw [hy]; simp, fun hb => ?_, ?_⟩
  · have := acI_yes hb
    simp only [acS, this, List.length_append, List.length_cons, List.length_nil] at hle' ⊢
    omega
  · simp only [acS, List.length_append, List.length_cons, List.length_nil]
    omega

set_option maxHeartbeats 1600000 in
set_option maxRecDepth 100000 in
theorem rd_needs (B : Nat) (s : ByteArray) (st0 : St) (w : World) (hs : s.size ≤ 800) (hi : st0.1 ≤ s.size) (hr : Rd B w s st0.1 st0.2) :
    Calls Tryz.prog 104 #[.pointer (some ⟨B, 0, none⟩)] w fun e w' => ∃ v, e = .returned v ∧ NsAt B w' v (neF s.data.toList st0).1 ∧
      Rd B w' s (neF s.data.toList st0).2.1 (neF s.data.toList st0).2.2 ∧ Kp B w w' ∧ (neF s.data.toList st0).2.1 ≤ s.size ∧ (neF s.data.toList st0).1.length ≤ 801 := by
  obtain ⟨i0, hi0, hz0, hz1, hz2⟩ := info_parts Tryz.infoNd
  have HR : Hid (Rd B w s st0.1 st0.2) := hr
  have hB := hr.lt
  clear hr
  go_enter Tryz.func104, Tryz.ntmps104
  go_wp2_with (go_at_call 73; refine (rd_nameAhead B s st0.1 st0.2 _ hs hi HR.out).mono ?_; rintro e w' ⟨rfl, n, rfl⟩)
  go_loopg [3, 4] (s.size + 2) (fun gk o m wr => ∃ (b : Bool) (acc : List (List Cn)) (vs : List Value) (st : St), m = .bool b ∧ NdR B w wr s st0 gk o b acc vs st)
  case atStart => exact ⟨_, [], [], st0, rfl, hi, HR.out.drewN n, World.ownsRow_nil _ _ _ _, trivial, (Kp.refl _ _).drewN n, by rw [show s.size = s.data.toList.length from (sz s).symm]; simp [neF], fun _ => ⟨by omega, by simp⟩, by simp⟩
  case round =>
    obtain ⟨b, acc, vs, st, rfl, hA⟩ := hrel
    have HA : Hid (NdR B w wr s st0 gk _ b acc vs st) := hA
    cases b
    · clear hA
      go_wp2
      go_ret
      have h1 := HA.out.eq
      rw [ndF_no] at h1
      rw [h1]
      refine ⟨_, rfl, ⟨vs, ?_, ?_⟩, HA.out.rd, HA.out.kp, HA.out.le, ?_⟩
      · simpa using own_mono HA.out.own (by omega)
      · simpa using HA.out.all
      · have := HA.out.le; have := HA.out.no; simp; omega
    · have hle := hA.le
      have hal := (hA.yes rfl).2
      have hgk := (hA.yes rfl).1
      clear hA
      go_wp2_with fail
      refine (rd_apart B s st 124 124 rfl _ hs hle HA.out.rd).mono ?_
      rintro e w1 ⟨v, rfl, ho1, hr1, hk1, hl1, hn1⟩
      have hwr := HA.out.kp.size
      have hown := own_kp HA.out.own hk1 hB
      have HC1 : Hid (CsAt B w1 v (apT s.data.toList 124 st).1) := own_mono ho1 (by omega)
      have HO1 : Hid (All2 (CsAt B w1) vs acc) := HA.out.all.mono fun _ _ h => h.kp hk1
      have hsz1 : w.heap.size ≤ w1.heap.size := (HA.out.kp.trans hk1).size
      have HR1 : Hid (Rd B w1 s (apT s.data.toList 124 st).2.1 (apT s.data.toList 124 st).2.2) := hr1
      have HK1 : Hid (Kp B w w1) := HA.out.kp.trans hk1
      obtain ⟨ao, nn, cc, hv⟩ : ∃ ao nn cc, v = .slice ao nn cc := by
        rcases ho1.2 with ⟨rfl, _⟩ | ⟨g, cap, cur, rfl, _⟩
        · exact ⟨_, _, _, rfl⟩
        · exact ⟨_, _, _, rfl⟩
      subst hv
      clear hr1 hk1 ho1
      go_wp2_with (at_builtin; refine wpList_append_own _ rfl _ _ 86 rfl w.heap.size 124 i0 (.agg #[.slice none 0 0]) 1 24 Tryz.underlying86 hi0 hz0 hz1 hz2 rfl (by decide) _ _ _ rfl (hown.alloc _) ⟨w1.heap.size, 0, none⟩ 1 1 [.slice ao nn cc] rfl rfl ?c1 ?c2 ?c3 ?c4 ?c5 ?_)
      case c1 => exact cell_one_new _ _ _
      case c2 => intro u hu; simp at hu; subst hu; rfl
      case c3 => unfold maxLen; omega
      case c4 => omega
      case c5 => simp; omega
      intro v' w2 hown' hgrow _
      have HR2 : Hid (Rd B w2 s (apT s.data.toList 124 st).2.1 (apT s.data.toList 124 st).2.2) := (HR1.out.alloc _).grown hgrow (fun e => by have := (hown.lt B e).1; omega)
      have HK2 : Hid (Kp B w w2) := Kp.grown (HK1.out.alloc _) hgrow (fun k hk => (hown.lt k hk).1)
      have HL2 : Hid (All2 (CsAt B w2) (vs ++ [.slice ao nn cc]) (acc ++ [(apT s.data.toList 124 st).1])) :=
        All2.snoc ((HC1.out.alloc _).other (hown.alloc _) (by decide) hgrow) (HO1.out.mono fun _ _ h => (h.alloc _).other (hown.alloc _) (by decide) hgrow)
      have HO2 : Hid _ := hown'
      clear hown' hgrow hown HR1 HK1 HC1 HO1
      go_wp2_with fail
      refine (rd_accept B s (apT s.data.toList 124 st).2.1 (apT s.data.toList 124 st).2.2 44 44 rfl _ hs hl1 HR2.out).mono ?_
      rintro e w3 ⟨rfl, hr3, hk3⟩
      have HR3 : Hid _ := ndR_step HA.out (own_kp HO2.out hk3 hB) (HL2.out.mono fun _ _ h => h.kp hk3) hl1 hr3 (HK2.out.trans hk3)
      clear HA hr3 hk3 HR2 HK2 HO2 HL2
      go_wp2
      go_roundg (gk - 1)
      case measure => omega
      case rel => exact ⟨_, _, _, _, rfl, HR3.out⟩

end Go.Proofs.YtdfnnpakdbhhpaaGreatDoor
