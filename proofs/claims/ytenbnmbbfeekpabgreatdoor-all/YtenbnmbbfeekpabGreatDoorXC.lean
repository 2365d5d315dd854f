import Derived.Test.YtenbnmbbfeekpabGreatDoorXB
import Derived.Test.YtenbnmbbfeekpabGreatDoorXA
import Derived.Deep.RegionHeld3

namespace Go.Proofs.YtenbnmbbfeekpabGreatDoor
open Go.RowKit

theorem Tryz.infoPk : (Tryz.prog.info? 140).map (fun i => (i.zero, i.size, i.bytes)) = some (some (.agg #[.int .u8 0, .int .u8 0, .int .i64 0, .slice none 0 0, .slice none 0 0, .slice none 0 0]), 6, 88) := by kernel_rfl

structure DcR (B : Nat) (w wr : World) (s : ByteArray) (gk : Nat) (ao : Option Addr) (nn cc : Nat) (css : List (List Value)) (acc : List Pk) (st : St) : Prop where
  fr : Fr B w wr 63 #[.slice none 0 0, .slice none 0 0, .slice none 0 0, .slice none 0 0] #[.slice ao nn cc, .slice none 0 0, .slice none 0 0, .slice none 0 0] s st
  le : st.1 ≤ s.size
  own : wr.ownsRow (w.heap.size + 2) 140 6 (.slice ao nn cc) acc.length css.flatten
  all : All2 (PkC B wr) css acc
  eq : d0 s.data.toList = (acc ++ (pksF s.data.toList gk st).1, (pksF s.data.toList gk st).2)
  gk : s.size - st.1 < gk
  al : acc.length ≤ st.1

theorem dcR_step {B : Nat} {w wr w2 : World} {s : ByteArray} {gk : Nat} {ao : Option Addr} {nn cc : Nat} {css : List (List Value)} {acc : List Pk} {st : St} (h : DcR B w wr s gk ao nn cc css acc st) (hn : naB s.data.toList st.1 st.2 = true)
    {ao' : Option Addr} {nn' cc' : Nat} {cs : List Value} (fr : Fr B w w2 63 #[.slice none 0 0, .slice none 0 0, .slice none 0 0, .slice none 0 0] #[.slice ao' nn' cc', .slice none 0 0, .slice none 0 0, .slice none 0 0] s (p5 s.data.toList st)) (le : (p5 s.data.toList st).1 ≤ s.size)
    (own : w2.ownsRow (w.heap.size + 2) 140 6 (.slice ao' nn' cc') (acc.length + 1) (css.flatten ++ cs)) (all : All2 (PkC B w2) (css ++ [cs]) (acc ++ [pkV s.data.toList st])) :
    DcR B w w2 s (gk - 1) ao' nn' cc' (css ++ [cs]) (acc ++ [pkV s.data.toList st]) (p5 s.data.toList st) := by
  have hg := h.gk
  have ha := h.al
  have h5 := p5_ge s.data.toList st hn
  obtain ⟨f, rfl⟩ : ∃ f, gk = f + 1 := ⟨gk - 1, by omega⟩
  have hy := h.eq
  rw [pksF_yes hn] at hy
  refine ⟨fr, le, by simpa using own, all, by rw [hy]; simp, by simp; omega, by simp; omega⟩

/-- A document in memory, above the reader's block. -/
def DcAt (B : Nat) (w : World) (d : Dc) (vp vi vr vu : Value) : Prop := PksAt B w vp d.packs ∧ CsAt B w vi d.ins ∧ CsAt B w vr d.rem ∧ CsAt B w vu d.upg

theorem dc_eq {t : List UInt8} {st0 st1 st2 st3 st4 st5 st6 : St} {ps : List Pk} (E0 : d0 t = (ps, st0)) (E1 : exS t 47 st0 = st1) (E2 : (csF t st1).2 = st2) (E3 : exS t 47 st2 = st3) (E4 : (csF t st3).2 = st4) (E5 : exS t 47 st4 = st5) (E6 : (csF t st5).2 = st6) :
    dcV t = { packs := ps, ins := (csF t st1).1, rem := (csF t st3).1, upg := (csF t st5).1 } ∧ dcI t = st6.1 ∧ dcBad t = if st6.1 < t.length then true else st6.2 := by
  subst E1 E2 E3 E4 E5 E6
  unfold dcV dcBad dcI d3 d2 d1
  rw [E0]
  exact ⟨rfl, rfl, rfl⟩

set_option maxHeartbeats 1600000 in
set_option maxRecDepth 100000 in
theorem rd_document (B : Nat) (s : ByteArray) (w : World) (hs : s.size ≤ 800) (hr : Rd B w s 0 false) :
    Calls Tryz.prog 48 #[.pointer (some ⟨B, 0, none⟩)] w fun e w' => ∃ vp vi vr vu, e = .returned (.agg #[vp, vi, vr, vu]) ∧ DcAt B w' (dcV s.data.toList) vp vi vr vu ∧ (∃ a n c, vp = .slice a n c) ∧ (∃ a n c, vi = .slice a n c) ∧ (∃ a n c, vr = .slice a n c) ∧ (∃ a n c, vu = .slice a n c) ∧
      Rd B w' s (dcI s.data.toList) (dcBad s.data.toList) ∧ Kp B w w' ∧ dcI s.data.toList ≤ s.size ∧ (dcV s.data.toList).packs.length ≤ 801 := by
  obtain ⟨i0, hi0, hz0, hz1, hz2⟩ := info_parts Tryz.infoPk
  have hB := hr.lt
  have HF : Hid (Fr B w _ 63 #[.slice none 0 0, .slice none 0 0, .slice none 0 0, .slice none 0 0] #[.slice none 0 0, .slice none 0 0, .slice none 0 0, .slice none 0 0] s (0, false)) := Fr.start (st := (0, false)) hr 63 #[.slice none 0 0, .slice none 0 0, .slice none 0 0, .slice none 0 0]
  clear hr
  go_enter Tryz.func48, Tryz.ntmps48
  go_wp2
  go_loopg [] (s.size + 2) (fun gk wr => ∃ (ao : Option Addr) (nn cc : Nat) (css : List (List Value)) (acc : List Pk) (st : St), DcR B w wr s gk ao nn cc css acc st)
  case atStart => exact ⟨none, 0, 0, [], [], (0, false), HF.out, by simp, World.ownsRow_nil _ _ _ _, trivial, by rw [show s.size = s.data.toList.length from (sz s).symm]; simp [d0], by simp, by simp⟩
  case round =>
    obtain ⟨ao, nn, cc, css, acc, st, hA⟩ := hrel
    have HA : Hid (DcR B w wr s gk ao nn cc css acc st) := hA
    have hle := hA.le
    have hal := hA.al
    have hgk := hA.gk
    clear hA HF
    go_wp2_with fail
    refine (rd_nameAhead B s st.1 st.2 _ hs hle HA.out.fr.rd).mono ?_
    rintro e w1 ⟨rfl, n, rfl⟩
    by_cases hn : naB s.data.toList st.1 st.2 = true
    · rw [hn]
      go_wp2_with fail
      refine (rd_pack B s st _ hs hle (HA.out.fr.rd.drewN n)).mono ?_
      rintro e w2 ⟨vn, vc, vp, rfl, hp, ⟨an, nn', cn, rfl⟩, ⟨ac, nc, cc', rfl⟩, ⟨ap, np, cp, rfl⟩, hr2, hk2, hl2⟩
      have hk2' : Kp B wr w2 := ((Kp.refl B wr).drewN n).trans hk2
      have hown := own_kp HA.out.own hk2' (by omega)
      have h := HA.out.fr.call hr2 hk2'
      have HP : Hid (PkAt B w2 (pkV s.data.toList st) (.slice an nn' cn) (.slice ac nc cc') (.slice ap np cp)) := hp
      have HL : Hid (All2 (PkC B w2) css acc) := HA.out.all.mono fun _ _ h => h.kp hk2'
      have HF2 : Hid (Fr B w w2 63 #[.slice none 0 0, .slice none 0 0, .slice none 0 0, .slice none 0 0] #[.slice ao nn cc, .slice none 0 0, .slice none 0 0, .slice none 0 0] s (p5 s.data.toList st)) := h
      have c0 : w2.cell? ⟨w.heap.size + 1, 0, none⟩ = some (.slice ao nn cc) := h.c 0 rfl
      have hsz2 := ltAt h.b2
      have HN : Hid (naB s.data.toList st.1 st.2 = true) := hn
      clear h hp hr2 hk2 hk2' hn
      obtain ⟨cs, hcs⟩ : ∃ cs, cs = pkCells (pkV s.data.toList st) (.slice an nn' cn) (.slice ac nc cc') (.slice ap np cp) := ⟨_, rfl⟩
      have HCS : Hid (cs = pkCells (pkV s.data.toList st) (.slice an nn' cn) (.slice ac nc cc') (.slice ap np cp)) := hcs
      clear hcs
      unfold pkCells
      go_wp2_with (at_builtin; refine wpList_append_own _ rfl _ _ 60 rfl (w.heap.size + 2) 140 i0 (.agg #[.int .u8 0, .int .u8 0, .int .i64 0, .slice none 0 0, .slice none 0 0, .slice none 0 0]) 6 88 Tryz.underlying60 hi0 hz0 hz1 hz2 rfl (by decide) _ _ _ rfl ((hown.alloc _).alloc _) ⟨w2.heap.size + 1, 0, none⟩ 1 1 (pkCells (pkV s.data.toList st) (.slice an nn' cn) (.slice ac nc cc') (.slice ap np cp)) rfl rfl ?c1 ?c2 ?c3 ?c4 ?c5 ?_)
      case c1 => have := cell_new (w2.alloc (.cells (pkCells (pkV s.data.toList st) (.slice an nn' cn) (.slice ac nc cc') (.slice ap np cp)).toArray 140)) (pkCells (pkV s.data.toList st) (.slice an nn' cn) (.slice ac nc cc') (.slice ap np cp)) 140; rw [World.size_alloc] at this; exact this
      case c2 => intro u hu; simp [pkCells] at hu; rcases hu with rfl | rfl | rfl | rfl | rfl | rfl <;> rfl
      case c3 => unfold maxLen; omega
      case c4 => omega
      case c5 => simp; omega
      intro v' w3 hown' hgrow _
      have h3 := ((HF2.out.alloc _).alloc _).grown hgrow (fun k hk => (hown.lt k hk).1)
      obtain ⟨a3, n3, c3, hv3⟩ : ∃ a n c, v' = .slice a n c := shape_of hown'
      rw [hv3] at hown' ⊢
      have c0' : w3.cell? ⟨w.heap.size + 1, 0, none⟩ = some (.slice ao nn cc) := h3.c 0 rfl
      have f0 := h3.f 0
      have HL3 : Hid (All2 (PkC B w3) (css ++ [cs]) (acc ++ [pkV s.data.toList st])) :=
        All2.snoc ⟨_, _, _, HCS.out, ((HP.out.alloc _).alloc _).other ((hown.alloc _).alloc _) hgrow⟩ (HL.out.mono fun _ _ h => ((h.alloc _).alloc _).other ((hown.alloc _).alloc _) hgrow)
      have HR3 : Hid _ := dcR_step (cs := cs) HA.out HN.out (h3.store 0 (.slice a3 n3 c3)) hl2 (own_setT (by rw [HCS.out]; exact hown') h3.b2 (by decide) 0 _) (HL3.out.mono fun _ _ h => h.setT h3.b2 (by decide) (by decide) (by decide) 0 _)
      clear hown' hgrow hown HL HP HF2 h3 HL3 HA hv3
      go_wp2
      go_roundg (gk - 1)
      case measure => omega
      case rel => exact ⟨_, _, _, _, _, _, HR3.out⟩
    · simp only [Bool.not_eq_true] at hn
      rw [hn]
      have E0 : Hid (d0 s.data.toList = (acc, st)) := by have := HA.out.eq; rw [pksF_no hn] at this; show _ = _; simpa using this
      have HF0 : Hid (Fr B w (wr.drewN n) 63 #[.slice none 0 0, .slice none 0 0, .slice none 0 0, .slice none 0 0] #[.slice ao nn cc, .slice none 0 0, .slice none 0 0, .slice none 0 0] s st) := HA.out.fr.call (HA.out.fr.rd.drewN n) ((Kp.refl B wr).drewN n)
      have HP : Hid (PksAt B (wr.drewN n) (.slice ao nn cc) acc) := ⟨css, own_mono HA.out.own (by omega), HA.out.all⟩
      clear HA hn
      go_wp2_with fail
      refine (rd_expect B s st.1 st.2 47 47 rfl _ hs hle HF0.out.rd).mono ?_
      rintro e w1x ⟨rfl, hr, hk⟩
      obtain ⟨st1, E1⟩ : ∃ x : St, Hid (exS s.data.toList 47 st = x) := ⟨_, rfl⟩
      replace hr : Rd B w1x s st1.1 st1.2 := by rw [← E1.out]; exact hr
      have l1 : st1.1 ≤ s.size := by rw [← E1.out]; exact acI_le s 47 st.1 st.2 hle
      have h := HF0.out.call hr hk
      replace HP : Hid (PksAt B w1x (.slice ao nn cc) acc) := HP.out.kp hk
      have HF1 : Hid (Fr B w w1x 63 #[.slice none 0 0, .slice none 0 0, .slice none 0 0, .slice none 0 0] #[.slice ao nn cc, .slice none 0 0, .slice none 0 0, .slice none 0 0] s st1) := h
      clear HF0 h hr hk
      go_wp2_with fail
      refine (rd_constraints B s st1 _ hs l1 HF1.out.rd).mono ?_
      rintro e w2x ⟨v1, rfl, hc, hr, hk, l2, _⟩
      obtain ⟨st2, E2⟩ : ∃ x : St, Hid ((csF s.data.toList st1).2 = x) := ⟨_, rfl⟩
      replace hr : Rd B w2x s st2.1 st2.2 := by rw [← E2.out]; exact hr
      replace l2 : st2.1 ≤ s.size := by rw [← E2.out]; exact l2
      have h := HF1.out.call hr hk
      replace HP : Hid (PksAt B w2x (.slice ao nn cc) acc) := HP.out.kp hk
      obtain ⟨av1, nv1, cv1, rfl⟩ : ∃ a n c, v1 = .slice a n c := shape_of hc
      have Hv1 : Hid (CsAt B w2x (.slice av1 nv1 cv1) (csF s.data.toList st1).1) := hc
      clear hc
      have q1 : w2x.cell? ⟨w.heap.size + 1, 1, none⟩ = some (.slice none 0 0) := h.c 1 rfl
      have g1 := h.f 1
      replace HP : Hid (PksAt B _ (.slice ao nn cc) acc) := HP.out.setT h.b2 (by decide) (by decide) (by decide) (by decide) 1 (.slice av1 nv1 cv1)
      replace Hv1 : Hid (CsAt B _ (.slice av1 nv1 cv1) (csF s.data.toList st1).1) := Hv1.out.setT h.b2 (by decide) 1 (.slice av1 nv1 cv1)
      have HF2 : Hid (Fr B w _ 63 #[.slice none 0 0, .slice none 0 0, .slice none 0 0, .slice none 0 0] #[.slice ao nn cc, .slice av1 nv1 cv1, .slice none 0 0, .slice none 0 0] s st2) := h.store 1 (.slice av1 nv1 cv1)
      clear HF1 h hr hk
      go_wp2_with fail
      refine (rd_expect B s st2.1 st2.2 47 47 rfl _ hs l2 HF2.out.rd).mono ?_
      rintro e w3x ⟨rfl, hr, hk⟩
      obtain ⟨st3, E3⟩ : ∃ x : St, Hid (exS s.data.toList 47 st2 = x) := ⟨_, rfl⟩
      replace hr : Rd B w3x s st3.1 st3.2 := by rw [← E3.out]; exact hr
      have l3 : st3.1 ≤ s.size := by rw [← E3.out]; exact acI_le s 47 st2.1 st2.2 l2
      have h := HF2.out.call hr hk
      replace HP : Hid (PksAt B w3x (.slice ao nn cc) acc) := HP.out.kp hk
      replace Hv1 : Hid (CsAt B w3x (.slice av1 nv1 cv1) (csF s.data.toList st1).1) := Hv1.out.kp hk
      have HF3 : Hid (Fr B w w3x 63 #[.slice none 0 0, .slice none 0 0, .slice none 0 0, .slice none 0 0] #[.slice ao nn cc, .slice av1 nv1 cv1, .slice none 0 0, .slice none 0 0] s st3) := h
      clear HF2 h hr hk
      go_wp2_with fail
      refine (rd_constraints B s st3 _ hs l3 HF3.out.rd).mono ?_
      rintro e w4x ⟨v2, rfl, hc, hr, hk, l4, _⟩
      obtain ⟨st4, E4⟩ : ∃ x : St, Hid ((csF s.data.toList st3).2 = x) := ⟨_, rfl⟩
      replace hr : Rd B w4x s st4.1 st4.2 := by rw [← E4.out]; exact hr
      replace l4 : st4.1 ≤ s.size := by rw [← E4.out]; exact l4
      have h := HF3.out.call hr hk
      replace HP : Hid (PksAt B w4x (.slice ao nn cc) acc) := HP.out.kp hk
      replace Hv1 : Hid (CsAt B w4x (.slice av1 nv1 cv1) (csF s.data.toList st1).1) := Hv1.out.kp hk
      obtain ⟨av2, nv2, cv2, rfl⟩ : ∃ a n c, v2 = .slice a n c := shape_of hc
      have Hv2 : Hid (CsAt B w4x (.slice av2 nv2 cv2) (csF s.data.toList st3).1) := hc
      clear hc
      have q2 : w4x.cell? ⟨w.heap.size + 1, 2, none⟩ = some (.slice none 0 0) := h.c 2 rfl
      have g2 := h.f 2
      replace HP : Hid (PksAt B _ (.slice ao nn cc) acc) := HP.out.setT h.b2 (by decide) (by decide) (by decide) (by decide) 2 (.slice av2 nv2 cv2)
      replace Hv1 : Hid (CsAt B _ (.slice av1 nv1 cv1) (csF s.data.toList st1).1) := Hv1.out.setT h.b2 (by decide) 2 (.slice av2 nv2 cv2)
      replace Hv2 : Hid (CsAt B _ (.slice av2 nv2 cv2) (csF s.data.toList st3).1) := Hv2.out.setT h.b2 (by decide) 2 (.slice av2 nv2 cv2)
      have HF4 : Hid (Fr B w _ 63 #[.slice none 0 0, .slice none 0 0, .slice none 0 0, .slice none 0 0] #[.slice ao nn cc, .slice av1 nv1 cv1, .slice av2 nv2 cv2, .slice none 0 0] s st4) := h.store 2 (.slice av2 nv2 cv2)
      clear HF3 h hr hk
      go_wp2_with fail
      refine (rd_expect B s st4.1 st4.2 47 47 rfl _ hs l4 HF4.out.rd).mono ?_
      rintro e w5x ⟨rfl, hr, hk⟩
      obtain ⟨st5, E5⟩ : ∃ x : St, Hid (exS s.data.toList 47 st4 = x) := ⟨_, rfl⟩
      replace hr : Rd B w5x s st5.1 st5.2 := by rw [← E5.out]; exact hr
      have l5 : st5.1 ≤ s.size := by rw [← E5.out]; exact acI_le s 47 st4.1 st4.2 l4
      have h := HF4.out.call hr hk
      replace HP : Hid (PksAt B w5x (.slice ao nn cc) acc) := HP.out.kp hk
      replace Hv1 : Hid (CsAt B w5x (.slice av1 nv1 cv1) (csF s.data.toList st1).1) := Hv1.out.kp hk
      replace Hv2 : Hid (CsAt B w5x (.slice av2 nv2 cv2) (csF s.data.toList st3).1) := Hv2.out.kp hk
      have HF5 : Hid (Fr B w w5x 63 #[.slice none 0 0, .slice none 0 0, .slice none 0 0, .slice none 0 0] #[.slice ao nn cc, .slice av1 nv1 cv1, .slice av2 nv2 cv2, .slice none 0 0] s st5) := h
      clear HF4 h hr hk
      go_wp2_with fail
      refine (rd_constraints B s st5 _ hs l5 HF5.out.rd).mono ?_
      rintro e w6x ⟨v3, rfl, hc, hr, hk, l6, _⟩
      obtain ⟨st6, E6⟩ : ∃ x : St, Hid ((csF s.data.toList st5).2 = x) := ⟨_, rfl⟩
      replace hr : Rd B w6x s st6.1 st6.2 := by rw [← E6.out]; exact hr
      replace l6 : st6.1 ≤ s.size := by rw [← E6.out]; exact l6
      have h := HF5.out.call hr hk
      replace HP : Hid (PksAt B w6x (.slice ao nn cc) acc) := HP.out.kp hk
      replace Hv1 : Hid (CsAt B w6x (.slice av1 nv1 cv1) (csF s.data.toList st1).1) := Hv1.out.kp hk
      replace Hv2 : Hid (CsAt B w6x (.slice av2 nv2 cv2) (csF s.data.toList st3).1) := Hv2.out.kp hk
      obtain ⟨av3, nv3, cv3, rfl⟩ : ∃ a n c, v3 = .slice a n c := shape_of hc
      have Hv3 : Hid (CsAt B w6x (.slice av3 nv3 cv3) (csF s.data.toList st5).1) := hc
      clear hc
      have q3 : w6x.cell? ⟨w.heap.size + 1, 3, none⟩ = some (.slice none 0 0) := h.c 3 rfl
      have g3 := h.f 3
      replace HP : Hid (PksAt B _ (.slice ao nn cc) acc) := HP.out.setT h.b2 (by decide) (by decide) (by decide) (by decide) 3 (.slice av3 nv3 cv3)
      replace Hv1 : Hid (CsAt B _ (.slice av1 nv1 cv1) (csF s.data.toList st1).1) := Hv1.out.setT h.b2 (by decide) 3 (.slice av3 nv3 cv3)
      replace Hv2 : Hid (CsAt B _ (.slice av2 nv2 cv2) (csF s.data.toList st3).1) := Hv2.out.setT h.b2 (by decide) 3 (.slice av3 nv3 cv3)
      replace Hv3 : Hid (CsAt B _ (.slice av3 nv3 cv3) (csF s.data.toList st5).1) := Hv3.out.setT h.b2 (by decide) 3 (.slice av3 nv3 cv3)
      have HF6 : Hid (Fr B w _ 63 #[.slice none 0 0, .slice none 0 0, .slice none 0 0, .slice none 0 0] #[.slice ao nn cc, .slice av1 nv1 cv1, .slice av2 nv2 cv2, .slice av3 nv3 cv3] s st6) := h.store 3 (.slice av3 nv3 cv3)
      clear HF5 h hr hk
      go_wp2_with fail
      refine (rd_expectEnd B s st6.1 st6.2 _ hs l6 HF6.out.rd).mono ?_
      rintro e w7x ⟨rfl, hr, hk⟩
      have h := HF6.out.call (st' := (st6.1, if st6.1 < s.size then true else st6.2)) hr hk
      replace HP : Hid (PksAt B w7x (.slice ao nn cc) acc) := HP.out.kp hk
      replace Hv1 : Hid (CsAt B w7x (.slice av1 nv1 cv1) (csF s.data.toList st1).1) := Hv1.out.kp hk
      replace Hv2 : Hid (CsAt B w7x (.slice av2 nv2 cv2) (csF s.data.toList st3).1) := Hv2.out.kp hk
      replace Hv3 : Hid (CsAt B w7x (.slice av3 nv3 cv3) (csF s.data.toList st5).1) := Hv3.out.kp hk
      have m0 : w7x.cell? ⟨w.heap.size + 1, 0, none⟩ = some (.slice ao nn cc) := h.c 0 rfl
      have m1 : w7x.cell? ⟨w.heap.size + 1, 1, none⟩ = some (.slice av1 nv1 cv1) := h.c 1 rfl
      have m2 : w7x.cell? ⟨w.heap.size + 1, 2, none⟩ = some (.slice av2 nv2 cv2) := h.c 2 rfl
      have m3 : w7x.cell? ⟨w.heap.size + 1, 3, none⟩ = some (.slice av3 nv3 cv3) := h.c 3 rfl
      have d0 : w7x.cell? ⟨w.heap.size, 0, none⟩ = some (.slice none 0 0) := h.c' 0 rfl
      have d1 : w7x.cell? ⟨w.heap.size, 1, none⟩ = some (.slice none 0 0) := h.c' 1 rfl
      have d2 : w7x.cell? ⟨w.heap.size, 2, none⟩ = some (.slice none 0 0) := h.c' 2 rfl
      have d3 : w7x.cell? ⟨w.heap.size, 3, none⟩ = some (.slice none 0 0) := h.c' 3 rfl
      have e0 := h.f' 0
      have e1 := h.f' 1
      have e2 := h.f' 2
      have e3 := h.f' 3
      have HFF : Hid (Fr B w w7x 63 #[.slice none 0 0, .slice none 0 0, .slice none 0 0, .slice none 0 0] #[.slice ao nn cc, .slice av1 nv1 cv1, .slice av2 nv2 cv2, .slice av3 nv3 cv3] s (st6.1, if st6.1 < s.size then true else st6.2)) := h
      have HE : Hid (dcV s.data.toList = _ ∧ dcI s.data.toList = st6.1 ∧ dcBad s.data.toList = _) := dc_eq E0.out E1.out E2.out E3.out E4.out E5.out E6.out
      clear h hr hk
      go_wp2
      refine bodyPost_ret (v := .agg #[.slice ao nn cc, .slice av1 nv1 cv1, .slice av2 nv2 cv2, .slice av3 nv3 cv3]) ?_ rfl ⟨_, _, _, _, rfl, ?_, ⟨_, _, _, rfl⟩, ⟨_, _, _, rfl⟩, ⟨_, _, _, rfl⟩, ⟨_, _, _, rfl⟩, ?_, ?_, ?_, ?_⟩
      · simp [results, Tryz.results48, go_sem, d0, d1, d2, d3]
      · rw [HE.out.1]
        exact ⟨((((HP.out.setT HFF.out.b1 (by decide) (by decide) (by decide) (by decide) 0 _).setT (setAt HFF.out.b1 0 _) (by decide) (by decide) (by decide) (by decide) 1 _).setT (setAt (setAt HFF.out.b1 0 _) 1 _) (by decide) (by decide) (by decide) (by decide) 2 _).setT (setAt (setAt (setAt HFF.out.b1 0 _) 1 _) 2 _) (by decide) (by decide) (by decide) (by decide) 3 _), ((((Hv1.out.setT HFF.out.b1 (by decide) 0 _).setT (setAt HFF.out.b1 0 _) (by decide) 1 _).setT (setAt (setAt HFF.out.b1 0 _) 1 _) (by decide) 2 _).setT (setAt (setAt (setAt HFF.out.b1 0 _) 1 _) 2 _) (by decide) 3 _), ((((Hv2.out.setT HFF.out.b1 (by decide) 0 _).setT (setAt HFF.out.b1 0 _) (by decide) 1 _).setT (setAt (setAt HFF.out.b1 0 _) 1 _) (by decide) 2 _).setT (setAt (setAt (setAt HFF.out.b1 0 _) 1 _) 2 _) (by decide) 3 _), ((((Hv3.out.setT HFF.out.b1 (by decide) 0 _).setT (setAt HFF.out.b1 0 _) (by decide) 1 _).setT (setAt (setAt HFF.out.b1 0 _) 1 _) (by decide) 2 _).setT (setAt (setAt (setAt HFF.out.b1 0 _) 1 _) 2 _) (by decide) 3 _)⟩
      · rw [HE.out.2.1, HE.out.2.2, sz]
        exact (Rd.setNew (Rd.setNew (Rd.setNew (Rd.setNew HFF.out.rd (by simp <;> omega) _) (by simp <;> omega) _) (by simp <;> omega) _) (by simp <;> omega) _)
      · exact (Kp.setNew (Kp.setNew (Kp.setNew (Kp.setNew HFF.out.kp (by simp) _) (by simp) _) (by simp) _) (by simp) _)
      · rw [HE.out.2.1]; exact l6
      · rw [HE.out.1]; show acc.length ≤ 801; omega

end Go.Proofs.YtenbnmbbfeekpabGreatDoor

namespace Go.Proofs.YtenbnmbbfeekpabGreatDoor
open Go.RowKit

/-- The cells of a package in a row. -/
def PkRow (w : World) (g j : Nat) (p : Pk) : Prop := ∃ an nn cn ac nc cc ap np cp, w.cell? ⟨g, j * 6, none⟩ = some (.int .u8 p.n) ∧ w.cell? ⟨g, j * 6 + 1, none⟩ = some (.int .u8 p.v) ∧ w.cell? ⟨g, j * 6 + 2, none⟩ = some (.int .i64 p.m) ∧
  w.cell? ⟨g, j * 6 + 3, none⟩ = some (.slice an nn cn) ∧ w.cell? ⟨g, j * 6 + 4, none⟩ = some (.slice ac nc cc) ∧ w.cell? ⟨g, j * 6 + 5, none⟩ = some (.slice ap np cp)

/-- The cells of a package in a part of a row. -/
def PkRw (w : World) (ao : Option Addr) (j : Nat) (p : Pk) : Prop := ∃ g off an nn cn ac nc cc ap np cp, ao = some ⟨g, off, none⟩ ∧ g < w.heap.size ∧ w.cell? ⟨g, off + j * 6, none⟩ = some (.int .u8 p.n) ∧ w.cell? ⟨g, off + j * 6 + 1, none⟩ = some (.int .u8 p.v) ∧ w.cell? ⟨g, off + j * 6 + 2, none⟩ = some (.int .i64 p.m) ∧
  w.cell? ⟨g, off + j * 6 + 3, none⟩ = some (.slice an nn cn) ∧ w.cell? ⟨g, off + j * 6 + 4, none⟩ = some (.slice ac nc cc) ∧ w.cell? ⟨g, off + j * 6 + 5, none⟩ = some (.slice ap np cp)
theorem PkRow.rw {w : World} {g j : Nat} {p : Pk} (h : PkRow w g j p) (hg : g < w.heap.size) : PkRw w (some ⟨g, 0, none⟩) j p := by
  obtain ⟨an, nn, cn, ac, nc, cc, ap, np, cp, h0, h1, h2, h3, h4, h5⟩ := h
  exact ⟨g, 0, an, nn, cn, ac, nc, cc, ap, np, cp, rfl, hg, by simpa using h0, by simpa using h1, by simpa using h2, by simpa using h3, by simpa using h4, by simpa using h5⟩

def amB (ps : List Pk) (n v : Nat) : Bool := ps.any fun p => p.n == n && p.v == v
/-- The number of the package with the name and the version; as many as there are: none. -/
def nbT (ps : List Pk) (n v : Nat) : Nat := ps.findIdx fun p => p.n == n && p.v == v
theorem nb_am (ps : List Pk) (n v : Nat) : decide (nbT ps n v < ps.length) = amB ps n v := by
  unfold nbT amB
  rw [Bool.eq_iff_iff, decide_eq_true_iff, List.findIdx_lt_length, List.any_eq_true]

set_option maxHeartbeats 800000 in
set_option maxRecDepth 100000 in
theorem doc_Number (ao : Option Addr) (n cap : Nat) (ps : List Pk) (a b : Nat) (w : World) (hn : n ≤ 801) (hps : ps.length = n) (hrow : ∀ j (h : j < ps.length), PkRw w ao j ps[j]) :
    Calls Tryz.prog 55 #[.slice ao n cap, .int .u8 a, .int .u8 b] w fun e w' => e = .returned (.int .i64 (nbT ps a b)) ∧ Below w.heap.size w w' := by
  have HR : Hid (∀ j (h : j < ps.length), PkRw w ao j ps[j]) := hrow
  clear hrow
  go_enter Tryz.func55, Tryz.ntmps55
  go_wp2
  go_loopw [11] (fun i wr => ∃ k : Nat, k ≤ n ∧ i = .int .i64 k ∧ Hid (nbT ps a b = k + nbT (ps.drop k) a b) ∧ Below w.heap.size w wr) (fun i _ => n - (intOf i).toNat)
  case atStart => exact ⟨0, by omega, rfl, by show _ = _; simp, Below.refl _ _⟩
  case round =>
    obtain ⟨k, hk, rfl, HP, hb⟩ := hrel
    by_cases hlt : k < n
    · have hlt' : k < ps.length := by omega
      obtain ⟨g, off, an', nn', cn', ac', nc', cc', ap', np', cp', rfl, hg, x0, x1, x2, x3, x4, x5⟩ := HR.out k hlt'
      rw [← hb.cell (p := ⟨g, _, none⟩) hg] at x0 x1 x2 x3 x4 x5
      have HD : Hid (nbT (ps.drop k) a b = if (ps[k].n == a && ps[k].v == b) = true then 0 else nbT (ps.drop (k + 1)) a b + 1) := by
        show _ = _; unfold nbT; rw [List.drop_eq_getElem_cons hlt', List.findIdx_cons]; cases (ps[k].n == a && ps[k].v == b) <;> simp
      have hbs := hb.size
      by_cases e1 : ps[k].n = a
      · have e1' : ((ps[k].n : Int) == a) = true := by rw [beq_iff_eq]; omega
        by_cases e2 : ps[k].v = b
        · have e2' : ((ps[k].v : Int) == b) = true := by rw [beq_iff_eq]; omega
          have HF : Hid (nbT ps a b = k) := by show _ = _; rw [HP.out, HD.out]; simp [e1, e2]
          clear e1 e2
          go_wp2
          go_ret
          exact ⟨ret_int (by rw [HF.out]), hb.alloc hbs _⟩
        · have e2' : ((ps[k].v : Int) == b) = false := by rw [beq_eq_false_iff_ne]; omega
          have HF : Hid (nbT ps a b = (k + 1) + nbT (ps.drop (k + 1)) a b) := by show _ = _; rw [HP.out, HD.out, if_neg (by simp [e2])]; omega
          clear e1 e2
          go_wp2
          go_roundw
          case rel => exact ⟨k + 1, by omega, by go_num, HF, hb.alloc hbs _⟩
          case measure => simp [intOf]; omega
      · have e1' : ((ps[k].n : Int) == a) = false := by rw [beq_eq_false_iff_ne]; omega
        have HF : Hid (nbT ps a b = (k + 1) + nbT (ps.drop (k + 1)) a b) := by show _ = _; rw [HP.out, HD.out, if_neg (by simp [e1])]; omega
        clear e1
        go_wp2
        go_roundw
        case rel => exact ⟨k + 1, by omega, by go_num, HF, hb.alloc hbs _⟩
        case measure => simp [intOf]; omega
    · have HF : Hid (nbT ps a b = n) := by show _ = _; rw [HP.out, List.drop_of_length_le (by omega)]; simp [nbT]; omega
      go_wp2
      go_ret
      exact ⟨ret_int (by rw [HF.out]), hb⟩

theorem nb_take (ps : List Pk) (a b k : Nat) (hk : k ≤ ps.length) : nbT ps a b < k ↔ amB (ps.take k) a b = true := by
  unfold amB
  rw [List.any_eq_true]
  constructor
  · intro h
    have hl : nbT ps a b < ps.length := Nat.lt_of_lt_of_le h hk
    have h2 : (ps[nbT ps a b].n == a && ps[nbT ps a b].v == b) = true := List.findIdx_getElem (xs := ps) (p := fun q : Pk => q.n == a && q.v == b) (w := hl)
    exact ⟨ps[nbT ps a b], by rw [List.mem_iff_getElem]; exact ⟨nbT ps a b, by simp; omega, by simp⟩, h2⟩
  · rintro ⟨p, hp, he⟩
    obtain ⟨i, hi, rfl⟩ := List.getElem_of_mem hp
    rw [List.getElem_take] at he
    rw [List.length_take] at hi
    rcases Nat.lt_or_ge i (nbT ps a b) with h | h
    · have := List.not_of_lt_findIdx (xs := ps) (p := fun q : Pk => q.n == a && q.v == b) h
      simp only [he] at this
      cases this
    · omega

/-- The number of the first package that one ahead of it equals, from k on; n: none. -/
def ftF (ps : List Pk) : Nat → Nat → Nat
  | 0, k => k
  | f + 1, k => match ps[k]? with
    | none => k
    | some p => if amB (ps.take k) p.n p.v then k else ftF ps f (k + 1)
def ftT (ps : List Pk) : Nat := ftF ps (ps.length + 1) 0

end Go.Proofs.YtenbnmbbfeekpabGreatDoor

namespace Go.Proofs.YtenbnmbbfeekpabGreatDoor
open Go.RowKit

theorem PkRow.below {w w' : World} {g j : Nat} {p : Pk} (h : PkRow w g j p) {B : Nat} (hb : Below B w w') (hg : g < B) : PkRow w' g j p := by
  obtain ⟨a, b, c, d, e, f, g', h', i, x⟩ := h
  refine ⟨a, b, c, d, e, f, g', h', i, ?_⟩
  rw [hb.cell (p := ⟨g, _, none⟩) hg, hb.cell (p := ⟨g, _, none⟩) hg, hb.cell (p := ⟨g, _, none⟩) hg, hb.cell (p := ⟨g, _, none⟩) hg, hb.cell (p := ⟨g, _, none⟩) hg, hb.cell (p := ⟨g, _, none⟩) hg]
  exact x

theorem below_drew0 {n : Nat} {W w' : World} (hb : Below n W.drew w') : Below n W w' := ⟨hb.os, hb.tape, hb.output, hb.size, hb.block⟩
theorem dcell0 {W w' : World} (hb : Below W.drew.heap.size W.drew w') {p : Addr} {v : Value} (h : W.cell? p = some v) : w'.cell? p = some v := ((below_drew0 hb).cell (World.block_lt_of_cell? _ _ h)).trans h

set_option maxHeartbeats 1600000 in
set_option maxRecDepth 100000 in
theorem doc_firstTwice (g n cap : Nat) (ps : List Pk) (w : World) (hn : n ≤ 801) (hnc : n ≤ cap) (hps : ps.length = n) (hg : g < w.heap.size) (hrow : ∀ j (h : j < ps.length), PkRow w g j ps[j]) :
    Calls Tryz.prog 49 #[.slice (some ⟨g, 0, none⟩) n cap] w fun e w' => e = .returned (.int .i64 (ftT ps)) ∧ Below w.heap.size w w' := by
  have HR : Hid (∀ j (h : j < ps.length), PkRow w g j ps[j]) := hrow
  clear hrow
  go_enter Tryz.func49, Tryz.ntmps49
  go_wp2
  go_loopw [7] (fun i wr => ∃ k : Nat, k ≤ n ∧ i = .int .i64 k ∧ Hid (ftT ps = ftF ps (n + 1 - k) k) ∧ Below w.heap.size w wr) (fun i _ => n - (intOf i).toNat)
  case atStart => exact ⟨0, by omega, rfl, by show _ = _; unfold ftT; rw [hps]; rfl, Below.refl _ _⟩
  case round =>
    obtain ⟨k, hk, rfl, HP, hb⟩ := hrel
    have hbs := hb.size
    by_cases hlt : k < n
    · have hlt' : k < ps.length := by omega
      obtain ⟨an', nn', cn', ac', nc', cc', ap', np', cp', x0, x1, x2, x3, x4, x5⟩ := HR.out k hlt'
      rw [← hb.cell (p := ⟨g, _, none⟩) hg] at x0 x1 x2 x3 x4 x5
      have hgr : g < wr.heap.size := by omega
      have hk0 : (0 : Int) ≤ (k : Int) := by omega
      have hkc : (k : Int) ≤ (cap : Int) := by omega
      have HW : Hid (∀ wx : World, Below wr.heap.size wr wx → ∀ j (h : j < ps.length), PkRw wx (some ⟨g, 0, none⟩) j ps[j]) := by
        intro wx hx j h'
        exact (((HR.out j h').below hb hg).below hx hgr).rw (Nat.lt_of_lt_of_le hgr hx.size)
      have HD : Hid (ftF ps (n + 1 - k) k = if amB (ps.take k) ps[k].n ps[k].v then k else ftF ps (n + 1 - (k + 1)) (k + 1)) := by
        show _ = _
        rw [show n + 1 - k = (n + 1 - (k + 1)) + 1 by omega, ftF, List.getElem?_eq_getElem hlt']
      by_cases ha : amB (ps.take k) ps[k].n ps[k].v = true
      · have HF : Hid (ftT ps = k) := by show _ = _; rw [HP.out, HD.out, if_pos ha]
        have ha' : ((nbT ps ps[k].n ps[k].v : Nat) : Int) < (k : Int) := by
          have := (nb_take ps ps[k].n ps[k].v k (by omega)).2 ha
          omega
        clear ha
        go_wp2_with fail
        refine (doc_Number (some ⟨g, 0, none⟩) n cap ps ps[k].n ps[k].v _ hn hps (HW.out _ ((Below.refl _ _).alloc (Nat.le_refl _) _))).mono ?_
        rintro e w1 ⟨rfl, hb1⟩
        have hbw : Below w.heap.size w w1 := (hb.trans (Below.alloc (Below.refl _ _) hbs _)).trans (hb1.mono (by simp; omega))
        clear hb1
        go_wp2
        go_ret
        exact ⟨ret_int (by rw [HF.out]), hbw⟩
      · simp only [Bool.not_eq_true] at ha
        have HF : Hid (ftT ps = ftF ps (n + 1 - (k + 1)) (k + 1)) := by show _ = _; rw [HP.out, HD.out, if_neg (by simp [ha])]
        have ha' : ¬ ((nbT ps ps[k].n ps[k].v : Nat) : Int) < (k : Int) := by
          intro e
          have := (nb_take ps ps[k].n ps[k].v k (by omega)).1 (by omega)
          rw [ha] at this
          cases this
        clear ha
        go_wp2_with fail
        refine (doc_Number (some ⟨g, 0, none⟩) n cap ps ps[k].n ps[k].v _ hn hps (HW.out _ ((Below.refl _ _).alloc (Nat.le_refl _) _))).mono ?_
        rintro e w1 ⟨rfl, hb1⟩
        have hbw : Below w.heap.size w w1 := (hb.trans (Below.alloc (Below.refl _ _) hbs _)).trans (hb1.mono (by simp; omega))
        clear hb1
        go_wp2
        go_roundw
        case rel => exact ⟨k + 1, by omega, by go_num, HF, hbw⟩
        case measure => simp [intOf]; omega
    · have HF : Hid (ftT ps = n) := by
        show _ = _
        have hk' : k = n := by omega
        rw [HP.out, hk', show n + 1 - n = 0 + 1 by omega, ftF, List.getElem?_eq_none (by omega)]
      go_wp2
      go_ret
      exact ⟨ret_int (by rw [HF.out]), hb⟩

end Go.Proofs.YtenbnmbbfeekpabGreatDoor

/-
  Rows of structs: the cells of element j.
-/
namespace Go.Proofs.YtenbnmbbfeekpabGreatDoor
open Go.RowKit

theorem flat_get (m : Nat) : ∀ (css : List (List Value)), (∀ c ∈ css, c.length = m) → ∀ j k, k < m → css.flatten[j * m + k]? = (css[j]?).bind (fun c => c[k]?)
  | [], _, j, k, _ => by simp
  | c :: css, h, 0, k, hk => by
    have hc : c.length = m := h c (by simp)
    simp [List.getElem?_append_left (show k < c.length by omega)]
  | c :: css, h, j + 1, k, hk => by
    have hc : c.length = m := h c (by simp)
    have ih := flat_get m css (fun c hc => h c (by simp [hc])) j k hk
    rw [List.flatten_cons, List.getElem?_append_right (by rw [hc, Nat.add_mul]; omega), hc, show (j + 1) * m + k - m = j * m + k by rw [Nat.add_mul]; omega, ih]
    simp
theorem All2.get {α β : Type} {R : α → β → Prop} : ∀ {la : List α} {lb : List β}, All2 R la lb → ∀ {j : Nat} {b : β}, lb[j]? = some b → ∃ a, la[j]? = some a ∧ R a b
  | [], [], _, j, b, h => by simp at h
  | a :: _, b' :: _, hr, 0, b, h => by simp at h; subst h; exact ⟨a, rfl, hr.1⟩
  | _ :: _, _ :: _, hr, j + 1, b, h => by
    obtain ⟨a, ha, hr'⟩ := All2.get hr.2 (j := j) (b := b) (by simpa using h)
    exact ⟨a, by simpa using ha, hr'⟩
  | [], _ :: _, hr, _, _, _ => hr.elim
  | _ :: _, [], hr, _, _, _ => hr.elim
theorem All2.forall {α β : Type} {R : α → β → Prop} {Q : α → Prop} (hq : ∀ a b, R a b → Q a) : ∀ {la : List α} {lb : List β}, All2 R la lb → ∀ a ∈ la, Q a
  | [], [], _, a, ha => by simp at ha
  | a' :: _, _ :: _, hr, a, ha => by
    rcases List.mem_cons.1 ha with rfl | ha
    · exact hq _ _ hr.1
    · exact All2.forall hq hr.2 a ha
  | [], _ :: _, hr, _, _ => hr.elim
  | _ :: _, [], hr, _, _ => hr.elim

theorem own_cell {w : World} {base : Nat} {e : TypeId} {size g n cap : Nat} {xs : List Value} (h : w.ownsRow base e size (.slice (some ⟨g, 0, none⟩) n cap) n xs) (i : Nat) (x : Value) (hx : xs[i]? = some x) : w.cell? ⟨g, i, none⟩ = some x := by
  have := h.cells (g := g) rfl i x hx
  rwa [Addr.add_lit, Nat.zero_add] at this
theorem own_lt {w : World} {base : Nat} {e : TypeId} {size g n cap : Nat} {xs : List Value} (h : w.ownsRow base e size (.slice (some ⟨g, 0, none⟩) n cap) n xs) : g < w.heap.size := (h.lt g rfl).2
theorem own_shape {w : World} {base : Nat} {e : TypeId} {size n : Nat} {v : Value} {xs : List Value} (h : w.ownsRow base e size v n xs) : (v = .slice none 0 0 ∧ n = 0) ∨ ∃ g cap, v = .slice (some ⟨g, 0, none⟩) n cap ∧ n ≤ cap := by
  rcases h.2 with h | ⟨g, cap, cur, a, _, _, b, _⟩
  · exact Or.inl h
  · exact Or.inr ⟨g, cap, a, b⟩

theorem shape3 {B : Nat} {w : World} {v : Value} {l : List (List Cn)} (h : NsAt B w v l) : ∃ a n c, v = .slice a n c := by obtain ⟨_, h, _⟩ := h; rcases own_shape h with ⟨rfl, _⟩ | ⟨g, cap, rfl, _⟩ <;> exact ⟨_, _, _, rfl⟩

theorem pks_rows {B : Nat} {w : World} {v : Value} {ps : List Pk} (h : PksAt B w v ps) : (v = .slice none 0 0 ∧ ps = []) ∨ ∃ g cap, v = .slice (some ⟨g, 0, none⟩) ps.length cap ∧ ps.length ≤ cap ∧ g < w.heap.size ∧ ∀ j (h : j < ps.length), PkRow w g j ps[j] := by
  obtain ⟨css, h1, h2⟩ := h
  rcases own_shape h1 with ⟨rfl, h0⟩ | ⟨g, cap, rfl, hc⟩
  · exact Or.inl ⟨rfl, List.eq_nil_of_length_eq_zero h0⟩
  · refine Or.inr ⟨g, cap, rfl, hc, own_lt h1, fun j hj => ?_⟩
    obtain ⟨c, hcj, vn, vc, vp, rfl, hp⟩ := h2.get (j := j) (List.getElem?_eq_getElem hj)
    have h6 : ∀ c ∈ css, c.length = 6 := All2.forall (Q := fun c : List Value => c.length = 6) (fun a b ⟨_, _, _, e, _⟩ => by rw [e]; rfl) h2
    have hf : ∀ k, k < 6 → css.flatten[j * 6 + k]? = (pkCells ps[j] vn vc vp)[k]? := fun k hk => by rw [flat_get 6 css h6 j k hk, hcj]; rfl
    obtain ⟨an, nn, cn, rfl⟩ := shape3 hp.1
    obtain ⟨ac, nc, cc, rfl⟩ : ∃ a n c, vc = .slice a n c := by rcases own_shape hp.2.1 with ⟨rfl, _⟩ | ⟨g, cap, rfl, _⟩ <;> exact ⟨_, _, _, rfl⟩
    obtain ⟨ap, np, cp, rfl⟩ : ∃ a n c, vp = .slice a n c := by rcases own_shape hp.2.2 with ⟨rfl, _⟩ | ⟨g, cap, rfl, _⟩ <;> exact ⟨_, _, _, rfl⟩
    exact ⟨an, nn, cn, ac, nc, cc, ap, np, cp, own_cell h1 _ _ (hf 0 (by omega)), own_cell h1 _ _ (hf 1 (by omega)), own_cell h1 _ _ (hf 2 (by omega)), own_cell h1 _ _ (hf 3 (by omega)), own_cell h1 _ _ (hf 4 (by omega)), own_cell h1 _ _ (hf 5 (by omega))⟩

end Go.Proofs.YtenbnmbbfeekpabGreatDoor

namespace Go.Proofs.YtenbnmbbfeekpabGreatDoor
open Go.RowKit

set_option maxHeartbeats 400000 in
theorem doc_firstTwice_nil (ao : Option Addr) (cap : Nat) (w : World) : Calls Tryz.prog 49 #[.slice ao 0 cap] w fun e w' => e = .returned (.int .i64 0) ∧ w' = w := by
  go_enter Tryz.func49, Tryz.ntmps49
  go_wp2
  go_loopw [7] (fun i wr => i = .int .i64 0 ∧ w = wr) (fun i _ => 0)
  case atStart => exact ⟨rfl, rfl⟩
  case round =>
    obtain ⟨rfl, rfl⟩ := hrel
    go_wp2
    go_ret
    exact ⟨rfl, rfl⟩
/-- firstTwice over packages as they lie in memory. -/
theorem doc_firstTwice_at {B : Nat} {v : Value} {ps : List Pk} (w : World) (hn : ps.length ≤ 801) (h : PksAt B w v ps) :
    Calls Tryz.prog 49 #[v] w fun e w' => e = .returned (.int .i64 (ftT ps)) ∧ Below w.heap.size w w' := by
  rcases pks_rows h with ⟨rfl, rfl⟩ | ⟨g, cap, rfl, hc, hg, hr⟩
  · exact (doc_firstTwice_nil none 0 w).mono fun e w' ⟨he, hw⟩ => ⟨he, by rw [hw]; exact Below.refl _ _⟩
  · exact doc_firstTwice g ps.length cap ps w hn hc rfl hg hr
theorem DcAt.kp {B : Nat} {w w' : World} {d : Dc} {vp vi vr vu : Value} (h : DcAt B w d vp vi vr vu) (hk : Kp B w w') : DcAt B w' d vp vi vr vu := ⟨h.1.kp hk, h.2.1.kp hk, h.2.2.1.kp hk, h.2.2.2.kp hk⟩
theorem DcAt.alloc {B : Nat} {w : World} {d : Dc} {vp vi vr vu : Value} (h : DcAt B w d vp vi vr vu) (o : Obj) : DcAt B (w.alloc o) d vp vi vr vu := ⟨h.1.alloc o, h.2.1.alloc o, h.2.2.1.alloc o, h.2.2.2.alloc o⟩
theorem DcAt.setT {B : Nat} {w : World} {d : Dc} {vp vi vr vu : Value} (h : DcAt B w d vp vi vr vu) {k : Nat} {cur : Array Value} {T : TypeId} {m : Nat × Nat} (hk : w.heap[k]? = some (.cells cur T m)) (h0 : 140 ≠ T) (h1 : 185 ≠ T) (h2 : 183 ≠ T) (h3 : 5 ≠ T) (o : Nat) (u : Value) : DcAt B (w.setCell ⟨k, o, none⟩ u) d vp vi vr vu :=
  ⟨h.1.setT hk h0 h1 h2 h3 o u, h.2.1.setT hk h1 o u, h.2.2.1.setT hk h1 o u, h.2.2.2.setT hk h1 o u⟩
theorem Kp.toBelow {B n : Nat} {a w : World} (h : Kp B a w) (hB : n ≤ B) (hn : n ≤ a.heap.size) : Below n a w := ⟨h.os, h.tape, h.output, h.size, fun k hk => h.block k (by omega) (by intro e; injection e with e; omega)⟩
theorem blk_below {n : Nat} {a w : World} (h : Below n a w) {k : Nat} {x : Obj} (hx : a.heap[k]? = some x) (hk : k < n) : w.heap[k]? = some x := (h.block k hk).trans hx
def rdE (t : List UInt8) : Nat := if 800 < t.length then 1 else if dcBad t then 2 else if 20 < (dcV t).packs.length then 3 else if ftT (dcV t).packs < (dcV t).packs.length then 4 else 0
def rdP (t : List UInt8) : Nat := if 800 < t.length then 0 else if dcBad t then dcI t else if 20 < (dcV t).packs.length then 0 else if ftT (dcV t).packs < (dcV t).packs.length then ftT (dcV t).packs else 0
theorem rd_3 {t : List UInt8} (h1 : ¬ 800 < t.length) (h2 : dcBad t = false) (h3 : 20 < (dcV t).packs.length) : rdE t = 3 ∧ rdP t = 0 := by simp [rdE, rdP, h1, h2, h3]
theorem rd_4 {t : List UInt8} (h1 : ¬ 800 < t.length) (h2 : dcBad t = false) (h3 : ¬ 20 < (dcV t).packs.length) (h4 : ftT (dcV t).packs < (dcV t).packs.length) : rdE t = 4 ∧ rdP t = ftT (dcV t).packs := by simp [rdE, rdP, h1, h2, h3, h4]
theorem rd_0 {t : List UInt8} (h1 : ¬ 800 < t.length) (h2 : dcBad t = false) (h3 : ¬ 20 < (dcV t).packs.length) (h4 : ¬ ftT (dcV t).packs < (dcV t).packs.length) : rdE t = 0 ∧ rdP t = 0 := by simp [rdE, rdP, h1, h2, h3, h4]
set_option maxHeartbeats 1600000 in
set_option maxRecDepth 100000 in
theorem doc_Read (s : ByteArray) (w : World) (hs : s.size ≤ maxLen) :
    Calls Tryz.prog 24 #[.string s] w fun e w' => ∃ ap np cp ai ni ci ar nr cr au nu cu, e = .returned (.agg #[.slice ap np cp, .slice ai ni ci, .slice ar nr cr, .slice au nu cu, .int .i64 (rdE s.data.toList), .int .i64 (rdP s.data.toList)]) ∧ Below w.heap.size w w' ∧
      (rdE s.data.toList = 0 → DcAt (w.heap.size + 1) w' (dcV s.data.toList) (.slice ap np cp) (.slice ai ni ci) (.slice ar nr cr) (.slice au nu cu)) := by
  unfold maxLen at hs
  by_cases hlong : 800 < s.size
  · have HE : Hid (rdE s.data.toList = 1 ∧ rdP s.data.toList = 0) := by show _ ∧ _; unfold rdE rdP; rw [sz, if_pos hlong, if_pos hlong]; exact ⟨rfl, rfl⟩
    go_enter Tryz.func24, Tryz.ntmps24
    go_wp2
    refine bodyPost_ret (v := .agg #[.slice none 0 0, .slice none 0 0, .slice none 0 0, .slice none 0 0, .int .i64 1, .int .i64 0]) ?_ rfl ⟨none, 0, 0, none, 0, 0, none, 0, 0, none, 0, 0, ?_, ?_, fun h => ?_⟩
    · simp [results, Tryz.results24, go_sem]
    · rw [HE.out.1, HE.out.2]; rfl
    · exact (Below.refl _ _).alloc (Nat.le_refl _) _
    · rw [HE.out.1] at h; cases h
  · have hs8 : s.size ≤ 800 := by omega
    have hR0 : Rd (w.heap.size + 1) ((w.alloc (.cells #[.slice none 0 0, .slice none 0 0, .slice none 0 0, .slice none 0 0, .int .i64 0, .int .i64 0] 65)).alloc (.cells #[.string s, .int .i64 0, .bool false] 109)) s 0 false := by
      have := blk_new (w.alloc (.cells #[.slice none 0 0, .slice none 0 0, .slice none 0 0, .slice none 0 0, .int .i64 0, .int .i64 0] 65)) (.cells #[.string s, .int .i64 0, .bool false] 109)
      rwa [World.size_alloc] at this
    have HR0 : Hid _ := hR0
    clear hR0
    go_enter Tryz.func24, Tryz.ntmps24
    go_wp2_with fail
    refine (rd_document (w.heap.size + 1) s _ hs8 HR0.out).mono ?_
    rintro e w1 ⟨vp, vi, vr, vu, rfl, hd, ⟨ap, np, cp, rfl⟩, ⟨ai, ni, ci, rfl⟩, ⟨ar, nr, cr, rfl⟩, ⟨au, nu, cu, rfl⟩, hr1, hk1, hI, hpl⟩
    have hnp : np = (dcV s.data.toList).packs.length := by
      obtain ⟨css, h1, _⟩ := hd.1
      rcases own_shape h1 with ⟨h, h0⟩ | ⟨g, cap, h, _⟩
      · injection h with _ h _; omega
      · injection h with _ h _
    subst hnp
    have hbres := hk1.blk (blk_old (blk_new w _) _) (by omega)
    have hbw : Below w.heap.size w w1 := (((Below.refl _ _).alloc (Nat.le_refl _) _).alloc (by simp) _).trans (hk1.toBelow (by omega) (by simp; omega))
    have hBlt := hr1.lt
    have hHlt : w.heap.size < w1.heap.size := by omega
    have c1 := hr1.c1
    have c2 := hr1.c2
    have HD : Hid (DcAt (w.heap.size + 1) w1 (dcV s.data.toList) (.slice ap (dcV s.data.toList).packs.length cp) (.slice ai ni ci) (.slice ar nr cr) (.slice au nu cu)) := hd
    have HBW : Hid (Below w.heap.size w w1) := hbw
    have HBR : Hid (w1.heap[w.heap.size]? = some (.cells #[.slice none 0 0, .slice none 0 0, .slice none 0 0, .slice none 0 0, .int .i64 0, .int .i64 0] 65 (0, 0))) := hbres
    clear hd hr1 hk1 HR0 hbw
    by_cases hbad : dcBad s.data.toList = true
    · have HE : Hid (rdE s.data.toList = 2 ∧ rdP s.data.toList = dcI s.data.toList) := by show _ ∧ _; unfold rdE rdP; rw [sz, if_neg hlong, if_neg hlong, if_pos hbad, if_pos hbad]; exact ⟨rfl, rfl⟩
      have d0 : w1.cell? ⟨w.heap.size, 0, none⟩ = some (.slice none 0 0) := by rw [cellAt hbres]; rfl
      have d1 : w1.cell? ⟨w.heap.size, 1, none⟩ = some (.slice none 0 0) := by rw [cellAt hbres]; rfl
      have d2 : w1.cell? ⟨w.heap.size, 2, none⟩ = some (.slice none 0 0) := by rw [cellAt hbres]; rfl
      have d3 : w1.cell? ⟨w.heap.size, 3, none⟩ = some (.slice none 0 0) := by rw [cellAt hbres]; rfl
      have d4 : w1.cell? ⟨w.heap.size, 4, none⟩ = some (.int .i64 0) := by rw [cellAt hbres]; rfl
      have d5 : w1.cell? ⟨w.heap.size, 5, none⟩ = some (.int .i64 0) := by rw [cellAt hbres]; rfl
      have e0 := freeAt hbres 0
      have e1 := freeAt hbres 1
      have e2 := freeAt hbres 2
      have e3 := freeAt hbres 3
      have e4 := freeAt hbres 4
      have e5 := freeAt hbres 5
      clear hbres
      go_wp2
      refine bodyPost_ret (v := .agg #[.slice none 0 0, .slice none 0 0, .slice none 0 0, .slice none 0 0, .int .i64 2, .int .i64 (dcI s.data.toList)]) ?_ rfl ⟨none, 0, 0, none, 0, 0, none, 0, 0, none, 0, 0, ?_, ?_, fun h => ?_⟩
      · simp [results, Tryz.results24, go_sem, d0, d1, d2, d3, d4, d5, hHlt]
      · rw [HE.out.1, HE.out.2]; rfl
      · exact (Below.alloc ((((((HBW.out.setCell (by simp) _).setCell (by simp) _).setCell (by simp) _).setCell (by simp) _).setCell (by simp) _).setCell (by simp) _) (by simp; omega) _)
      · rw [HE.out.1] at h; cases h
    · simp only [Bool.not_eq_true] at hbad
      by_cases hmany : 20 < (dcV s.data.toList).packs.length
      · have HE : Hid (rdE s.data.toList = 3 ∧ rdP s.data.toList = 0) := rd_3 (by rw [sz]; exact hlong) hbad hmany
        have d0 : w1.cell? ⟨w.heap.size, 0, none⟩ = some (.slice none 0 0) := by rw [cellAt hbres]; rfl
        have d1 : w1.cell? ⟨w.heap.size, 1, none⟩ = some (.slice none 0 0) := by rw [cellAt hbres]; rfl
        have d2 : w1.cell? ⟨w.heap.size, 2, none⟩ = some (.slice none 0 0) := by rw [cellAt hbres]; rfl
        have d3 : w1.cell? ⟨w.heap.size, 3, none⟩ = some (.slice none 0 0) := by rw [cellAt hbres]; rfl
        have d4 : w1.cell? ⟨w.heap.size, 4, none⟩ = some (.int .i64 0) := by rw [cellAt hbres]; rfl
        have d5 : w1.cell? ⟨w.heap.size, 5, none⟩ = some (.int .i64 0) := by rw [cellAt hbres]; rfl
        have e0 := freeAt hbres 0
        have e1 := freeAt hbres 1
        have e2 := freeAt hbres 2
        have e3 := freeAt hbres 3
        have e4 := freeAt hbres 4
        have e5 := freeAt hbres 5
        clear hbres
        go_wp2
        refine bodyPost_ret (v := .agg #[.slice none 0 0, .slice none 0 0, .slice none 0 0, .slice none 0 0, .int .i64 3, .int .i64 0]) ?_ rfl ⟨none, 0, 0, none, 0, 0, none, 0, 0, none, 0, 0, ?_, ?_, fun h => ?_⟩
        · simp [results, Tryz.results24, go_sem, d0, d1, d2, d3, d4, d5, hHlt]
        · rw [HE.out.1, HE.out.2]; rfl
        · exact (Below.alloc ((((((HBW.out.setCell (by simp) _).setCell (by simp) _).setCell (by simp) _).setCell (by simp) _).setCell (by simp) _).setCell (by simp) _) (by simp; omega) _)
        · rw [HE.out.1] at h; cases h
      · have HB1 : Hid ((w1.alloc (.cells #[.slice ap (dcV s.data.toList).packs.length cp, .slice ai ni ci, .slice ar nr cr, .slice au nu cu] 63)).heap[w.heap.size]? = some (.cells #[.slice none 0 0, .slice none 0 0, .slice none 0 0, .slice none 0 0, .int .i64 0, .int .i64 0] 65 (0, 0))) := blk_old HBR.out _
        clear hbres
        go_wp2_with fail
        refine (doc_firstTwice_at _ hpl (HD.out.alloc _).1).mono ?_
        rintro e w2 ⟨rfl, hb2⟩
        have hbd := blk_below hb2 (blk_new w1 (.cells #[.slice ap (dcV s.data.toList).packs.length cp, .slice ai ni ci, .slice ar nr cr, .slice au nu cu] 63)) (by simp)
        have hbres := blk_below hb2 HB1.out (by simp; omega)
        have HBR2 : Hid (w2.heap[w.heap.size]? = some (.cells #[.slice none 0 0, .slice none 0 0, .slice none 0 0, .slice none 0 0, .int .i64 0, .int .i64 0] 65 (0, 0))) := hbres
        have hsz2 := hb2.size
        simp only [World.size_alloc] at hsz2
        have HBW2 : Hid (Below w.heap.size w w2) := (HBW.out.alloc (by omega) _).trans (hb2.mono (by simp; omega))
        have HD2 : Hid (DcAt (w.heap.size + 1) w2 (dcV s.data.toList) (.slice ap (dcV s.data.toList).packs.length cp) (.slice ai ni ci) (.slice ar nr cr) (.slice au nu cu)) := (HD.out.alloc _).kp ((Kp.refl _ _).below hb2)
        have q0 : w2.cell? ⟨w1.heap.size, 0, none⟩ = some (.slice ap (dcV s.data.toList).packs.length cp) := by rw [cellAt hbd]; rfl
        have q1 : w2.cell? ⟨w1.heap.size, 1, none⟩ = some (.slice ai ni ci) := by rw [cellAt hbd]; rfl
        have q2 : w2.cell? ⟨w1.heap.size, 2, none⟩ = some (.slice ar nr cr) := by rw [cellAt hbd]; rfl
        have q3 : w2.cell? ⟨w1.heap.size, 3, none⟩ = some (.slice au nu cu) := by rw [cellAt hbd]; rfl
        have d0 : w2.cell? ⟨w.heap.size, 0, none⟩ = some (.slice none 0 0) := by rw [cellAt hbres]; rfl
        have d1 : w2.cell? ⟨w.heap.size, 1, none⟩ = some (.slice none 0 0) := by rw [cellAt hbres]; rfl
        have d2 : w2.cell? ⟨w.heap.size, 2, none⟩ = some (.slice none 0 0) := by rw [cellAt hbres]; rfl
        have d3 : w2.cell? ⟨w.heap.size, 3, none⟩ = some (.slice none 0 0) := by rw [cellAt hbres]; rfl
        have d4 : w2.cell? ⟨w.heap.size, 4, none⟩ = some (.int .i64 0) := by rw [cellAt hbres]; rfl
        have d5 : w2.cell? ⟨w.heap.size, 5, none⟩ = some (.int .i64 0) := by rw [cellAt hbres]; rfl
        have e0 := freeAt hbres 0
        have e1 := freeAt hbres 1
        have e2 := freeAt hbres 2
        have e3 := freeAt hbres 3
        have e4 := freeAt hbres 4
        have e5 := freeAt hbres 5
        clear hb2 hbres hbd HD HBW HB1 HBR
        by_cases hft : ftT (dcV s.data.toList).packs < (dcV s.data.toList).packs.length
        · have HE : Hid (rdE s.data.toList = 4 ∧ rdP s.data.toList = ftT (dcV s.data.toList).packs) := rd_4 (by rw [sz]; exact hlong) hbad hmany hft
          go_wp2
          refine bodyPost_ret (v := .agg #[.slice none 0 0, .slice none 0 0, .slice none 0 0, .slice none 0 0, .int .i64 4, .int .i64 (ftT (dcV s.data.toList).packs)]) ?_ rfl ⟨none, 0, 0, none, 0, 0, none, 0, 0, none, 0, 0, ?_, ?_, fun h => ?_⟩
          · simp [results, Tryz.results24, go_sem, d0, d1, d2, d3, d4, d5]
          · rw [HE.out.1, HE.out.2]; rfl
          · exact ((((((HBW2.out.setCell (by simp) _).setCell (by simp) _).setCell (by simp) _).setCell (by simp) _).setCell (by simp) _).setCell (by simp) _)
          · rw [HE.out.1] at h; cases h
        · have HE : Hid (rdE s.data.toList = 0 ∧ rdP s.data.toList = 0) := rd_0 (by rw [sz]; exact hlong) hbad hmany hft
          go_wp2
          refine bodyPost_ret (v := .agg #[.slice ap (dcV s.data.toList).packs.length cp, .slice ai ni ci, .slice ar nr cr, .slice au nu cu, .int .i64 0, .int .i64 0]) ?_ rfl ⟨ap, (dcV s.data.toList).packs.length, cp, ai, ni, ci, ar, nr, cr, au, nu, cu, ?_, ?_, fun h => ?_⟩
          · simp [results, Tryz.results24, go_sem, d0, d1, d2, d3, d4, d5]
          · rw [HE.out.1, HE.out.2]; rfl
          · exact ((((((HBW2.out.setCell (by simp) _).setCell (by simp) _).setCell (by simp) _).setCell (by simp) _).setCell (by simp) _).setCell (by simp) _)
          · exact ((((((HD2.out.setT HBR2.out (by decide) (by decide) (by decide) (by decide) 0 _).setT (setAt HBR2.out 0 _) (by decide) (by decide) (by decide) (by decide) 1 _).setT (setAt (setAt HBR2.out 0 _) 1 _) (by decide) (by decide) (by decide) (by decide) 2 _).setT (setAt (setAt (setAt HBR2.out 0 _) 1 _) 2 _) (by decide) (by decide) (by decide) (by decide) 3 _).setT (setAt (setAt (setAt (setAt HBR2.out 0 _) 1 _) 2 _) 3 _) (by decide) (by decide) (by decide) (by decide) 4 _).setT (setAt (setAt (setAt (setAt (setAt HBR2.out 0 _) 1 _) 2 _) 3 _) 4 _) (by decide) (by decide) (by decide) (by decide) 5 _)

end Go.Proofs.YtenbnmbbfeekpabGreatDoor

/-
  What the document's answer lays in memory: rows of texts, its packages.
-/
namespace Go.Proofs.YtenbnmbbfeekpabGreatDoor
open Go.RowKit

def StAt (w : World) (v : Value) (l : List (List UInt8)) : Prop := w.ownsRow 0 9 1 v l.length (l.map strV)
theorem StAt.below {w w' : World} {v : Value} {l : List (List UInt8)} (h : StAt w v l) (hb : Below w.heap.size w w') : StAt w' v l :=
  World.ownsRow.kept (row := none) h ⟨hb.os, hb.tape, hb.output, hb.size, fun k hk _ => hb.block k hk⟩ (by rcases v.ownBlock with _ | k <;> simp)
theorem StAt.alloc {w : World} {v : Value} {l : List (List UInt8)} (h : StAt w v l) (o : Obj) : StAt (w.alloc o) v l := World.ownsRow.alloc h o
theorem StAt.drew {w : World} {v : Value} {l : List (List UInt8)} (h : StAt w v l) : StAt w.drew v l := h
theorem StAt.drewN {w : World} {v : Value} {l : List (List UInt8)} (h : StAt w v l) (n : Nat) : StAt (w.drewN n) v l := h
theorem StAt.setT {w : World} {v : Value} {l : List (List UInt8)} (h : StAt w v l) {k : Nat} {cur : Array Value} {T : TypeId} {m : Nat × Nat} (hk : w.heap[k]? = some (.cells cur T m)) (hT : 9 ≠ T) (o : Nat) (u : Value) : StAt (w.setCell ⟨k, o, none⟩ u) v l := own_setT h hk hT o u
theorem StAt.other {w w' : World} {v : Value} {l : List (List UInt8)} (h : StAt w v l) {b : Nat} {e : TypeId} {sz : Nat} {o : Value} {n : Nat} {xs : List Value} (ho : w.ownsRow b e sz o n xs) (he : 9 ≠ e) (hg : w.grownBy w' o.ownBlock) : StAt w' v l := World.ownsRow.kept h hg (own_ne h ho he)
theorem StAt.of {w : World} {base : Nat} {v : Value} {l : List (List UInt8)} (h : w.ownsRow base 9 1 v l.length (l.map strV)) : StAt w v l := own_mono h (Nat.zero_le _)
/-- A row of texts: nil, or its cells. -/
theorem StAt.cells {w : World} {v : Value} {l : List (List UInt8)} (h : StAt w v l) : (v = .slice none 0 0 ∧ l = []) ∨ ∃ g cap, v = .slice (some ⟨g, 0, none⟩) l.length cap ∧ g < w.heap.size ∧ ∀ j (x : List UInt8), l[j]? = some x → w.cell? ⟨g, j, none⟩ = some (strV x) := by
  rcases own_shape h with ⟨rfl, h0⟩ | ⟨g, cap, rfl, hc⟩
  · exact Or.inl ⟨rfl, List.eq_nil_of_length_eq_zero h0⟩
  · exact Or.inr ⟨g, cap, rfl, own_lt h, fun j x hx => own_cell h j _ (by simp [hx])⟩
theorem StAt.shape {w : World} {v : Value} {l : List (List UInt8)} (h : StAt w v l) : ∃ a n c, v = .slice a n c := by
  rcases own_shape h with ⟨rfl, _⟩ | ⟨g, cap, rfl, _⟩ <;> exact ⟨_, _, _, rfl⟩

end Go.Proofs.YtenbnmbbfeekpabGreatDoor
