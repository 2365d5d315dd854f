import Derived.Test.YtdfnnpakdbhhpaaGreatDoorRdG
import Derived.Test.YtdfnnpakdbhhpaaGreatDoorRepP
namespace Go.Proofs.YtdfnnpakdbhhpaaGreatDoor
open Go.RowKit

theorem Tryz.infoPk : (Tryz.prog.info? 88).map (fun i => (i.zero, i.size, i.bytes)) = some (some (.agg #[.int .u8 0, .int .u8 0, .int .i64 0, .slice none 0 0, .slice none 0 0, .slice none 0 0]), 6, 88) := by kernel_rfl

structure DcR (B : Nat) (w wr : World) (s : ByteArray) (gk : Nat) (ao : Option Addr) (nn cc : Nat) (css : List (List Value)) (acc : List Pk) (st : St) : Prop where
  fr : Fr B w wr 50 #[.slice none 0 0, .slice none 0 0, .slice none 0 0, .slice none 0 0] #[.slice ao nn cc, .slice none 0 0, .slice none 0 0, .slice none 0 0] s st
  le : st.1 ≤ s.size
  own : wr.ownsRow (w.heap.size + 2) 88 6 (.slice ao nn cc) acc.length css.flatten
  all : All2 (PkC B wr) css acc
  eq : d0 s.data.toList = (acc ++ (pksF s.data.toList gk st).1, (pksF s.data.toList gk st).2)
  gk : s.size - st.1 < gk
  al : acc.length ≤ st.1

theorem dcR_step {B : Nat} {w wr w2 : World} {s : ByteArray} {gk : Nat} {ao : Option Addr} {nn cc : Nat} {css : List (List Value)} {acc : List Pk} {st : St} (h : DcR B w wr s gk ao nn cc css acc st) (hn : naB s.data.toList st.1 st.2 = true)
    {ao' : Option Addr} {nn' cc' : Nat} {cs : List Value} (fr : Fr B w w2 50 #[.slice none 0 0, .slice none 0 0, .slice none 0 0, .slice none 0 0] #[.slice ao' nn' cc', .slice none 0 0, .slice none 0 0, .slice none 0 0] s (p5 s.data.toList st)) (le : (p5 s.data.toList st).1 ≤ s.size)
    (own : w2.ownsRow (w.heap.size + 2) 88 6 (.slice ao' nn' cc') (acc.length + 1) (css.flatten ++ cs)) (all : All2 (PkC B w2) (css ++ [cs]) (acc ++ [pkV s.data.toList st])) :
    DcR B w w2 s (gk - 1) ao' nn' cc' (css ++ [cs]) (acc ++ [pkV s.data.toList st]) (p5 s.data.toList st) := by
  have hg := h.gk
  have ha := h.al
  have h5 := p5_ge s.data.toList st hn
  obtain ⟨f, rfl⟩ : ∃ f, gk = f + 1 := ⟨gk - 1, by omega⟩
  have hy := h.eq
  rw [pksF_yes hn] at hy
  refine ⟨fr, le, by simpa using own, all, by rw [hy]; simp, by simp; omega, by simp; omega⟩

/-- A document in memory, above the reader's block. -/
def DcAt (B : Nat) (w : World) (d : Dc) (vp vi vr vu : Value) : Prop := PksAt B w vp d.packs ∧ CsAt B w vi d.ins ∧ CsAt B w vr d.rem ∧ CsAt B w vu d.upg

theorem dc_eq {t : List UInt8} {st0 st1 st2 st3 st4 st5 st6 : St} {ps : List Pk} (E0 : d0 t = (ps, st0)) (E1 : exS t 47 st0 = st1) (E2 : (csF t st1).2 = st2) (E3 : exS t 47 st2 = st3) (E4 : (csF t st3).2 = st4) (E5 : exS t 47 st4 = st5) (E6 : (csF t st5).2 = st6) :
    dcV t = { packs := ps, ins := (csF t st1).1, rem := (csF t st3).1, upg := (csF t st5).1 } ∧ dcI t = st6.1 ∧ dcBad t = if st6.1 < t.length then true else st6.2 := by
  subst E1 E2 E3 E4 E5 E6
  unfold dcV dcBad dcI d3 d2 d1
  rw [E0]
  exact ⟨rfl, rfl, rfl⟩

set_option maxHeartbeats 1600000 in
set_option maxRecDepth 100000 in
theorem rd_document (B : Nat) (s : ByteArray) (w : World) (hs : s.size ≤ 800) (hr : Rd B w s 0 false) :
    Calls Tryz.prog 41 #[.pointer (some ⟨B, 0, none⟩)] w fun e w' => ∃ vp vi vr vu, e = .returned (.agg #[vp, vi, vr, vu]) ∧ DcAt B w' (dcV s.data.toList) vp vi vr vu ∧ (∃ a n c, vp = .slice a n c) ∧ (∃ a n c, vi = .slice a n c) ∧ (∃ a n c, vr = .slice a n c) ∧ (∃ a n c, vu = .slice a n c) ∧
      Rd B w' s (dcI s.data.toList) (dcBad s.data.toList) ∧ Kp B w w' ∧ dcI s.data.toList ≤ s.size ∧ (dcV s.data.toList).packs.length ≤ 801 := by
  obtain ⟨i0, hi0, hz0, hz1, hz2⟩ := info_parts Tryz.infoPk
  have hB := hr.lt
  have HF : Hid (Fr B w _ 50 #[.slice none 0 0, .slice none 0 0, .slice none 0 0, .slice none 0 0] #[.slice none 0 0, .slice none 0 0, .slice none 0 0, .slice none 0 0] s (0, false)) := Fr.start (st := (0, false)) hr 50 #[.slice none 0 0, .slice none 0 0, .slice none 0 0, .slice none 0 0]
  clear hr
  go_enter Tryz.func41, Tryz.ntmps41
  go_wp2
  go_loopg [] (s.size + 2) (fun gk wr => ∃ (ao : Option Addr) (nn cc : Nat) (css : List (List Value)) (acc : List Pk) (st : St), DcR B w wr s gk ao nn cc css acc st)
  case atStart => exact ⟨none, 0, 0, [], [], (0, false), HF.out, by simp, World.ownsRow_nil _ _ _ _, trivial, by rw [show s.size = s.data.toList.length from (sz s).symm]; simp [d0], by simp, by simp⟩
  case round =>
    obtain ⟨ao, nn, cc, css, acc, st, hA⟩ := hrel
    have HA : Hid (DcR B w wr s gk ao nn cc css acc st) := hA
    have hle := hA.le
    have hal := hA.al
    have hgk := hA.gk
    clear hA HF
    go_wp2_with fail
    refine (rd_nameAhead B s st.1 st.2 _ hs hle HA.out.fr.rd).mono ?_
    rintro e w1 ⟨rfl, n, rfl⟩
    by_cases hn : naB s.data.toList st.1 st.2 = true
    · rw [hn]
      go_wp2_with fail
      refine (rd_pack B s st _ hs hle (HA.out.fr.rd.drewN n)).mono ?_
      rintro e w2 ⟨vn, vc, vp, rfl, hp, ⟨an, nn', cn, rfl⟩, ⟨ac, nc, cc', rfl⟩, ⟨ap, np, cp, rfl⟩, hr2, hk2, hl2⟩
      have hk2' : Kp B wr w2 := ((Kp.refl B wr).drewN n).trans hk2
      have hown := own_kp HA.out.own hk2' (by omega)
      have h := HA.out.fr.call hr2 hk2'
      have HP : Hid (PkAt B w2 (pkV s.data.toList st) (.slice an nn' cn) (.slice ac nc cc') (.slice ap np cp)) := hp
      have HL : Hid (All2 (PkC B w2) css acc) := HA.out.all.mono fun _ _ h => h.kp hk2'
      have HF2 : Hid (Fr B w w2 50 #[.slice none 0 0, .slice none 0 0, .slice none 0 0, .slice none 0 0] #[.slice ao nn cc, .slice none 0 0, .slice none 0 0, .slice none 0 0] s (p5 s.data.toList st)) := h
      have c0 : w2.cell? ⟨w.heap.size + 1, 0, none⟩ = some (.slice ao nn cc) := h.c 0 rfl
      have hsz2 := ltAt h.b2
      have HN : Hid (naB s.data.toList st.1 st.2 = true) := hn
      clear h hp hr2 hk2 hk2' hn
      obtain ⟨cs, hcs⟩ : ∃ cs, cs = pkCells (pkV s.data.toList st) (.slice an nn' cn) (.slice ac nc cc') (.slice ap np cp) := ⟨_, rfl⟩
      have HCS : Hid (cs = pkCells (pkV s.data.toList st) (.slice an nn' cn) (.slice ac nc cc') (.slice ap np cp)) := hcs
      clear hcs
      unfold pkCells
      go_wp2_with (at_builtin; refine wpList_append_own _ rfl _ _ 47 rfl (w.heap.size + 2) 88 i0 (.agg #[.int .u8 0, .int .u8 0, .int .i64 0, .slice none 0 0, .slice none 0 0, .slice none 0 0]) 6 88 Tryz.underlying47 hi0 hz0 hz1 hz2 rfl (by decide) _ _ _ rfl ((hown.alloc _).alloc _) ⟨w2.heap.size + 1, 0, none⟩ 1 1 (pkCells (pkV s.data.toList st) (.slice an nn' cn) (.slice ac nc cc') (.slice ap np cp)) rfl rfl ?c1 ?c2 ?c3 ?c4 ?c5 ?_)
      case c1 => have := cell_new (w2.alloc (.cells (pkCells (pkV s.data.toList st) (.slice an nn' cn) (.slice ac nc cc') (.slice ap np cp)).toArray 88)) (pkCells (pkV s.data.toList st) (.slice an nn' cn) (.slice ac nc cc') (.slice ap np cp)) 88; rw [World.size_alloc] at this; exact this
      case c2 => intro u hu; simp [pkCells] at hu; rcases hu with rfl | rfl | rfl | rfl | rfl | rfl <;> rfl
      case c3 => unfold maxLen; omega
      case c4 => omega
      case c5 => simp; omega
      intro v' w3 hown' hgrow _
      have h3 := ((HF2.out.alloc _).alloc _).grown hgrow (fun k hk => (hown.lt k hk).1)
      obtain ⟨a3, n3, c3, hv3⟩ : ∃ a n c, v' = .slice a n c := shape_of hown'
      rw [hv3] at hown' ⊢
      have c0' : w3.cell? ⟨w.heap.size + 1, 0, none⟩ = some (.slice ao nn cc) := h3.c 0 rfl
      have f0 := h3.f 0
      have HL3 : Hid (All2 (PkC B w3) (css ++ [cs]) (acc ++ [pkV s.data.toList st])) :=
        All2.snoc ⟨_, _, _, HCS.out, ((HP.out.alloc _).alloc _).other ((hown.alloc _).alloc _) hgrow⟩ (HL.out.mono fun _ _ h => ((h.alloc _).alloc _).other ((hown.alloc _).alloc _) hgrow)
      have HR3 : Hid _ := dcR_step (cs := cs) HA.out HN.out (h3.store 0 (.slice a3 n3 c3)) hl2 (own_setT (by rw [HCS.out]; exact hown') h3.b2 (by decide) 0 _) (HL3.out.mono fun _ _ h => h.setT h3.b2 (by decide) (by decide) (by decide) 0 _)
      clear hown' hgrow hown HL HP HF2 h3 HL3 HA hv3
      go_wp2
      go_roundg (gk - 1)
      case measure => omega
      case rel => exact ⟨_, _, _, _, _, _, HR3.out⟩
    · simp only [Bool.not_eq_true] at hn
      rw [hn]
      have E0 : Hid (d0 s.data.toList = (acc, st)) := by have := HA.out.eq; rw [pksF_no hn] at this; show _ = _; simpa using this
      have HF0 : Hid (Fr B w (wr.drewN n) 50 #[.slice none 0 0, .slice none 0 0, .slice none 0 0, .slice none 0 0] #[.slice ao nn cc, .slice none 0 0, .slice none 0 0, .slice none 0 0] s st) := HA.out.fr.call (HA.out.fr.rd.drewN n) ((Kp.refl B wr).drewN n)
      have HP : Hid (PksAt B (wr.drewN n) (.slice ao nn cc) acc) := ⟨css, own_mono HA.out.own (by omega), HA.out.all⟩
      clear HA hn
      go_wp2_with fail
      refine (rd_expect B s st.1 st.2 47 47 rfl _ hs hle HF0.out.rd).mono ?_
      rintro e w1x ⟨rfl, hr, hk⟩
      obtain ⟨st1, E1⟩ : ∃ x : St, Hid (exS s.data.toList 47 st = x) := ⟨_, rfl⟩
      replace hr : Rd B w1x s st1.1 st1.2 := by rw [← E1.out]; exact hr
      have l1 : st1.1 ≤ s.size := by rw [← E1.out]; exact acI_le s 47 st.1 st.2 hle
      have h := HF0.out.call hr hk
      replace HP : Hid (PksAt B w1x (.slice ao nn cc) acc) := HP.out.kp hk
      have HF1 : Hid (Fr B w w1x 50 #[.slice none 0 0, .slice none 0 0, .slice none 0 0, .slice none 0 0] #[.slice ao nn cc, .slice none 0 0, .slice none 0 0, .slice none 0 0] s st1) := h
      clear HF0 h hr hk
      go_wp2_with fail
      refine (rd_constraints B s st1 _ hs l1 HF1.out.rd).mono ?_
      rintro e w2x ⟨v1, rfl, hc, hr, hk, l2, _⟩
      obtain ⟨st2, E2⟩ : ∃ x : St, Hid ((csF s.data.toList st1).2 = x) := ⟨_, rfl⟩
      replace hr : Rd B w2x s st2.1 st2.2 := by rw [← E2.out]; exact hr
      replace l2 : st2.1 ≤ s.size := by rw [← E2.out]; exact l2
      have h := HF1.out.call hr hk
      replace HP : Hid (PksAt B w2x (.slice ao nn cc) acc) := HP.out.kp hk
      obtain ⟨av1, nv1, cv1, rfl⟩ : ∃ a n c, v1 = .slice a n c := shape_of hc
      have Hv1 : Hid (CsAt B w2x (.slice av1 nv1 cv1) (csF s.data.toList st1).1) := hc
      clear hc
      have q1 : w2x.cell? ⟨w.heap.size + 1, 1, none⟩ = some (.slice none 0 0) := h.c 1 rfl
      have g1 := h.f 1
      replace HP : Hid (PksAt B _ (.slice ao nn cc) acc) := HP.out.setT h.b2 (by decide) (by decide) (by decide) (by decide) 1 (.slice av1 nv1 cv1)
      replace Hv1 : Hid (CsAt B _ (.slice av1 nv1 cv1) (csF s.data.toList st1).1) := Hv1.out.setT h.b2 (by decide) 1 (.slice av1 nv1 cv1)
      have HF2 : Hid (Fr B w _ 50 #[.slice none 0 0, .slice none 0 0, .slice none 0 0, .slice none 0 0] #[.slice ao nn cc, .slice av1 nv1 cv1, .slice none 0 0, .slice none 0 0] s st2) := h.store 1 (.slice av1 nv1 cv1)
      clear HF1 h hr hk
      go_wp2_with fail
      refine (rd_expect B s st2.1 st2.2 47 47 rfl _ hs l2 HF2.out.rd).mono ?_
      rintro e w3x ⟨rfl, hr, hk⟩
      obtain ⟨st3, E3⟩ : ∃ x : St, Hid (exS s.data.toList 47 st2 = x) := ⟨_, rfl⟩
      replace hr : Rd B w3x s st3.1 st3.2 := by rw [← E3.out]; exact hr
      have l3 : st3.1 ≤ s.size := by rw [← E3.out]; exact acI_le s 47 st2.1 st2.2 l2
      have h := HF2.out.call hr hk
      replace HP : Hid (PksAt B w3x (.slice ao nn cc) acc) := HP.out.kp hk
      replace Hv1 : Hid (CsAt B w3x (.slice av1 nv1 cv1) (csF s.data.toList st1).1) := Hv1.out.kp hk
      have HF3 : Hid (Fr B w w3x 50 #[.slice none 0 0, .slice none 0 0, .slice none 0 0, .slice none 0 0] #[.slice ao nn cc, .slice av1 nv1 cv1, .slice none 0 0, .slice none 0 0] s st3) := h
      clear HF2 h hr hk
      go_wp2_with fail
      refine (rd_constraints B s st3 _ hs l3 HF3.out.rd).mono ?_
      rintro e w4x ⟨v2, rfl, hc, hr, hk, l4, _⟩
      obtain ⟨st4, E4⟩ : ∃ x : St, Hid ((csF s.data.toList st3).2 = x) := ⟨_, rfl⟩
      replace hr : Rd B w4x s st4.1 st4.2 := by rw [← E4.out]; exact hr
      replace l4 : st4.1 ≤ s.size := by rw [← E4.out]; exact l4
      have h := HF3.out.call hr hk
      replace HP : Hid (PksAt B w4x (.slice ao nn cc) acc) := HP.out.kp hk
      replace Hv1 : Hid (CsAt B w4x (.slice av1 nv1 cv1) (csF s.data.toList st1).1) := Hv1.out.kp hk
      obtain ⟨av2, nv2, cv2, rfl⟩ : ∃ a n c, v2 = .slice a n c := shape_of hc
      have Hv2 : Hid (CsAt B w4x (.slice av2 nv2 cv2) (csF s.data.toList st3).1) := hc
      clear hc
      have q2 : w4x.cell? ⟨w.heap.size + 1, 2, none⟩ = some (.slice none 0 0) := h.c 2 rfl
      have g2 := h.f 2
      replace HP : Hid (PksAt B _ (.slice ao nn cc) acc) := HP.out.setT h.b2 (by decide) (by decide) (by decide) (by decide) 2 (.slice av2 nv2 cv2)
      replace Hv1 : Hid (CsAt B _ (.slice av1 nv1 cv1) (csF s.data.toList st1).1) := Hv1.out.setT h.b2 (by decide) 2 (.slice av2 nv2 cv2)
      replace Hv2 : Hid (CsAt B _ (.slice av2 nv2 cv2) (csF s.data.toList st3).1) := Hv2.out.setT h.b2 (by decide) 2 (.slice av2 nv2 cv2)
      have HF4 : Hid (Fr B w _ 50 #[.slice none 0 0, .slice none 0 0, .slice none 0 0, .slice none 0 0] #[.slice ao nn cc, .slice av1 nv1 cv1, .slice av2 nv2 cv2, .slice none 0 0] s st4) := h.store 2 (.slice av2 nv2 cv2)
      clear HF3 h hr hk
      go_wp2_with fail
      refine (rd_expect B s st4.1 st4.2 47 47 rfl _ hs l4 HF4.out.rd).mono ?_
      rintro e w5x ⟨rfl, hr, hk⟩
      obtain ⟨st5, E5⟩ : ∃ x : St, Hid (exS s.data.toList 47 st4 = x) := ⟨_, rfl⟩
      replace hr : Rd B w5x s st5.1 st5.2 := by rw [← E5.out]; exact hr
      have l5 : st5.1 ≤ s.size := by rw [← E5.out]; exact acI_le s 47 st4.1 st4.2 l4
      have h := HF4.out.call hr hk
      replace HP : Hid (PksAt B w5x (.slice ao nn cc) acc) := HP.out.kp hk
      replace Hv1 : Hid (CsAt B w5x (.slice av1 nv1 cv1) (csF s.data.toList st1).1) := Hv1.out.kp hk
      replace Hv2 : Hid (CsAt B w5x (.slice av2 nv2 cv2) (csF s.data.toList st3).1) := Hv2.out.kp hk
      have HF5 : Hid (Fr B w w5x 50 #[.slice none 0 0, .slice none 0 0, .slice none 0 0, .slice none 0 0] #[.slice ao nn cc, .slice av1 nv1 cv1, .slice av2 nv2 cv2, .slice none 0 0] s st5) := h
      clear HF4 h hr hk
      go_wp2_with fail
      refine (rd_constraints B s st5 _ hs l5 HF5.out.rd).mono ?_
      rintro e w6x ⟨v3, rfl, hc, hr, hk, l6, _⟩
      obtain ⟨st6, E6⟩ : ∃ x : St, Hid ((csF s.data.toList st5).2 = x) := ⟨_, rfl⟩
      replace hr : Rd B w6x s st6.1 st6.2 := by rw [← E6.out]; exact hr
      replace l6 : st6.1 ≤ s.size := by rw [← E6.out]; exact l6
      have h := HF5.out.call hr hk
      replace HP : Hid (PksAt B w6x (.slice ao nn cc) acc) := HP.out.kp hk
      replace Hv1 : Hid (CsAt B w6x (.slice av1 nv1 cv1) (csF s.data.toList st1).1) := Hv1.out.kp hk
      replace Hv2 : Hid (CsAt B w6x (.slice av2 nv2 cv2) (csF s.data.toList st3).1) := Hv2.out.kp hk
      obtain ⟨av3, nv3, cv3, rfl⟩ : ∃ a n c, v3 = .slice a n c := shape_of hc
      have Hv3 : Hid (CsAt B w6x (.slice av3 nv3 cv3) (csF s.data.toList st5).1) := hc
      clear hc
      have q3 : w6x.cell? ⟨w.heap.size + 1, 3, none⟩ = some (.slice none 0 0) := h.c 3 rfl
      have g3 := h.f 3
      replace HP : Hid (PksAt B _ (.slice ao nn cc) acc) := HP.out.setT h.b2 (by decide) (by decide) (by decide) (by decide) 3 (.slice av3 nv3 cv3)
      replace Hv1 : Hid (CsAt B _ (.slice av1 nv1 cv1) (csF s.data.toList st1).1) := Hv1.out.setT h.b2 (by decide) 3 (.slice av3 nv3 cv3)
      replace Hv2 : Hid (CsAt B _ (.slice av2 nv2 cv2) (csF s.data.toList st3).1) := Hv2.out.setT h.b2 (by decide) 3 (.slice av3 nv3 cv3)
      replace Hv3 : Hid (CsAt B _ (.slice av3 nv3 cv3) (csF s.data.toList st5).1) := Hv3.out.setT h.b2 (by decide) 3 (.slice av3 nv3 cv3)
      have HF6 : Hid (Fr B w _ 50 #[.slice none 0 0, .slice none 0 0, .slice none 0 0, .slice none 0 0] #[.slice ao nn cc, .slice av1 nv1 cv1, .slice av2 nv2 cv2, .slice av3 nv3 cv3] s st6) := h.store 3 (.slice av3 nv3 cv3)
      clear HF5 h hr hk
      go_wp2_with fail
      refine (rd_expectEnd B s st6.1 st6.2 _ hs l6 HF6.out.rd).mono ?_
      rintro e w7x ⟨rfl, hr, hk⟩
      have h := HF6.out.call (st' := (st6.1, if st6.1 < s.size then true else st6.2)) hr hk
      replace HP : Hid (PksAt B w7x (.slice ao nn cc) acc) := HP.out.kp hk
      replace Hv1 : Hid (CsAt B w7x (.slice av1 nv1 cv1) (csF s.data.toList st1).1) := Hv1.out.kp hk
      replace Hv2 : Hid (CsAt B w7x (.slice av2 nv2 cv2) (csF s.data.toList st3).1) := Hv2.out.kp hk
      replace Hv3 : Hid (CsAt B w7x (.slice av3 nv3 cv3) (csF s.data.toList st5).1) := Hv3.out.kp hk
      have m0 : w7x.cell? ⟨w.heap.size + 1, 0, none⟩ = some (.slice ao nn cc) := h.c 0 rfl
      have m1 : w7x.cell? ⟨w.heap.size + 1, 1, none⟩ = some (.slice av1 nv1 cv1) := h.c 1 rfl
      have m2 : w7x.cell? ⟨w.heap.size + 1, 2, none⟩ = some (.slice av2 nv2 cv2) := h.c 2 rfl
      have m3 : w7x.cell? ⟨w.heap.size + 1, 3, none⟩ = some (.slice av3 nv3 cv3) := h.c 3 rfl
      have d0 : w7x.cell? ⟨w.heap.size, 0, none⟩ = some (.slice none 0 0) := h.c' 0 rfl
      have d1 : w7x.cell? ⟨w.heap.size, 1, none⟩ = some (.slice none 0 0) := h.c' 1 rfl
      have d2 : w7x.cell? ⟨w.heap.size, 2, none⟩ = some (.slice none 0 0) := h.c' 2 rfl
      have d3 : w7x.cell? ⟨w.heap.size, 3, none⟩ = some (.slice none 0 0) := h.c' 3 rfl
      have e0 := h.f' 0
      have e1 := h.f' 1
      have e2 := h.f' 2
      have e3 := h.f' 3
      have HFF : Hid (Fr B w w7x 50 #[.slice none 0 0, .slice none 0 0, .slice none 0 0, .slice none 0 0] #[.slice ao nn cc, .slice av1 nv1 cv1, .slice av2 nv2 cv2, .slice av3 nv3 cv3] s (st6.1, if st6.1 < s.size then true else st6.2)) := h
      have HE : Hid (dcV s.data.toList = _ ∧ dcI s.data.toList = st6.1 ∧ dcBad s.data.toList = _) := dc_eq E0.out E1.out E2.out E3.out E4.out E5.out E6.out
      clear h hr hk
      go_wp2
      refine bodyPost_ret (v := .agg #[.slice ao nn cc, .slice av1 nv1 cv1, .slice av2 nv2 cv2, .slice av3 nv3 cv3]) ?_ rfl ⟨_, _, _, _, rfl, ?_, ⟨_, _, _, rfl⟩, ⟨_, _, _, rfl⟩, ⟨_, _, _, rfl⟩, ⟨_, _, _, rfl⟩, ?_, ?_, ?_, ?_⟩
      · simp [results, Tryz.results41, go_sem, d0, d1, d2, d3]
      · rw [HE.out.1]
        exact ⟨((((HP.out.setT HFF.out.b1 (by decide) (by decide) (by decide) (by decide) 0 _).setT (setAt HFF.out.b1 0 _) (by decide) (by decide) (by decide) (by decide) 1 _).setT (setAt (setAt HFF.out.b1 0 _) 1 _) (by decide) (by decide) (by decide) (by decide) 2 _).setT (setAt (setAt (setAt HFF.out.b1 0 _) 1 _) 2 _) (by decide) (by decide) (by decide) (by decide) 3 _), ((((Hv1.out.setT HFF.out.b1 (by decide) 0 _).setT (setAt HFF.out.b1 0 _) (by decide) 1 _).setT (setAt (setAt HFF.out.b1 0 _) 1 _) (by decide) 2 _).setT (setAt (setAt (setAt HFF.out.b1 0 _) 1 _) 2 _) (by decide) 3 _), ((((Hv2.out.setT HFF.out.b1 (by decide) 0 _).setT (setAt HFF.out.b1 0 _) (by decide) 1 _).setT (setAt (setAt HFF.out.b1 0 _) 1 _) (by decide) 2 _).setT (setAt (setAt (setAt HFF.out.b1 0 _) 1 _) 2 _) (by decide) 3 _), ((((Hv3.out.setT HFF.out.b1 (by decide) 0 _).setT (setAt HFF.out.b1 0 _) (by decide) 1 _).setT (setAt (setAt HFF.out.b1 0 _) 1 _) (by decide) 2 _).setT (setAt (setAt (setAt HFF.out.b1 0 _) 1 _) 2 _) (by decide) 3 _)⟩
      · rw [HE.out.2.1, HE.out.2.2, sz]
        exact (Rd.setNew (Rd.setNew (Rd.setNew (Rd.setNew HFF.out.rd (by simp <;> omega) _) (by simp <;> omega) _) (by simp <;> omega) _) (by simp <;> omega) _)
      · exact (Kp.setNew (Kp.setNew (Kp.setNew (Kp.setNew HFF.out.kp (by simp) _) (by simp) _) (by simp) _) (by simp) _)
      · rw [HE.out.2.1]; exact l6
      · rw [HE.out.1]; show acc.length ≤ 801; omega

end Go.Proofs.YtdfnnpakdbhhpaaGreatDoor
