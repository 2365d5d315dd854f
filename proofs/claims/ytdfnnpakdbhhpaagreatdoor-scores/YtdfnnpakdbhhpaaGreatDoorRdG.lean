import Derived.Test.YtdfnnpakdbhhpaaGreatDoorRdF
namespace Go.Proofs.YtdfnnpakdbhhpaaGreatDoor
open Go.RowKit

theorem shape_of {w : World} {base : Nat} {e : TypeId} {size : Nat} {v : Value} {n : Nat} {xs : List Value} (h : w.ownsRow base e size v n xs) : ∃ ao nn cc, v = .slice ao nn cc := by
  rcases h.2 with ⟨rfl, _⟩ | ⟨g, cap, cur, rfl, _⟩
  · exact ⟨_, _, _, rfl⟩
  · exact ⟨_, _, _, rfl⟩

theorem pk_eq {t : List UInt8} {st st1 st2 st3 st4 st5 st6 st7 st8 st9 st10 : St} (E1 : naS t st = st1) (E2 : veS t st1 = st2) (E3 : mkS t st2 = st3) (E4 : exS t 58 st3 = st4) (E5 : (neF t st4).2 = st5) (E6 : exS t 58 st5 = st6) (E7 : (csF t st6).2 = st7) (E8 : exS t 58 st7 = st8) (E9 : (nmsF t st8).2 = st9) (E10 : exS t 59 st9 = st10) :
    pkV t st = { n := naV t st.1 st.2, v := veV t st1.1 st1.2, m := mkV t st2, needs := (neF t st4).1, conf := (csF t st6).1, prov := (nmsF t st8).1 } ∧ p5 t st = st10 := by
  subst E1 E2 E3 E4 E5 E6 E7 E8 E9 E10
  exact ⟨rfl, rfl⟩

set_option maxHeartbeats 1600000 in
set_option maxRecDepth 100000 in
theorem rd_pack (B : Nat) (s : ByteArray) (st : St) (w : World) (hs : s.size ≤ 800) (hi : st.1 ≤ s.size) (hr : Rd B w s st.1 st.2) :
    Calls Tryz.prog 74 #[.pointer (some ⟨B, 0, none⟩)] w fun e w' => ∃ vn vc vp, e = .returned (.agg (pkCells (pkV s.data.toList st) vn vc vp).toArray) ∧ PkAt B w' (pkV s.data.toList st) vn vc vp ∧ (∃ a n c, vn = .slice a n c) ∧ (∃ a n c, vc = .slice a n c) ∧ (∃ a n c, vp = .slice a n c) ∧
      Rd B w' s (p5 s.data.toList st).1 (p5 s.data.toList st).2 ∧ Kp B w w' ∧ (p5 s.data.toList st).1 ≤ s.size := by
  obtain ⟨i, bad⟩ := st
  replace hi : i ≤ s.size := hi
  have hB := hr.lt
  have HF : Hid (Fr B w _ 88 #[.int .u8 0, .int .u8 0, .int .i64 0, .slice none 0 0, .slice none 0 0, .slice none 0 0] #[.int .u8 0, .int .u8 0, .int .i64 0, .slice none 0 0, .slice none 0 0, .slice none 0 0] s (i, bad)) := Fr.start (st := (i, bad)) hr 88 #[.int .u8 0, .int .u8 0, .int .i64 0, .slice none 0 0, .slice none 0 0, .slice none 0 0]
  clear hr
  go_enter Tryz.func74, Tryz.ntmps74
  go_wp2_with fail
  refine (rd_name B s i bad _ hs hi HF.out.rd).mono ?_
  rintro e w1 ⟨rfl, hr, hk⟩
  obtain ⟨st1, E1⟩ : ∃ x : St, Hid (naS s.data.toList (i, bad) = x) := ⟨_, rfl⟩
  replace hr : Rd B w1 s st1.1 st1.2 := by rw [← E1.out]; exact hr
  have l1 : st1.1 ≤ s.size := by rw [← E1.out]; exact naI_le s i bad hi
  have h := HF.out.call hr hk
  have c0 : w1.cell? ⟨w.heap.size + 1, 0, none⟩ = some (.int .u8 0) := h.c 0 rfl
  have f0 := h.f 0
  have HF1 : Hid (Fr B w _ 88 #[.int .u8 0, .int .u8 0, .int .i64 0, .slice none 0 0, .slice none 0 0, .slice none 0 0] #[.int .u8 (naV s.data.toList i bad), .int .u8 0, .int .i64 0, .slice none 0 0, .slice none 0 0, .slice none 0 0] s st1) := h.store 0 (.int .u8 (naV s.data.toList i bad))
  clear HF h hr hk
  go_wp2_with fail
  refine (rd_version B s st1.1 st1.2 _ hs l1 HF1.out.rd).mono ?_
  rintro e w2 ⟨rfl, hr, hk⟩
  obtain ⟨st2, E2⟩ : ∃ x : St, Hid (veS s.data.toList st1 = x) := ⟨_, rfl⟩
  replace hr : Rd B w2 s st2.1 st2.2 := by rw [← E2.out]; exact hr
  have l2 : st2.1 ≤ s.size := by rw [← E2.out]; exact veI_le s st1.1 st1.2 l1
  have h := HF1.out.call hr hk
  have c1 : w2.cell? ⟨w.heap.size + 1, 1, none⟩ = some (.int .u8 0) := h.c 1 rfl
  have f1 := h.f 1
  have HF2 : Hid (Fr B w _ 88 #[.int .u8 0, .int .u8 0, .int .i64 0, .slice none 0 0, .slice none 0 0, .slice none 0 0] #[.int .u8 (naV s.data.toList i bad), .int .u8 (veV s.data.toList st1.1 st1.2), .int .i64 0, .slice none 0 0, .slice none 0 0, .slice none 0 0] s st2) := h.store 1 (.int .u8 (veV s.data.toList st1.1 st1.2))
  clear HF1 h hr hk
  go_wp2_with fail
  refine (rd_mark B s st2 _ hs l2 HF2.out.rd).mono ?_
  rintro e w3 ⟨rfl, hr, hk⟩
  obtain ⟨st3, E3⟩ : ∃ x : St, Hid (mkS s.data.toList st2 = x) := ⟨_, rfl⟩
  replace hr : Rd B w3 s st3.1 st3.2 := by rw [← E3.out]; exact hr
  have l3 : st3.1 ≤ s.size := by rw [← E3.out]; exact mkS_le s st2 l2
  have h := HF2.out.call hr hk
  have c2 : w3.cell? ⟨w.heap.size + 1, 2, none⟩ = some (.int .i64 0) := h.c 2 rfl
  have f2 := h.f 2
  have HF3 : Hid (Fr B w _ 88 #[.int .u8 0, .int .u8 0, .int .i64 0, .slice none 0 0, .slice none 0 0, .slice none 0 0] #[.int .u8 (naV s.data.toList i bad), .int .u8 (veV s.data.toList st1.1 st1.2), .int .i64 (mkV s.data.toList st2), .slice none 0 0, .slice none 0 0, .slice none 0 0] s st3) := h.store 2 (.int .i64 (mkV s.data.toList st2))
  clear HF2 h hr hk
  go_wp2_with fail
  refine (rd_expect B s st3.1 st3.2 58 58 rfl _ hs l3 HF3.out.rd).mono ?_
  rintro e w4 ⟨rfl, hr, hk⟩
  obtain ⟨st4, E4⟩ : ∃ x : St, Hid (exS s.data.toList 58 st3 = x) := ⟨_, rfl⟩
  replace hr : Rd B w4 s st4.1 st4.2 := by rw [← E4.out]; exact hr
  have l4 : st4.1 ≤ s.size := by rw [← E4.out]; exact acI_le s 58 st3.1 st3.2 l3
  have h := HF3.out.call hr hk
  have HF4 : Hid (Fr B w w4 88 #[.int .u8 0, .int .u8 0, .int .i64 0, .slice none 0 0, .slice none 0 0, .slice none 0 0] #[.int .u8 (naV s.data.toList i bad), .int .u8 (veV s.data.toList st1.1 st1.2), .int .i64 (mkV s.data.toList st2), .slice none 0 0, .slice none 0 0, .slice none 0 0] s st4) := h
  clear HF3 h hr hk
  go_wp2_with fail
  refine (rd_needs B s st4 _ hs l4 HF4.out.rd).mono ?_
  rintro e w5 ⟨vn, rfl, hn, hr, hk, l5, _⟩
  obtain ⟨st5, E5⟩ : ∃ x : St, Hid ((neF s.data.toList st4).2 = x) := ⟨_, rfl⟩
  replace hr : Rd B w5 s st5.1 st5.2 := by rw [← E5.out]; exact hr
  replace l5 : st5.1 ≤ s.size := by rw [← E5.out]; exact l5
  have h := HF4.out.call hr hk
  obtain ⟨an, nn, cn, rfl⟩ : ∃ a n c, vn = .slice a n c := by obtain ⟨_, h, _⟩ := hn; exact shape_of h
  have Hn : Hid (NsAt B w5 (.slice an nn cn) (neF s.data.toList st4).1) := hn
  clear hn
  have c3 : w5.cell? ⟨w.heap.size + 1, 3, none⟩ = some (.slice none 0 0) := h.c 3 rfl
  have f3 := h.f 3
  replace Hn : Hid (NsAt B _ (.slice an nn cn) (neF s.data.toList st4).1) := Hn.out.setT h.b2 (by decide) (by decide) 3 (.slice an nn cn)
  have HF5 : Hid (Fr B w _ 88 #[.int .u8 0, .int .u8 0, .int .i64 0, .slice none 0 0, .slice none 0 0, .slice none 0 0] #[.int .u8 (naV s.data.toList i bad), .int .u8 (veV s.data.toList st1.1 st1.2), .int .i64 (mkV s.data.toList st2), .slice an nn cn, .slice none 0 0, .slice none 0 0] s st5) := h.store 3 (.slice an nn cn)
  clear HF4 h hr hk
  go_wp2_with fail
  refine (rd_expect B s st5.1 st5.2 58 58 rfl _ hs l5 HF5.out.rd).mono ?_
  rintro e w6 ⟨rfl, hr, hk⟩
  obtain ⟨st6, E6⟩ : ∃ x : St, Hid (exS s.data.toList 58 st5 = x) := ⟨_, rfl⟩
  replace hr : Rd B w6 s st6.1 st6.2 := by rw [← E6.out]; exact hr
  have l6 : st6.1 ≤ s.size := by rw [← E6.out]; exact acI_le s 58 st5.1 st5.2 l5
  have h := HF5.out.call hr hk
  replace Hn : Hid (NsAt B w6 (.slice an nn cn) (neF s.data.toList st4).1) := Hn.out.kp hk
  have HF6 : Hid (Fr B w w6 88 #[.int .u8 0, .int .u8 0, .int .i64 0, .slice none 0 0, .slice none 0 0, .slice none 0 0] #[.int .u8 (naV s.data.toList i bad), .int .u8 (veV s.data.toList st1.1 st1.2), .int .i64 (mkV s.data.toList st2), .slice an nn cn, .slice none 0 0, .slice none 0 0] s st6) := h
  clear HF5 h hr hk
  go_wp2_with fail
  refine (rd_constraints B s st6 _ hs l6 HF6.out.rd).mono ?_
  rintro e w7 ⟨vc, rfl, hc, hr, hk, l7, _⟩
  obtain ⟨st7, E7⟩ : ∃ x : St, Hid ((csF s.data.toList st6).2 = x) := ⟨_, rfl⟩
  replace hr : Rd B w7 s st7.1 st7.2 := by rw [← E7.out]; exact hr
  replace l7 : st7.1 ≤ s.size := by rw [← E7.out]; exact l7
  have h := HF6.out.call hr hk
  replace Hn : Hid (NsAt B w7 (.slice an nn cn) (neF s.data.toList st4).1) := Hn.out.kp hk
  obtain ⟨ac, nc, cc, rfl⟩ : ∃ a n c, vc = .slice a n c := shape_of hc
  have Hc : Hid (CsAt B w7 (.slice ac nc cc) (csF s.data.toList st6).1) := hc
  clear hc
  have c4 : w7.cell? ⟨w.heap.size + 1, 4, none⟩ = some (.slice none 0 0) := h.c 4 rfl
  have f4 := h.f 4
  replace Hn : Hid (NsAt B _ (.slice an nn cn) (neF s.data.toList st4).1) := Hn.out.setT h.b2 (by decide) (by decide) 4 (.slice ac nc cc)
  replace Hc : Hid (CsAt B _ (.slice ac nc cc) (csF s.data.toList st6).1) := Hc.out.setT h.b2 (by decide) 4 (.slice ac nc cc)
  have HF7 : Hid (Fr B w _ 88 #[.int .u8 0, .int .u8 0, .int .i64 0, .slice none 0 0, .slice none 0 0, .slice none 0 0] #[.int .u8 (naV s.data.toList i bad), .int .u8 (veV s.data.toList st1.1 st1.2), .int .i64 (mkV s.data.toList st2), .slice an nn cn, .slice ac nc cc, .slice none 0 0] s st7) := h.store 4 (.slice ac nc cc)
  clear HF6 h hr hk
  go_wp2_with fail
  refine (rd_expect B s st7.1 st7.2 58 58 rfl _ hs l7 HF7.out.rd).mono ?_
  rintro e w8 ⟨rfl, hr, hk⟩
  obtain ⟨st8, E8⟩ : ∃ x : St, Hid (exS s.data.toList 58 st7 = x) := ⟨_, rfl⟩
  replace hr : Rd B w8 s st8.1 st8.2 := by rw [← E8.out]; exact hr
  have l8 : st8.1 ≤ s.size := by rw [← E8.out]; exact acI_le s 58 st7.1 st7.2 l7
  have h := HF7.out.call hr hk
  replace Hn : Hid (NsAt B w8 (.slice an nn cn) (neF s.data.toList st4).1) := Hn.out.kp hk
  replace Hc : Hid (CsAt B w8 (.slice ac nc cc) (csF s.data.toList st6).1) := Hc.out.kp hk
  have HF8 : Hid (Fr B w w8 88 #[.int .u8 0, .int .u8 0, .int .i64 0, .slice none 0 0, .slice none 0 0, .slice none 0 0] #[.int .u8 (naV s.data.toList i bad), .int .u8 (veV s.data.toList st1.1 st1.2), .int .i64 (mkV s.data.toList st2), .slice an nn cn, .slice ac nc cc, .slice none 0 0] s st8) := h
  clear HF7 h hr hk
  go_wp2_with fail
  refine (rd_names B s st8 _ hs l8 HF8.out.rd).mono ?_
  rintro e w9 ⟨vp, rfl, hb, hr, hk, l9, _⟩
  obtain ⟨st9, E9⟩ : ∃ x : St, Hid ((nmsF s.data.toList st8).2 = x) := ⟨_, rfl⟩
  replace hr : Rd B w9 s st9.1 st9.2 := by rw [← E9.out]; exact hr
  replace l9 : st9.1 ≤ s.size := by rw [← E9.out]; exact l9
  have h := HF8.out.call hr hk
  replace Hn : Hid (NsAt B w9 (.slice an nn cn) (neF s.data.toList st4).1) := Hn.out.kp hk
  replace Hc : Hid (CsAt B w9 (.slice ac nc cc) (csF s.data.toList st6).1) := Hc.out.kp hk
  obtain ⟨ap, np, cp, rfl⟩ : ∃ a n c, vp = .slice a n c := shape_of hb
  have Hb : Hid (BsAt B w9 (.slice ap np cp) (nmsF s.data.toList st8).1) := hb
  clear hb
  have c5 : w9.cell? ⟨w.heap.size + 1, 5, none⟩ = some (.slice none 0 0) := h.c 5 rfl
  have f5 := h.f 5
  replace Hn : Hid (NsAt B _ (.slice an nn cn) (neF s.data.toList st4).1) := Hn.out.setT h.b2 (by decide) (by decide) 5 (.slice ap np cp)
  replace Hc : Hid (CsAt B _ (.slice ac nc cc) (csF s.data.toList st6).1) := Hc.out.setT h.b2 (by decide) 5 (.slice ap np cp)
  replace Hb : Hid (BsAt B _ (.slice ap np cp) (nmsF s.data.toList st8).1) := Hb.out.setT h.b2 (by decide) 5 (.slice ap np cp)
  have HF9 : Hid (Fr B w _ 88 #[.int .u8 0, .int .u8 0, .int .i64 0, .slice none 0 0, .slice none 0 0, .slice none 0 0] #[.int .u8 (naV s.data.toList i bad), .int .u8 (veV s.data.toList st1.1 st1.2), .int .i64 (mkV s.data.toList st2), .slice an nn cn, .slice ac nc cc, .slice ap np cp] s st9) := h.store 5 (.slice ap np cp)
  clear HF8 h hr hk
  go_wp2_with fail
  refine (rd_expect B s st9.1 st9.2 59 59 rfl _ hs l9 HF9.out.rd).mono ?_
  rintro e w10 ⟨rfl, hr, hk⟩
  obtain ⟨st10, E10⟩ : ∃ x : St, Hid (exS s.data.toList 59 st9 = x) := ⟨_, rfl⟩
  replace hr : Rd B w10 s st10.1 st10.2 := by rw [← E10.out]; exact hr
  have l10 : st10.1 ≤ s.size := by rw [← E10.out]; exact acI_le s 59 st9.1 st9.2 l9
  have h := HF9.out.call hr hk
  replace Hn : Hid (NsAt B w10 (.slice an nn cn) (neF s.data.toList st4).1) := Hn.out.kp hk
  replace Hc : Hid (CsAt B w10 (.slice ac nc cc) (csF s.data.toList st6).1) := Hc.out.kp hk
  replace Hb : Hid (BsAt B w10 (.slice ap np cp) (nmsF s.data.toList st8).1) := Hb.out.kp hk
  have c0 : w10.cell? ⟨w.heap.size + 1, 0, none⟩ = some (.int .u8 (naV s.data.toList i bad)) := h.c 0 rfl
  have c1 : w10.cell? ⟨w.heap.size + 1, 1, none⟩ = some (.int .u8 (veV s.data.toList st1.1 st1.2)) := h.c 1 rfl
  have c2 : w10.cell? ⟨w.heap.size + 1, 2, none⟩ = some (.int .i64 (mkV s.data.toList st2)) := h.c 2 rfl
  have c3 : w10.cell? ⟨w.heap.size + 1, 3, none⟩ = some (.slice an nn cn) := h.c 3 rfl
  have c4 : w10.cell? ⟨w.heap.size + 1, 4, none⟩ = some (.slice ac nc cc) := h.c 4 rfl
  have c5 : w10.cell? ⟨w.heap.size + 1, 5, none⟩ = some (.slice ap np cp) := h.c 5 rfl
  have d0 : w10.cell? ⟨w.heap.size, 0, none⟩ = some (.int .u8 0) := h.c' 0 rfl
  have d1 : w10.cell? ⟨w.heap.size, 1, none⟩ = some (.int .u8 0) := h.c' 1 rfl
  have d2 : w10.cell? ⟨w.heap.size, 2, none⟩ = some (.int .i64 0) := h.c' 2 rfl
  have d3 : w10.cell? ⟨w.heap.size, 3, none⟩ = some (.slice none 0 0) := h.c' 3 rfl
  have d4 : w10.cell? ⟨w.heap.size, 4, none⟩ = some (.slice none 0 0) := h.c' 4 rfl
  have d5 : w10.cell? ⟨w.heap.size, 5, none⟩ = some (.slice none 0 0) := h.c' 5 rfl
  have e0 := h.f' 0
  have e1 := h.f' 1
  have e2 := h.f' 2
  have e3 := h.f' 3
  have e4 := h.f' 4
  have e5 := h.f' 5
  have HFF : Hid (Fr B w w10 88 #[.int .u8 0, .int .u8 0, .int .i64 0, .slice none 0 0, .slice none 0 0, .slice none 0 0] #[.int .u8 (naV s.data.toList i bad), .int .u8 (veV s.data.toList st1.1 st1.2), .int .i64 (mkV s.data.toList st2), .slice an nn cn, .slice ac nc cc, .slice ap np cp] s st10) := h
  have HE : Hid (pkV s.data.toList (i, bad) = _ ∧ p5 s.data.toList (i, bad) = st10) := pk_eq E1.out E2.out E3.out E4.out E5.out E6.out E7.out E8.out E9.out E10.out
  clear h hr hk
  go_wp2
  refine bodyPost_ret (v := .agg #[.int .u8 (naV s.data.toList i bad), .int .u8 (veV s.data.toList st1.1 st1.2), .int .i64 (mkV s.data.toList st2), .slice an nn cn, .slice ac nc cc, .slice ap np cp]) ?_ rfl ⟨.slice an nn cn, .slice ac nc cc, .slice ap np cp, ?_, ?_, ⟨_, _, _, rfl⟩, ⟨_, _, _, rfl⟩, ⟨_, _, _, rfl⟩, ?_, ?_, ?_⟩
  · simp [results, Tryz.results74, go_sem, d0, d1, d2, d3, d4, d5]
  · rw [HE.out.1]; rfl
  · rw [HE.out.1]
    exact ⟨((((((Hn.out.setT HFF.out.b1 (by decide) (by decide) 0 _).setT (setAt HFF.out.b1 0 _) (by decide) (by decide) 1 _).setT (setAt (setAt HFF.out.b1 0 _) 1 _) (by decide) (by decide) 2 _).setT (setAt (setAt (setAt HFF.out.b1 0 _) 1 _) 2 _) (by decide) (by decide) 3 _).setT (setAt (setAt (setAt (setAt HFF.out.b1 0 _) 1 _) 2 _) 3 _) (by decide) (by decide) 4 _).setT (setAt (setAt (setAt (setAt (setAt HFF.out.b1 0 _) 1 _) 2 _) 3 _) 4 _) (by decide) (by decide) 5 _), ((((((Hc.out.setT HFF.out.b1 (by decide) 0 _).setT (setAt HFF.out.b1 0 _) (by decide) 1 _).setT (setAt (setAt HFF.out.b1 0 _) 1 _) (by decide) 2 _).setT (setAt (setAt (setAt HFF.out.b1 0 _) 1 _) 2 _) (by decide) 3 _).setT (setAt (setAt (setAt (setAt HFF.out.b1 0 _) 1 _) 2 _) 3 _) (by decide) 4 _).setT (setAt (setAt (setAt (setAt (setAt HFF.out.b1 0 _) 1 _) 2 _) 3 _) 4 _) (by decide) 5 _), ((((((Hb.out.setT HFF.out.b1 (by decide) 0 _).setT (setAt HFF.out.b1 0 _) (by decide) 1 _).setT (setAt (setAt HFF.out.b1 0 _) 1 _) (by decide) 2 _).setT (setAt (setAt (setAt HFF.out.b1 0 _) 1 _) 2 _) (by decide) 3 _).setT (setAt (setAt (setAt (setAt HFF.out.b1 0 _) 1 _) 2 _) 3 _) (by decide) 4 _).setT (setAt (setAt (setAt (setAt (setAt HFF.out.b1 0 _) 1 _) 2 _) 3 _) 4 _) (by decide) 5 _)⟩
  · rw [HE.out.2]
    exact (Rd.setNew (Rd.setNew (Rd.setNew (Rd.setNew (Rd.setNew (Rd.setNew HFF.out.rd (by simp <;> omega) _) (by simp <;> omega) _) (by simp <;> omega) _) (by simp <;> omega) _) (by simp <;> omega) _) (by simp <;> omega) _)
  · exact (Kp.setNew (Kp.setNew (Kp.setNew (Kp.setNew (Kp.setNew (Kp.setNew HFF.out.kp (by simp) _) (by simp) _) (by simp) _) (by simp) _) (by simp) _) (by simp) _)
  · rw [HE.out.2]; exact l10

end Go.Proofs.YtdfnnpakdbhhpaaGreatDoor
