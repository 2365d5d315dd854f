import Derived.Test.YtdfnnpakdbhhpaaGreatDoorRdJ
import Derived.Test.YtdfnnpakdbhhpaaGreatDoorRepR
namespace Go.Proofs.YtdfnnpakdbhhpaaGreatDoor
open Go.RowKit

set_option maxHeartbeats 400000 in
theorem doc_firstTwice_nil (ao : Option Addr) (cap : Nat) (w : World) : Calls Tryz.prog 42 #[.slice ao 0 cap] w fun e w' => e = .returned (.int .i64 0) ∧ w' = w := by
  go_enter Tryz.func42, Tryz.ntmps42
  go_wp2
  go_loopw [7] (fun i wr => i = .int .i64 0 ∧ w = wr) (fun i _ => 0)
  case atStart => exact ⟨rfl, rfl⟩
  case round =>
    obtain ⟨rfl, rfl⟩ := hrel
    go_wp2
    go_ret
    exact ⟨rfl, rfl⟩

/-- firstTwice over packages as they lie in memory. -/
theorem doc_firstTwice_at {B : Nat} {v : Value} {ps : List Pk} (w : World) (hn : ps.length ≤ 801) (h : PksAt B w v ps) :
    Calls Tryz.prog 42 #[v] w fun e w' => e = .returned (.int .i64 (ftT ps)) ∧ Below w.heap.size w w' := by
  rcases pks_rows h with ⟨rfl, rfl⟩ | ⟨g, cap, rfl, hc, hg, hr⟩
  · exact (doc_firstTwice_nil none 0 w).mono fun e w' ⟨he, hw⟩ => ⟨he, by rw [hw]; exact Below.refl _ _⟩
  · exact doc_firstTwice g ps.length cap ps w hn hc rfl hg hr

theorem DcAt.kp {B : Nat} {w w' : World} {d : Dc} {vp vi vr vu : Value} (h : DcAt B w d vp vi vr vu) (hk : Kp B w w') : DcAt B w' d vp vi vr vu := ⟨h.1.kp hk, h.2.1.kp hk, h.2.2.1.kp hk, h.2.2.2.kp hk⟩
theorem DcAt.alloc {B : Nat} {w : World} {d : Dc} {vp vi vr vu : Value} (h : DcAt B w d vp vi vr vu) (o : Obj) : DcAt B (w.alloc o) d vp vi vr vu := ⟨h.1.alloc o, h.2.1.alloc o, h.2.2.1.alloc o, h.2.2.2.alloc o⟩
theorem DcAt.setT {B : Nat} {w : World} {d : Dc} {vp vi vr vu : Value} (h : DcAt B w d vp vi vr vu) {k : Nat} {cur : Array Value} {T : TypeId} {m : Nat × Nat} (hk : w.heap[k]? = some (.cells cur T m)) (h0 : 88 ≠ T) (h1 : 121 ≠ T) (h2 : 124 ≠ T) (h3 : 5 ≠ T) (o : Nat) (u : Value) : DcAt B (w.setCell ⟨k, o, none⟩ u) d vp vi vr vu :=
  ⟨h.1.setT hk h0 h1 h2 h3 o u, h.2.1.setT hk h1 o u, h.2.2.1.setT hk h1 o u, h.2.2.2.setT hk h1 o u⟩
theorem Kp.toBelow {B n : Nat} {a w : World} (h : Kp B a w) (hB : n ≤ B) (hn : n ≤ a.heap.size) : Below n a w := ⟨h.os, h.tape, h.output, h.size, fun k hk => h.block k (by omega) (by intro e; injection e with e; omega)⟩
theorem blk_below {n : Nat} {a w : World} (h : Below n a w) {k : Nat} {x : Obj} (hx : a.heap[k]? = some x) (hk : k < n) : w.heap[k]? = some x := (h.block k hk).trans hx

def rdE (t : List UInt8) : Nat := if 800 < t.length then 1 else if dcBad t then 2 else if 20 < (dcV t).packs.length then 3 else if ftT (dcV t).packs < (dcV t).packs.length then 4 else 0
def rdP (t : List UInt8) : Nat := if 800 < t.length then 0 else if dcBad t then dcI t else if 20 < (dcV t).packs.length then 0 else if ftT (dcV t).packs < (dcV t).packs.length then ftT (dcV t).packs else 0

theorem rd_3 {t : List UInt8} (h1 : ¬ 800 < t.length) (h2 : dcBad t = false) (h3 : 20 < (dcV t).packs.length) : rdE t = 3 ∧ rdP t = 0 := by simp [rdE, rdP, h1, h2, h3]
theorem rd_4 {t : List UInt8} (h1 : ¬ 800 < t.length) (h2 : dcBad t = false) (h3 : ¬ 20 < (dcV t).packs.length) (h4 : ftT (dcV t).packs < (dcV t).packs.length) : rdE t = 4 ∧ rdP t = ftT (dcV t).packs := by simp [rdE, rdP, h1, h2, h3, h4]
theorem rd_0 {t : List UInt8} (h1 : ¬ 800 < t.length) (h2 : dcBad t = false) (h3 : ¬ 20 < (dcV t).packs.length) (h4 : ¬ ftT (dcV t).packs < (dcV t).packs.length) : rdE t = 0 ∧ rdP t = 0 := by simp [rdE, rdP, h1, h2, h3, h4]

set_option maxHeartbeats 1600000 in
set_option maxRecDepth 100000 in
theorem doc_Read (s : ByteArray) (w : World) (hs : s.size ≤ maxLen) :
    Calls Tryz.prog 22 #[.string s] w fun e w' => ∃ ap np cp ai ni ci ar nr cr au nu cu, e = .returned (.agg #[.slice ap np cp, .slice ai ni ci, .slice ar nr cr, .slice au nu cu, .int .i64 (rdE s.data.toList), .int .i64 (rdP s.data.toList)]) ∧ Below w.heap.size w w' ∧
      (rdE s.data.toList = 0 → DcAt (w.heap.size + 1) w' (dcV s.data.toList) (.slice ap np cp) (.slice ai ni ci) (.slice ar nr cr) (.slice au nu cu)) := by
  unfold maxLen at hs
  by_cases hlong : 800 < s.size
  · have HE : Hid (rdE s.data.toList = 1 ∧ rdP s.data.toList = 0) := by show _ ∧ _; unfold rdE rdP; rw [sz, if_pos hlong, if_pos hlong]; exact ⟨rfl, rfl⟩
    go_enter Tryz.func22, Tryz.ntmps22
    go_wp2
    refine bodyPost_ret (v := .agg #[.slice none 0 0, .slice none 0 0, .slice none 0 0, .slice none 0 0, .int .i64 1, .int .i64 0]) ?_ rfl ⟨none, 0, 0, none, 0, 0, none, 0, 0, none, 0, 0, ?_, ?_, fun h => ?_⟩
    · simp [results, Tryz.results22, go_sem]
    · rw [HE.out.1, HE.out.2]; rfl
    · exact (Below.refl _ _).alloc (Nat.le_refl _) _
    · rw [HE.out.1] at h; cases h
  · have hs8 : s.size ≤ 800 := by omega
    have hR0 : Rd (w.heap.size + 1) ((w.alloc (.cells #[.slice none 0 0, .slice none 0 0, .slice none 0 0, .slice none 0 0, .int .i64 0, .int .i64 0] 52)).alloc (.cells #[.string s, .int .i64 0, .bool false] 82)) s 0 false := by
      have := blk_new (w.alloc (.cells #[.slice none 0 0, .slice none 0 0, .slice none 0 0, .slice none 0 0, .int .i64 0, .int .i64 0] 52)) (.cells #[.string s, .int .i64 0, .bool false] 82)
      rwa [World.size_alloc] at this
    have HR0 : Hid _ := hR0
    clear hR0
    go_enter Tryz.func22, Tryz.ntmps22
    go_wp2_with fail
    refine (rd_document (w.heap.size + 1) s _ hs8 HR0.out).mono ?_
    rintro e w1 ⟨vp, vi, vr, vu, rfl, hd, ⟨ap, np, cp, rfl⟩, ⟨ai, ni, ci, rfl⟩, ⟨ar, nr, cr, rfl⟩, ⟨au, nu, cu, rfl⟩, hr1, hk1, hI, hpl⟩
    have hnp : np = (dcV s.data.toList).packs.length := by
      obtain ⟨css, h1, _⟩ := hd.1
      rcases own_shape h1 with ⟨h, h0⟩ | ⟨g, cap, h, _⟩
      · injection h with _ h _; omega
      · injection h with _ h _
    subst hnp
    have hbres := hk1.blk (blk_old (blk_new w _) _) (by omega)
    have hbw : Below w.heap.size w w1 := (((Below.refl _ _).alloc (Nat.le_refl _) _).alloc (by simp) _).trans (hk1.toBelow (by omega) (by simp; omega))
    have hBlt := hr1.lt
    have hHlt : w.heap.size < w1.heap.size := by omega
    have c1 := hr1.c1
    have c2 := hr1.c2
    have HD : Hid (DcAt (w.heap.size + 1) w1 (dcV s.data.toList) (.slice ap (dcV s.data.toList).packs.length cp) (.slice ai ni ci) (.slice ar nr cr) (.slice au nu cu)) := hd
    have HBW : Hid (Below w.heap.size w w1) := hbw
    have HBR : Hid (w1.heap[w.heap.size]? = some (.cells #[.slice none 0 0, .slice none 0 0, .slice none 0 0, .slice none 0 0, .int .i64 0, .int .i64 0] 52 (0, 0))) := hbres
    clear hd hr1 hk1 HR0 hbw
    by_cases hbad : dcBad s.data.toList = true
    · have HE : Hid (rdE s.data.toList = 2 ∧ rdP s.data.toList = dcI s.data.toList) := by show _ ∧ _; unfold rdE rdP; rw [sz, if_neg hlong, if_neg hlong, if_pos hbad, if_pos hbad]; exact ⟨rfl, rfl⟩
      have d0 : w1.cell? ⟨w.heap.size, 0, none⟩ = some (.slice none 0 0) := by rw [cellAt hbres]; rfl
      have d1 : w1.cell? ⟨w.heap.size, 1, none⟩ = some (.slice none 0 0) := by rw [cellAt hbres]; rfl
      have d2 : w1.cell? ⟨w.heap.size, 2, none⟩ = some (.slice none 0 0) := by rw [cellAt hbres]; rfl
      have d3 : w1.cell? ⟨w.heap.size, 3, none⟩ = some (.slice none 0 0) := by rw [cellAt hbres]; rfl
      have d4 : w1.cell? ⟨w.heap.size, 4, none⟩ = some (.int .i64 0) := by rw [cellAt hbres]; rfl
      have d5 : w1.cell? ⟨w.heap.size, 5, none⟩ = some (.int .i64 0) := by rw [cellAt hbres]; rfl
      have e0 := freeAt hbres 0
      have e1 := freeAt hbres 1
      have e2 := freeAt hbres 2
      have e3 := freeAt hbres 3
      have e4 := freeAt hbres 4
      have e5 := freeAt hbres 5
      clear hbres
      go_wp2
      refine bodyPost_ret (v := .agg #[.slice none 0 0, .slice none 0 0, .slice none 0 0, .slice none 0 0, .int .i64 2, .int .i64 (dcI s.data.toList)]) ?_ rfl ⟨none, 0, 0, none, 0, 0, none, 0, 0, none, 0, 0, ?_, ?_, fun h => ?_⟩
      · simp [results, Tryz.results22, go_sem, d0, d1, d2, d3, d4, d5, hHlt]
      · rw [HE.out.1, HE.out.2]; rfl
      · exact (Below.alloc ((((((HBW.out.setCell (by simp) _).setCell (by simp) _).setCell (by simp) _).setCell (by simp) _).setCell (by simp) _).setCell (by simp) _) (by simp; omega) _)
      · rw [HE.out.1] at h; cases h
    · simp only [Bool.not_eq_true] at hbad
      by_cases hmany : 20 < (dcV s.data.toList).packs.length
      · have HE : Hid (rdE s.data.toList = 3 ∧ rdP s.data.toList = 0) := rd_3 (by rw [sz]; exact hlong) hbad hmany
        have d0 : w1.cell? ⟨w.heap.size, 0, none⟩ = some (.slice none 0 0) := by rw [cellAt hbres]; rfl
        have d1 : w1.cell? ⟨w.heap.size, 1, none⟩ = some (.slice none 0 0) := by rw [cellAt hbres]; rfl
        have d2 : w1.cell? ⟨w.heap.size, 2, none⟩ = some (.slice none 0 0) := by rw [cellAt hbres]; rfl
        have d3 : w1.cell? ⟨w.heap.size, 3, none⟩ = some (.slice none 0 0) := by rw [cellAt hbres]; rfl
        have d4 : w1.cell? ⟨w.heap.size, 4, none⟩ = some (.int .i64 0) := by rw [cellAt hbres]; rfl
        have d5 : w1.cell? ⟨w.heap.size, 5, none⟩ = some (.int .i64 0) := by rw [cellAt hbres]; rfl
        have e0 := freeAt hbres 0
        have e1 := freeAt hbres 1
        have e2 := freeAt hbres 2
        have e3 := freeAt hbres 3
        have e4 := freeAt hbres 4
        have e5 := freeAt hbres 5
        clear hbres
        go_wp2
        refine bodyPost_ret (v := .agg #[.slice none 0 0, .slice none 0 0, .slice none 0 0, .slice none 0 0, .int .i64 3, .int .i64 0]) ?_ rfl ⟨none, 0, 0, none, 0, 0, none, 0, 0, none, 0, 0, ?_, ?_, fun h => ?_⟩
        · simp [results, Tryz.results22, go_sem, d0, d1, d2, d3, d4, d5, hHlt]
        · rw [HE.out.1, HE.out.2]; rfl
        · exact (Below.alloc ((((((HBW.out.setCell (by simp) _).setCell (by simp) _).setCell (by simp) _).setCell (by simp) _).setCell (by simp) _).setCell (by simp) _) (by simp; omega) _)
        · rw [HE.out.1] at h; cases h
      · have HB1 : Hid ((w1.alloc (.cells #[.slice ap (dcV s.data.toList).packs.length cp, .slice ai ni ci, .slice ar nr cr, .slice au nu cu] 50)).heap[w.heap.size]? = some (.cells #[.slice none 0 0, .slice none 0 0, .slice none 0 0, .slice none 0 0, .int .i64 0, .int .i64 0] 52 (0, 0))) := blk_old HBR.out _
        clear hbres
        go_wp2_with fail
        refine (doc_firstTwice_at _ hpl (HD.out.alloc _).1).mono ?_
        rintro e w2 ⟨rfl, hb2⟩
        have hbd := blk_below hb2 (blk_new w1 (.cells #[.slice ap (dcV s.data.toList).packs.length cp, .slice ai ni ci, .slice ar nr cr, .slice au nu cu] 50)) (by simp)
        have hbres := blk_below hb2 HB1.out (by simp; omega)
        have HBR2 : Hid (w2.heap[w.heap.size]? = some (.cells #[.slice none 0 0, .slice none 0 0, .slice none 0 0, .slice none 0 0, .int .i64 0, .int .i64 0] 52 (0, 0))) := hbres
        have hsz2 := hb2.size
        simp only [World.size_alloc] at hsz2
        have HBW2 : Hid (Below w.heap.size w w2) := (HBW.out.alloc (by omega) _).trans (hb2.mono (by simp; omega))
        have HD2 : Hid (DcAt (w.heap.size + 1) w2 (dcV s.data.toList) (.slice ap (dcV s.data.toList).packs.length cp) (.slice ai ni ci) (.slice ar nr cr) (.slice au nu cu)) := (HD.out.alloc _).kp ((Kp.refl _ _).below hb2)
        have q0 : w2.cell? ⟨w1.heap.size, 0, none⟩ = some (.slice ap (dcV s.data.toList).packs.length cp) := by rw [cellAt hbd]; rfl
        have q1 : w2.cell? ⟨w1.heap.size, 1, none⟩ = some (.slice ai ni ci) := by rw [cellAt hbd]; rfl
        have q2 : w2.cell? ⟨w1.heap.size, 2, none⟩ = some (.slice ar nr cr) := by rw [cellAt hbd]; rfl
        have q3 : w2.cell? ⟨w1.heap.size, 3, none⟩ = some (.slice au nu cu) := by rw [cellAt hbd]; rfl
        have d0 : w2.cell? ⟨w.heap.size, 0, none⟩ = some (.slice none 0 0) := by rw [cellAt hbres]; rfl
        have d1 : w2.cell? ⟨w.heap.size, 1, none⟩ = some (.slice none 0 0) := by rw [cellAt hbres]; rfl
        have d2 : w2.cell? ⟨w.heap.size, 2, none⟩ = some (.slice none 0 0) := by rw [cellAt hbres]; rfl
        have d3 : w2.cell? ⟨w.heap.size, 3, none⟩ = some (.slice none 0 0) := by rw [cellAt hbres]; rfl
        have d4 : w2.cell? ⟨w.heap.size, 4, none⟩ = some (.int .i64 0) := by rw [cellAt hbres]; rfl
        have d5 : w2.cell? ⟨w.heap.size, 5, none⟩ = some (.int .i64 0) := by rw [cellAt hbres]; rfl
        have e0 := freeAt hbres 0
        have e1 := freeAt hbres 1
        have e2 := freeAt hbres 2
        have e3 := freeAt hbres 3
        have e4 := freeAt hbres 4
        have e5 := freeAt hbres 5
        clear hb2 hbres hbd HD HBW HB1 HBR
        by_cases hft : ftT (dcV s.data.toList).packs < (dcV s.data.toList).packs.length
        · have HE : Hid (rdE s.data.toList = 4 ∧ rdP s.data.toList = ftT (dcV s.data.toList).packs) := rd_4 (by rw [sz]; exact hlong) hbad hmany hft
          go_wp2
          refine bodyPost_ret (v := .agg #[.slice none 0 0, .slice none 0 0, .slice none 0 0, .slice none 0 0, .int .i64 4, .int .i64 (ftT (dcV s.data.toList).packs)]) ?_ rfl ⟨none, 0, 0, none, 0, 0, none, 0, 0, none, 0, 0, ?_, ?_, fun h => ?_⟩
          · simp [results, Tryz.results22, go_sem, d0, d1, d2, d3, d4, d5]
          · rw [HE.out.1, HE.out.2]; rfl
          · exact ((((((HBW2.out.setCell (by simp) _).setCell (by simp) _).setCell (by simp) _).setCell (by simp) _).setCell (by simp) _).setCell (by simp) _)
          · rw [HE.out.1] at h; cases h
        · have HE : Hid (rdE s.data.toList = 0 ∧ rdP s.data.toList = 0) := rd_0 (by rw [sz]; exact hlong) hbad hmany hft
          go_wp2
          refine bodyPost_ret (v := .agg #[.slice ap (dcV s.data.toList).packs.length cp, .slice ai ni ci, .slice ar nr cr, .slice au nu cu, .int .i64 0, .int .i64 0]) ?_ rfl ⟨ap, (dcV s.data.toList).packs.length, cp, ai, ni, ci, ar, nr, cr, au, nu, cu, ?_, ?_, fun h => ?_⟩
          · simp [results, Tryz.results22, go_sem, d0, d1, d2, d3, d4, d5]
          · rw [HE.out.1, HE.out.2]; rfl
          · exact ((((((HBW2.out.setCell (by simp) _).setCell (by simp) _).setCell (by simp) _).setCell (by simp) _).setCell (by simp) _).setCell (by simp) _)
          · exact ((((((HD2.out.setT HBR2.out (by decide) (by decide) (by decide) (by decide) 0 _).setT (setAt HBR2.out 0 _) (by decide) (by decide) (by decide) (by decide) 1 _).setT (setAt (setAt HBR2.out 0 _) 1 _) (by decide) (by decide) (by decide) (by decide) 2 _).setT (setAt (setAt (setAt HBR2.out 0 _) 1 _) 2 _) (by decide) (by decide) (by decide) (by decide) 3 _).setT (setAt (setAt (setAt (setAt HBR2.out 0 _) 1 _) 2 _) 3 _) (by decide) (by decide) (by decide) (by decide) 4 _).setT (setAt (setAt (setAt (setAt (setAt HBR2.out 0 _) 1 _) 2 _) 3 _) 4 _) (by decide) (by decide) (by decide) (by decide) 5 _)

set_option maxHeartbeats 400000 in
theorem up_Check (s : ByteArray) (w : World) (hs : s.size ≤ maxLen) : Calls Tryz.prog 10 #[.string s] w fun e w' => e = .returned (.tuple #[.int .i64 (rdE s.data.toList), .int .i64 (rdP s.data.toList)]) ∧ Below w.heap.size w w' := by
  go_enter Tryz.func10, Tryz.ntmps10
  go_wp2_with fail
  refine (doc_Read s _ hs).mono ?_
  rintro e w1 ⟨ap, np, cp, ai, ni, ci, ar, nr, cr, au, nu, cu, rfl, hb, _⟩
  go_wp2_with fail
  go_quiet (fail)
  go_wp2
  go_ret2
  exact ⟨rfl, (hb.alloc hb.size _).trans ⟨rfl, rfl, rfl, Nat.le_refl _, fun _ _ => rfl⟩⟩

end Go.Proofs.YtdfnnpakdbhhpaaGreatDoor
