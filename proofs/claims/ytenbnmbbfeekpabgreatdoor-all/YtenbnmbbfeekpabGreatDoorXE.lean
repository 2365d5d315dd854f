import Derived.Test.YtenbnmbbfeekpabGreatDoorXD
import Derived.Test.YtenbnmbbfeekpabGreatDoorXC
import Derived.Deep.RegionHeld3
import Derived.Deep.CutRange
import Derived.Deep.QuietTactic
import Derived.BigQuiet
import Derived.Test.YtenbnmbbfeekpabGreatDoorRdL

namespace Go.Proofs.YtenbnmbbfeekpabGreatDoor
open Go.RowKit

theorem bcell {W w1 : World} (hb : Below W.heap.size W w1) : (∀ b o, b < W.heap.size → w1.cell? ⟨b, o, none⟩ = W.cell? ⟨b, o, none⟩) ∧ (∀ b o, b < W.heap.size → w1.frozen? ⟨b, o, none⟩ = W.frozen? ⟨b, o, none⟩) :=
  ⟨fun b o h => hb.cell (p := ⟨b, o, none⟩) h, fun b o h => hb.frozen (p := ⟨b, o, none⟩) h⟩

/-- Three texts in a row, and what leaves them as they are. -/
def Three (g a b c : Nat) (x y z : ByteArray) (w : World) : Prop := w.cell? ⟨g, a, none⟩ = some (.string x) ∧ w.cell? ⟨g, b, none⟩ = some (.string y) ∧ w.cell? ⟨g, c, none⟩ = some (.string z)
theorem Three.below {g a b c : Nat} {x y z : ByteArray} {W w' : World} (hb : Below W.heap.size W w') (h : W.cell? ⟨g, a, none⟩ = some (.string x) ∧ W.cell? ⟨g, b, none⟩ = some (.string y) ∧ W.cell? ⟨g, c, none⟩ = some (.string z)) : w'.cell? ⟨g, a, none⟩ = some (.string x) ∧ w'.cell? ⟨g, b, none⟩ = some (.string y) ∧ w'.cell? ⟨g, c, none⟩ = some (.string z) := by
  have hl : g < W.heap.size := World.block_lt_of_cell? _ _ h.1
  exact ⟨(hb.cell (p := ⟨g, a, none⟩) hl).trans h.1, (hb.cell (p := ⟨g, b, none⟩) hl).trans h.2.1, (hb.cell (p := ⟨g, c, none⟩) hl).trans h.2.2⟩
theorem Three.set {g a b c : Nat} {x y z : ByteArray} {W : World} {p : Addr} (u : Value) (hp : p.block ≠ g) (h : W.cell? ⟨g, a, none⟩ = some (.string x) ∧ W.cell? ⟨g, b, none⟩ = some (.string y) ∧ W.cell? ⟨g, c, none⟩ = some (.string z)) : (W.setCell p u).cell? ⟨g, a, none⟩ = some (.string x) ∧ (W.setCell p u).cell? ⟨g, b, none⟩ = some (.string y) ∧ (W.setCell p u).cell? ⟨g, c, none⟩ = some (.string z) := by
  have e : ∀ o, (W.setCell p u).cell? ⟨g, o, none⟩ = W.cell? ⟨g, o, none⟩ := fun o => World.cell?_of_block (Below.heap_setCell _ _ _ _ (Ne.symm hp))
  rw [e, e, e]; exact h

theorem Tryz.infoRPk : (Tryz.prog.info? 173).map (fun i => (i.zero, i.size, i.bytes)) = some (some (.agg #[.string ByteArray.empty, .string ByteArray.empty, .slice none 0 0, .slice none 0 0, .slice none 0 0]), 5, 104) := by kernel_rfl

/-- The packages read so far: a row of the call's own. -/
def RPksOwn (base : Nat) (w : World) (v : Value) (n : Nat) (ps : List Pk) : Prop := ∃ css : List (List Value), w.ownsRow base 173 5 v n css.flatten ∧ All2 (RPkC w) css ps
theorem RPksOwn.toPks {base n : Nat} {w : World} {v : Value} {ps : List Pk} (h : RPksOwn base w v n ps) (hn : n = ps.length) : RPksAt w v ps := by
  obtain ⟨css, h1, h2⟩ := h
  subst hn
  exact ⟨css, own_mono h1 (Nat.zero_le _), h2⟩

/-- What holds at the head of a round of read. -/
structure RdR (w : World) (b : Nat) (d : Dc) (a1 : Option Addr) (n1 c1 : Nat) (a2 : Option Addr) (n2 c2 : Nat) (a3 : Option Addr) (n3 c3 : Nat) (al : Option Addr) (nl cl : Nat) (wr : World) (ao : Option Addr) (nn cc k : Nat) : Prop where
  blk : wr.heap[b]? = some (.cells #[.slice ao nn cc, .slice a1 n1 c1, .slice a2 n2 c2, .slice a3 n3 c3] 126 (0, 0))
  res : wr.heap[w.heap.size]? = some (.cells #[.slice none 0 0, .slice none 0 0, .slice none 0 0, .slice none 0 0] 126 (0, 0))
  s1 : StAt wr (.slice a1 n1 c1) (d.ins.map cnT)
  s2 : StAt wr (.slice a2 n2 c2) (d.rem.map cnT)
  s3 : StAt wr (.slice a3 n3 c3) (d.upg.map cnT)
  sl : StAt wr (.slice al nl cl) (splitL 59 (pksT d.packs))
  bel : Below w.heap.size w wr
  packs : RPksOwn (w.heap.size + 1) wr (.slice ao nn cc) k (d.packs.take k)
  bgt : w.heap.size < b
  le : k ≤ d.packs.length

theorem below_drew {w1 wa : World} (h : Below w1.drew.heap.size w1.drew wa) : Below w1.heap.size w1 wa := ⟨h.os, h.tape, h.output, h.size, h.block⟩
/-- The block is laid last. -/
theorem way_last {w1 wa wb wc : World} {v1 v2 v3 : Value} {L1 L2 L3 : List (List UInt8)} (hba : Below w1.heap.size w1 wa) (hbb : Below wa.heap.size wa wb) (hbc : Below wb.heap.size wb wc) (ha : StAt wa v1 L1) (hb : StAt wb v2 L2) (hc : StAt wc v3 L3) (o : Obj) :
    w1.heap.size ≤ wc.heap.size ∧ (wc.alloc o).heap[wc.heap.size]? = some o ∧ StAt (wc.alloc o) v1 L1 ∧ StAt (wc.alloc o) v2 L2 ∧ StAt (wc.alloc o) v3 L3 ∧ Below w1.heap.size w1 (wc.alloc o) := by
  have h1 := hba.size
  have h2 := hbb.size
  have h3 := hbc.size
  exact ⟨by omega, blk_new _ _, ((ha.below hbb).below hbc).alloc o, (hb.below hbc).alloc o, hc.alloc o, ((hba.trans (hbb.mono h1)).trans (hbc.mono (by omega))).alloc (by omega) o⟩
/-- The block is there ahead of the last call. -/
theorem way_b {w1 wa wb wc : World} {v1 v2 v3 : Value} {L1 L2 L3 : List (List UInt8)} {zs : Array Value} {T : TypeId} (hba : Below w1.heap.size w1 wa) (hbb : Below wa.heap.size wa wb) (hbc : Below (wb.alloc (.cells zs T)).heap.size (wb.alloc (.cells zs T)) wc) (ha : StAt wa v1 L1) (hb : StAt wb v2 L2) (hc : StAt wc v3 L3) :
    w1.heap.size ≤ wb.heap.size ∧ wc.heap[wb.heap.size]? = some (.cells zs T (0, 0)) ∧ StAt wc v1 L1 ∧ StAt wc v2 L2 ∧ StAt wc v3 L3 ∧ Below w1.heap.size w1 wc := by
  have h1 := hba.size
  have h2 := hbb.size
  exact ⟨by omega, blk_below hbc (blk_new _ _) (by simp), ((ha.below hbb).alloc _).below hbc, (hb.alloc _).below hbc, hc, ((hba.trans (hbb.mono h1)).alloc (by omega) _).trans (hbc.mono (by simp; omega))⟩
theorem way_a {w1 wa wb wc : World} {v1 v2 v3 : Value} {L1 L2 L3 : List (List UInt8)} {zs : Array Value} {T : TypeId} (hba : Below w1.heap.size w1 wa) (hbb : Below (wa.alloc (.cells zs T)).heap.size (wa.alloc (.cells zs T)) wb) (hbc : Below wb.heap.size wb wc) (ha : StAt wa v1 L1) (hb : StAt wb v2 L2) (hc : StAt wc v3 L3) :
    w1.heap.size ≤ wa.heap.size ∧ wc.heap[wa.heap.size]? = some (.cells zs T (0, 0)) ∧ StAt wc v1 L1 ∧ StAt wc v2 L2 ∧ StAt wc v3 L3 ∧ Below w1.heap.size w1 wc := by
  have h1 := hba.size
  have h2 := hbb.size
  simp only [World.size_alloc] at h2
  exact ⟨by omega, blk_below hbc (blk_below hbb (blk_new _ _) (by simp)) (by omega), ((ha.alloc _).below hbb).below hbc, hb.below hbc, hc, ((hba.alloc (by omega) _).trans (hbb.mono (by simp; omega))).trans (hbc.mono (by omega))⟩
theorem way_0 {w1 wa wb wc : World} {v1 v2 v3 : Value} {L1 L2 L3 : List (List UInt8)} {zs : Array Value} {T : TypeId} (hba : Below (w1.alloc (.cells zs T)).heap.size (w1.alloc (.cells zs T)) wa) (hbb : Below wa.heap.size wa wb) (hbc : Below wb.heap.size wb wc) (ha : StAt wa v1 L1) (hb : StAt wb v2 L2) (hc : StAt wc v3 L3) :
    w1.heap.size ≤ w1.heap.size ∧ wc.heap[w1.heap.size]? = some (.cells zs T (0, 0)) ∧ StAt wc v1 L1 ∧ StAt wc v2 L2 ∧ StAt wc v3 L3 ∧ Below w1.heap.size w1 wc := by
  have h1 := hba.size
  have h2 := hbb.size
  simp only [World.size_alloc] at h1
  exact ⟨Nat.le_refl _, blk_below hbc (blk_below hbb (blk_below hba (blk_new _ _) (by simp)) (by omega)) (by omega), (ha.below hbb).below hbc, hb.below hbc, hc, ((((Below.refl _ _).alloc (Nat.le_refl _) _).trans (hba.mono (by simp))).trans (hbb.mono (by omega))).trans (hbc.mono (by omega))⟩
theorem way_set {w1 wc : World} {b : Nat} {v1 v2 v3 : Value} {L1 L2 L3 : List (List UInt8)} {zs : Array Value} {T : TypeId} (hT : 9 ≠ T) (h : w1.heap.size ≤ b ∧ wc.heap[b]? = some (.cells zs T (0, 0)) ∧ StAt wc v1 L1 ∧ StAt wc v2 L2 ∧ StAt wc v3 L3 ∧ Below w1.heap.size w1 wc) (j : Nat) (u : Value) :
    w1.heap.size ≤ b ∧ (wc.setCell ⟨b, j, none⟩ u).heap[b]? = some (.cells (zs.setIfInBounds j u) T (0, 0)) ∧ StAt (wc.setCell ⟨b, j, none⟩ u) v1 L1 ∧ StAt (wc.setCell ⟨b, j, none⟩ u) v2 L2 ∧ StAt (wc.setCell ⟨b, j, none⟩ u) v3 L3 ∧ Below w1.heap.size w1 (wc.setCell ⟨b, j, none⟩ u) :=
  ⟨h.1, setAt h.2.1 j u, h.2.2.1.setT h.2.1 hT j u, h.2.2.2.1.setT h.2.1 hT j u, h.2.2.2.2.1.setT h.2.1 hT j u, h.2.2.2.2.2.setCell h.1 u⟩

theorem Quad.below {g a b c e : Nat} {x y z u : ByteArray} {W w' : World} (hb : Below W.heap.size W w') (h : W.cell? ⟨g, a, none⟩ = some (.string x) ∧ W.cell? ⟨g, b, none⟩ = some (.string y) ∧ W.cell? ⟨g, c, none⟩ = some (.string z) ∧ W.cell? ⟨g, e, none⟩ = some (.string u)) : w'.cell? ⟨g, a, none⟩ = some (.string x) ∧ w'.cell? ⟨g, b, none⟩ = some (.string y) ∧ w'.cell? ⟨g, c, none⟩ = some (.string z) ∧ w'.cell? ⟨g, e, none⟩ = some (.string u) := by
  have hl : g < W.heap.size := World.block_lt_of_cell? _ _ h.1
  exact ⟨(hb.cell (p := ⟨g, a, none⟩) hl).trans h.1, (hb.cell (p := ⟨g, b, none⟩) hl).trans h.2.1, (hb.cell (p := ⟨g, c, none⟩) hl).trans h.2.2.1, (hb.cell (p := ⟨g, e, none⟩) hl).trans h.2.2.2⟩
theorem Quad.set {g a b c e : Nat} {x y z u : ByteArray} {W : World} {p : Addr} (v : Value) (hp : p.block ≠ g) (h : W.cell? ⟨g, a, none⟩ = some (.string x) ∧ W.cell? ⟨g, b, none⟩ = some (.string y) ∧ W.cell? ⟨g, c, none⟩ = some (.string z) ∧ W.cell? ⟨g, e, none⟩ = some (.string u)) : (W.setCell p v).cell? ⟨g, a, none⟩ = some (.string x) ∧ (W.setCell p v).cell? ⟨g, b, none⟩ = some (.string y) ∧ (W.setCell p v).cell? ⟨g, c, none⟩ = some (.string z) ∧ (W.setCell p v).cell? ⟨g, e, none⟩ = some (.string u) := by
  have ee : ∀ o, (W.setCell p v).cell? ⟨g, o, none⟩ = W.cell? ⟨g, o, none⟩ := fun o => World.cell?_of_block (Below.heap_setCell _ _ _ _ (Ne.symm hp))
  rw [ee, ee, ee, ee]; exact h

theorem cell_set_ne {W : World} {p : Addr} (u : Value) {g : Nat} (hp : p.block ≠ g) (o : Nat) : (W.setCell p u).cell? ⟨g, o, none⟩ = W.cell? ⟨g, o, none⟩ := World.cell?_of_block (Below.heap_setCell _ _ _ _ (Ne.symm hp))
theorem Quad.setE {g a b c e : Nat} {x y z u : ByteArray} {W : World} {p : Addr} {v : Value} (hp : p.block ≠ g) : ((W.setCell p v).cell? ⟨g, a, none⟩ = some (.string x) ∧ (W.setCell p v).cell? ⟨g, b, none⟩ = some (.string y) ∧ (W.setCell p v).cell? ⟨g, c, none⟩ = some (.string z) ∧ (W.setCell p v).cell? ⟨g, e, none⟩ = some (.string u)) = (W.cell? ⟨g, a, none⟩ = some (.string x) ∧ W.cell? ⟨g, b, none⟩ = some (.string y) ∧ W.cell? ⟨g, c, none⟩ = some (.string z) ∧ W.cell? ⟨g, e, none⟩ = some (.string u)) := by
  rw [cell_set_ne v hp, cell_set_ne v hp, cell_set_ne v hp, cell_set_ne v hp]
theorem Quad.allocE {g a b c e : Nat} {x y z u : ByteArray} {W : World} {o : Obj} (hg : g < W.heap.size) : ((W.alloc o).cell? ⟨g, a, none⟩ = some (.string x) ∧ (W.alloc o).cell? ⟨g, b, none⟩ = some (.string y) ∧ (W.alloc o).cell? ⟨g, c, none⟩ = some (.string z) ∧ (W.alloc o).cell? ⟨g, e, none⟩ = some (.string u)) = (W.cell? ⟨g, a, none⟩ = some (.string x) ∧ W.cell? ⟨g, b, none⟩ = some (.string y) ∧ W.cell? ⟨g, c, none⟩ = some (.string z) ∧ W.cell? ⟨g, e, none⟩ = some (.string u)) := by
  rw [World.cell?_alloc_past _ _ _ hg, World.cell?_alloc_past _ _ _ hg, World.cell?_alloc_past _ _ _ hg, World.cell?_alloc_past _ _ _ hg]
theorem Quad.drewE {g a b c e : Nat} {x y z u : ByteArray} {W : World} : (W.drew.cell? ⟨g, a, none⟩ = some (.string x) ∧ W.drew.cell? ⟨g, b, none⟩ = some (.string y) ∧ W.drew.cell? ⟨g, c, none⟩ = some (.string z) ∧ W.drew.cell? ⟨g, e, none⟩ = some (.string u)) = (W.cell? ⟨g, a, none⟩ = some (.string x) ∧ W.cell? ⟨g, b, none⟩ = some (.string y) ∧ W.cell? ⟨g, c, none⟩ = some (.string z) ∧ W.cell? ⟨g, e, none⟩ = some (.string u)) := rfl
theorem Three.setE {g a b c : Nat} {x y z : ByteArray} {W : World} {p : Addr} {v : Value} (hp : p.block ≠ g) : ((W.setCell p v).cell? ⟨g, a, none⟩ = some (.string x) ∧ (W.setCell p v).cell? ⟨g, b, none⟩ = some (.string y) ∧ (W.setCell p v).cell? ⟨g, c, none⟩ = some (.string z)) = (W.cell? ⟨g, a, none⟩ = some (.string x) ∧ W.cell? ⟨g, b, none⟩ = some (.string y) ∧ W.cell? ⟨g, c, none⟩ = some (.string z)) := by
  rw [cell_set_ne v hp, cell_set_ne v hp, cell_set_ne v hp]
theorem Three.allocE {g a b c : Nat} {x y z : ByteArray} {W : World} {o : Obj} (hg : g < W.heap.size) : ((W.alloc o).cell? ⟨g, a, none⟩ = some (.string x) ∧ (W.alloc o).cell? ⟨g, b, none⟩ = some (.string y) ∧ (W.alloc o).cell? ⟨g, c, none⟩ = some (.string z)) = (W.cell? ⟨g, a, none⟩ = some (.string x) ∧ W.cell? ⟨g, b, none⟩ = some (.string y) ∧ W.cell? ⟨g, c, none⟩ = some (.string z)) := by
  rw [World.cell?_alloc_past _ _ _ hg, World.cell?_alloc_past _ _ _ hg, World.cell?_alloc_past _ _ _ hg]
theorem Three.drewE {g a b c : Nat} {x y z : ByteArray} {W : World} : (W.drew.cell? ⟨g, a, none⟩ = some (.string x) ∧ W.drew.cell? ⟨g, b, none⟩ = some (.string y) ∧ W.drew.cell? ⟨g, c, none⟩ = some (.string z)) = (W.cell? ⟨g, a, none⟩ = some (.string x) ∧ W.cell? ⟨g, b, none⟩ = some (.string y) ∧ W.cell? ⟨g, c, none⟩ = some (.string z)) := rfl

set_option maxHeartbeats 16000000 in
set_option maxRecDepth 100000 in
theorem ref_read (d : Dc) (hok : DcOk d) (s : ByteArray) (hsd : s.data.toList = dcT d) (w : World) (hs : s.size ≤ 800) : Calls Tryz.prog 60 #[.string s] w fun e w' =>
    ∃ ap np cp ai ni ci ar nr cr au nu cu, e = .returned (.agg #[.slice ap np cp, .slice ai ni ci, .slice ar nr cr, .slice au nu cu]) ∧ RDcAt w' d (.slice ap np cp) (.slice ai ni ci) (.slice ar nr cr) (.slice au nu cu) ∧ Below w.heap.size w w' := by
  have HP : Hid (piecesL 47 s.data.toList = [pksT d.packs, lsT d.ins, lsT d.rem, lsT d.upg]) := by show _ = _; rw [hsd]; exact dc_pieces hok
  have hlen : ∀ a ∈ [pksT d.packs, lsT d.ins, lsT d.rem, lsT d.upg], a.length ≤ 800 := by
    intro a ha
    have h1 := join_len (c := 47) ha
    rw [show joinT 47 [pksT d.packs, lsT d.ins, lsT d.rem, lsT d.upg] = dcT d by simp [dcT, joinT], ← hsd, sz] at h1
    omega
  have q0 : (bs (pksT d.packs)).size ≤ 800 := by rw [bs_size]; exact hlen _ (by simp)
  have q1 : (bs (lsT d.ins)).size ≤ 800 := by rw [bs_size]; exact hlen _ (by simp)
  have q2 : (bs (lsT d.rem)).size ≤ 800 := by rw [bs_size]; exact hlen _ (by simp)
  have q3 : (bs (lsT d.upg)).size ≤ 800 := by rw [bs_size]; exact hlen _ (by simp)
  have HOK : Hid (DcOk d) := hok
  obtain ⟨i0, hi0, hz0, hz1, hz2⟩ := info_parts Tryz.infoRPk
  clear hsd hlen hok
  go_enter Tryz.func60, Tryz.ntmps60
  go_wp2_with fail
  refine (ref_pieces s 47 47 rfl _ hs).mono ?_
  rintro e w1 ⟨v, rfl, hown, hb⟩
  rw [HP.out] at hown
  have hst := StAt.of hown
  rcases hst.cells with ⟨_, h0⟩ | ⟨g, cap, rfl, hg, hcell⟩
  · cases h0
  have k0 := hcell 0 _ rfl
  have k1 := hcell 1 _ rfl
  have k2 := hcell 2 _ rfl
  have k3 := hcell 3 _ rfl
  unfold strV at k0 k1 k2 k3
  simp only [List.length_cons, List.length_nil, Nat.zero_add, Nat.reduceAdd]
  have HBR : Hid (w1.heap[w.heap.size]? = some (.cells #[.slice none 0 0, .slice none 0 0, .slice none 0 0, .slice none 0 0] 126 (0, 0))) := blk_below hb (blk_new w _) (by simp)
  have HB1 : Hid (Below w.heap.size w w1) := ((Below.refl _ _).alloc (Nat.le_refl _) _).trans (hb.mono (by simp))
  have hHw1 : w.heap.size < w1.heap.size := ltAt HBR.out
  clear hown hst hcell HP hb
  go_wp2_with fail
  go_cut [4] from 11 to 23 (fun p wx => ∃ b a1 n1 c1 a2 n2 c2 a3 n3 c3, p = .pointer (some ⟨b, 0, none⟩) ∧ w1.heap.size ≤ b ∧ wx.heap[b]? = some (.cells #[.slice none 0 0, .slice a1 n1 c1, .slice a2 n2 c2, .slice a3 n3 c3] 126 (0, 0)) ∧ StAt wx (.slice a1 n1 c1) (splitL 44 (lsT d.ins)) ∧ StAt wx (.slice a2 n2 c2) (splitL 44 (lsT d.rem)) ∧ StAt wx (.slice a3 n3 c3) (splitL 44 (lsT d.upg)) ∧ Below w1.heap.size w1 wx)
  case first =>
    go_region_held3 (fun w' => w'.cell? ⟨g, 1, none⟩ = some (.string (bs (lsT d.ins))) ∧ w'.cell? ⟨g, 2, none⟩ = some (.string (bs (lsT d.rem))) ∧ w'.cell? ⟨g, 3, none⟩ = some (.string (bs (lsT d.upg)))) (repeat (first | (rw [Three.setE (by simp only []; omega)]) | (rw [Three.allocE (by omega)]) | (rw [Three.drewE]) | exact ⟨k1, k2, k3⟩ | refine Three.below (by assumption) ?_))
      (first
        | (go_at_call_of 105 (Value.string (bs (lsT d.ins))); refine (ref_split' (bs (lsT d.ins)) 44 44 rfl _ q1).mono ?_; rintro e wa ⟨aa, na, ca, rfl, ha, hba⟩; obtain ⟨hca, hfa⟩ := bcell hba; have hza := hba.size; (try simp only [World.size_drew, World.size_alloc] at hza); (try (have hltaw1 : w1.heap.size < wa.heap.size := by omega)); (try (have hltawb : wb.heap.size < wa.heap.size := by omega)); (try (have hltawc : wc.heap.size < wa.heap.size := by omega)))
        | (go_at_call_of 105 (Value.string (bs (lsT d.rem))); refine (ref_split' (bs (lsT d.rem)) 44 44 rfl _ q2).mono ?_; rintro e wb ⟨ab, nb, cb, rfl, hb, hbb⟩; obtain ⟨hcb, hfb⟩ := bcell hbb; have hzb := hbb.size; (try simp only [World.size_alloc] at hzb); (try (have hltbw1 : w1.heap.size < wb.heap.size := by omega)); (try (have hltbwa : wa.heap.size < wb.heap.size := by omega)); (try (have hltbwc : wc.heap.size < wb.heap.size := by omega)))
        | (go_at_call_of 105 (Value.string (bs (lsT d.upg))); refine (ref_split' (bs (lsT d.upg)) 44 44 rfl _ q3).mono ?_; rintro e wc ⟨ac, nc, cc, rfl, hc, hbc⟩; obtain ⟨hcc, hfc⟩ := bcell hbc; have hzc := hbc.size; (try simp only [World.size_alloc] at hzc); (try (have hltcw1 : w1.heap.size < wc.heap.size := by omega)); (try (have hltcwa : wa.heap.size < wc.heap.size := by omega)); (try (have hltcwb : wb.heap.size < wc.heap.size := by omega))))
    all_goals (try go_wp2_with fail)
    all_goals go_meet
    all_goals simp only [bs_list] at ha hb hc
    · exact ⟨_, aa, na, ca, ab, nb, cb, ac, nc, cc, rfl, way_last (below_drew hba) hbb hbc (StAt.of ha) (StAt.of hb) (StAt.of hc) _⟩
    · exact ⟨_, aa, na, ca, ab, nb, cb, ac, nc, cc, rfl, way_set (by decide) (way_set (by decide) (way_set (by decide) (way_set (by decide) (way_b (zs := #[.slice none 0 0, .slice none 0 0, .slice none 0 0, .slice none 0 0]) (T := 126) (below_drew hba) hbb hbc (StAt.of ha) (StAt.of hb) (StAt.of hc)) 0 _) 1 _) 2 _) 3 _⟩
    · exact ⟨_, aa, na, ca, ab, nb, cb, ac, nc, cc, rfl, way_set (by decide) (way_set (by decide) (way_set (by decide) (way_set (by decide) (way_a (zs := #[.slice none 0 0, .slice none 0 0, .slice none 0 0, .slice none 0 0]) (T := 126) (below_drew hba) hbb hbc (StAt.of ha) (StAt.of hb) (StAt.of hc)) 0 _) 1 _) 2 _) 3 _⟩
    · exact ⟨_, aa, na, ca, ab, nb, cb, ac, nc, cc, rfl, way_set (by decide) (way_set (by decide) (way_set (by decide) (way_set (by decide) (way_0 (w1 := w1) (zs := #[.slice none 0 0, .slice none 0 0, .slice none 0 0, .slice none 0 0]) (T := 126) (below_drew hba) hbb hbc (StAt.of ha) (StAt.of hb) (StAt.of hc)) 0 _) 1 _) 2 _) 3 _⟩
  case rest =>
    obtain ⟨b, a1, n1, c1, a2, n2, c2, a3, n3, c3, rfl, hbb, hblk, hs1, hs2, hs3, hbw⟩ := hcut
    rw [ls_split HOK.out.ins] at hs1
    rw [ls_split HOK.out.rem] at hs2
    rw [ls_split HOK.out.upg] at hs3
    have k0' := (hbw.cell (p := ⟨g, 0, none⟩) hg).trans k0
    have HBR2 : Hid (wc.heap[w.heap.size]? = some (.cells #[.slice none 0 0, .slice none 0 0, .slice none 0 0, .slice none 0 0] 126 (0, 0))) := blk_below hbw HBR.out hHw1
    have HB2 : Hid (Below w.heap.size w wc) := HB1.out.trans (hbw.mono (by omega))
    have H1 : Hid (StAt wc (.slice a1 n1 c1) (d.ins.map cnT)) := hs1
    have H2 : Hid (StAt wc (.slice a2 n2 c2) (d.rem.map cnT)) := hs2
    have H3 : Hid (StAt wc (.slice a3 n3 c3) (d.upg.map cnT)) := hs3
    have HBK : Hid (wc.heap[b]? = some (.cells #[.slice none 0 0, .slice a1 n1 c1, .slice a2 n2 c2, .slice a3 n3 c3] 126 (0, 0))) := hblk
    clear hs1 hs2 hs3 hblk hbw k0 k1 k2 k3 HBR HB1
    go_wp2_with fail
    refine (ref_split' (bs (pksT d.packs)) 59 59 rfl _ q0).mono ?_
    rintro e w3 ⟨al, nl, cl, rfl, hl, hb3⟩
    rw [bs_list] at hl
    have HL : Hid (StAt w3 (.slice al nl cl) (splitL 59 (pksT d.packs))) := StAt.of hl
    have hnl : nl = (splitL 59 (pksT d.packs)).length := by
      rcases own_shape hl with ⟨h, h0⟩ | ⟨g, cap, h, _⟩
      · injection h with _ h _; omega
      · injection h with _ h _
    have hlt : b < wc.heap.size := ltAt HBK.out
    have HB3 : Hid (Below w.heap.size w w3) := HB2.out.trans (hb3.mono HB2.out.size)
    have hHw3 : w.heap.size < w3.heap.size := Nat.lt_of_lt_of_le (ltAt HBR2.out) hb3.size
    have HR0 : Hid (RdR w b d a1 n1 c1 a2 n2 c2 a3 n3 c3 al nl cl w3 none 0 0 0) := ⟨blk_below hb3 HBK.out hlt, blk_below hb3 HBR2.out (ltAt HBR2.out), H1.out.below hb3, H2.out.below hb3, H3.out.below hb3, HL.out, HB3.out, ⟨[], World.ownsRow_nil _ _ _ _, trivial⟩, by omega, Nat.zero_le _⟩
    clear hl hb3 H1 H2 H3 HBK HBR2 HB2 HL HB3 k0'
    have hnl' : nl ≤ 802 := by
      have := splitL_len 59 (pksT d.packs)
      have := bs_size (pksT d.packs)
      omega
    have hnp : nl = 0 ∧ d.packs.length = 0 ∨ nl = d.packs.length + 1 := by
      rw [hnl]
      by_cases h : d.packs = []
      · left; rw [h]; exact ⟨rfl, rfl⟩
      · right; rw [pks_split HOK.out.packs h]; simp
    have HNP : Hid (nl = 0 ∧ d.packs.length = 0 ∨ nl = d.packs.length + 1) := hnp
    clear hnl hnp
    go_wp2
    go_loopw [6] (fun i wr => ∃ (k : Nat) (ao : Option Addr) (nn cc : Nat), i = .int .i64 k ∧ RdR w b d a1 n1 c1 a2 n2 c2 a3 n3 c3 al nl cl wr ao nn cc k) (fun i _ => nl - (intOf i).toNat)
    case atStart => exact ⟨0, none, 0, 0, rfl, HR0.out⟩
    case round =>
      obtain ⟨k, ao, nn, cc, rfl, hR⟩ := hrel
      have HR : Hid (RdR w b d a1 n1 c1 a2 n2 c2 a3 n3 c3 al nl cl wr ao nn cc k) := hR
      have hkl := hR.le
      clear hR HR0
      by_cases hlt2 : k + 1 < nl
      · have hkp : k < d.packs.length := by rcases HNP.out with ⟨h1, h2⟩ | h <;> omega
        have hpk : PkOk d.packs[k] := HOK.out.packs _ (List.getElem_mem _)
        obtain ⟨gl, rfl, xl⟩ : ∃ gl, al = some ⟨gl, 0, none⟩ ∧ wr.cell? ⟨gl, k, none⟩ = some (.string (bs (pkB d.packs[k]))) := by
          rcases HR.out.sl.cells with ⟨h, _⟩ | ⟨gl, cap, h, _, hx⟩
          · injection h with _ h _; omega
          · injection h with h _ _
            refine ⟨gl, h, hx k (pkB d.packs[k]) ?_⟩
            rw [pks_split HOK.out.packs (by intro e; rw [e] at hkp; simp at hkp), List.getElem?_append_left (by simpa using hkp)]
            simp [hkp]
        have hbl : (bs (pkB d.packs[k])).size ≤ 800 := by
          rw [bs_size]
          have h1 : (pkB d.packs[k]).length ≤ (pksT d.packs).length := by
            rw [pks_join]; exact join_len (by simp; left; exact ⟨_, List.getElem_mem _, rfl⟩)
          have := bs_size (pksT d.packs)
          omega
        have hbp : ∀ a ∈ [pkH d.packs[k], nsT d.packs[k].needs, lsT d.packs[k].conf, nmT d.packs[k].prov], (bs a).size ≤ 800 := by
          intro a ha
          rw [bs_size] at hbl ⊢
          have h1 : a.length ≤ (pkB d.packs[k]).length := join_len ha
          omega
        have r1 : (bs (nsT d.packs[k].needs)).size ≤ 800 := hbp _ (by simp)
        have r2 : (bs (lsT d.packs[k].conf)).size ≤ 800 := hbp _ (by simp)
        have r3 : (bs (nmT d.packs[k].prov)).size ≤ 800 := hbp _ (by simp)
        have hh2 : 2 ≤ (bs (pkH d.packs[k])).size := by rw [bs_size]; simp [pkH]
        have hh2i : (2 : Int) ≤ ((bs (pkH d.packs[k])).size : Int) := by omega
        have hh3 : (bs (pkH d.packs[k])).size ≤ 800 := hbp _ (by simp)
        have HPK : Hid (PkOk d.packs[k]) := hpk
        clear hpk hbp
        generalize hP : d.packs[k] = P at *
        have HPP : Hid (d.packs[k] = P) := hP
        clear hP
        go_wp2_with fail
        refine (ref_pieces (bs (pkB P)) 58 58 rfl _ hbl).mono ?_
        rintro e w4 ⟨v, rfl, hown, hb4⟩
        rw [bs_list, pk_pieces HPK.out] at hown
        have hst := StAt.of hown
        rcases hst.cells with ⟨_, h0⟩ | ⟨gf, capf, rfl, hgf, hcell⟩
        · cases h0
        have k0 := hcell 0 _ rfl
        have k1 := hcell 1 _ rfl
        have k2 := hcell 2 _ rfl
        have k3 := hcell 3 _ rfl
        unfold strV at k0 k1 k2 k3
        simp only [List.length_cons, List.length_nil, Nat.zero_add, Nat.reduceAdd]
        have HB4 : Hid (Below wr.heap.size wr w4) := hb4
        clear hown hst hcell hb4 xl
        go_wp2_with fail
        go_cut [8] from 28 to 66 (fun p wx => ∃ b2 a1' n1' c1' a2' n2' c2' a3' n3' c3', p = .pointer (some ⟨b2, 0, none⟩) ∧ w4.heap.size ≤ b2 ∧ wx.heap[b2]? = some (.cells #[.string ((bs (pkH P)).extract 0 2), .string ((bs (pkH P)).extract 2 (bs (pkH P)).size), .slice a1' n1' c1', .slice a2' n2' c2', .slice a3' n3' c3'] 173 (0, 0)) ∧ StAt wx (.slice a1' n1' c1') (splitL 44 (nsT P.needs)) ∧ StAt wx (.slice a2' n2' c2') (splitL 44 (lsT P.conf)) ∧ StAt wx (.slice a3' n3' c3') (splitL 44 (nmT P.prov)) ∧ Below w4.heap.size w4 wx)
        case first =>
          go_region_held3 (fun w' => w'.cell? ⟨gf, 0, none⟩ = some (.string (bs (pkH P))) ∧ w'.cell? ⟨gf, 1, none⟩ = some (.string (bs (nsT P.needs))) ∧ w'.cell? ⟨gf, 2, none⟩ = some (.string (bs (lsT P.conf))) ∧ w'.cell? ⟨gf, 3, none⟩ = some (.string (bs (nmT P.prov)))) (repeat (first | (rw [Quad.setE (by simp only []; omega)]) | (rw [Quad.allocE (by omega)]) | (rw [Quad.drewE]) | exact ⟨k0, k1, k2, k3⟩ | refine Quad.below (by assumption) ?_))
            (first
              | (go_at_call_of 105 (Value.string (bs (nsT P.needs))); refine (ref_split' (bs (nsT P.needs)) 44 44 rfl _ r1).mono ?_; rintro e wa ⟨aa, na, ca, rfl, ha, hba⟩; obtain ⟨hca, hfa⟩ := bcell hba; have hza := hba.size; (try simp only [World.size_drew, World.size_alloc] at hza); (try (have hltaw4 : w4.heap.size < wa.heap.size := by omega)); (try (have hltawb : wb.heap.size < wa.heap.size := by omega)); (try (have hltawc : wc.heap.size < wa.heap.size := by omega)))
              | (go_at_call_of 105 (Value.string (bs (lsT P.conf))); refine (ref_split' (bs (lsT P.conf)) 44 44 rfl _ r2).mono ?_; rintro e wb ⟨ab, nb, cb, rfl, hb, hbb⟩; obtain ⟨hcb, hfb⟩ := bcell hbb; have hzb := hbb.size; (try simp only [World.size_alloc] at hzb); (try (have hltbw4 : w4.heap.size < wb.heap.size := by omega)); (try (have hltbwa : wa.heap.size < wb.heap.size := by omega)); (try (have hltbwc : wc.heap.size < wb.heap.size := by omega)))
              | (go_at_call_of 105 (Value.string (bs (nmT P.prov))); refine (ref_split' (bs (nmT P.prov)) 44 44 rfl _ r3).mono ?_; rintro e wc ⟨ac, nc, cc, rfl, hc, hbc⟩; obtain ⟨hcc, hfc⟩ := bcell hbc; have hzc := hbc.size; (try simp only [World.size_alloc] at hzc); (try (have hltcw4 : w4.heap.size < wc.heap.size := by omega)); (try (have hltcwa : wa.heap.size < wc.heap.size := by omega)); (try (have hltcwb : wb.heap.size < wc.heap.size := by omega))))
          all_goals (try go_wp2_with fail)
          all_goals go_meet
          all_goals simp only [bs_list] at ha hb hc
          · exact ⟨_, aa, na, ca, ab, nb, cb, ac, nc, cc, rfl, way_last (below_drew hba) hbb hbc (StAt.of ha) (StAt.of hb) (StAt.of hc) _⟩
          · exact ⟨_, aa, na, ca, ab, nb, cb, ac, nc, cc, rfl, (way_set (by decide) (way_set (by decide) (way_set (by decide) (way_set (by decide) (way_set (by decide) (way_b (zs := #[.string ByteArray.empty, .string ByteArray.empty, .slice none 0 0, .slice none 0 0, .slice none 0 0]) (T := 173) (below_drew hba) hbb hbc (StAt.of ha) (StAt.of hb) (StAt.of hc)) 0 _) 1 _) 2 _) 3 _) 4 _)⟩
          · exact ⟨_, aa, na, ca, ab, nb, cb, ac, nc, cc, rfl, (way_set (by decide) (way_set (by decide) (way_set (by decide) (way_set (by decide) (way_set (by decide) (way_a (zs := #[.string ByteArray.empty, .string ByteArray.empty, .slice none 0 0, .slice none 0 0, .slice none 0 0]) (T := 173) (below_drew hba) hbb hbc (StAt.of ha) (StAt.of hb) (StAt.of hc)) 0 _) 1 _) 2 _) 3 _) 4 _)⟩
          · exact ⟨_, aa, na, ca, ab, nb, cb, ac, nc, cc, rfl, (way_set (by decide) (way_set (by decide) (way_set (by decide) (way_set (by decide) (way_set (by decide) (way_0 (w1 := w4) (zs := #[.string ByteArray.empty, .string ByteArray.empty, .slice none 0 0, .slice none 0 0, .slice none 0 0]) (T := 173) (below_drew hba) hbb hbc (StAt.of ha) (StAt.of hb) (StAt.of hc)) 0 _) 1 _) 2 _) 3 _) 4 _)⟩
        case rest =>
          obtain ⟨b2, a1', n1', c1', a2', n2', c2', a3', n3', c3', rfl, hb2, hblk, hs1, hs2, hs3, hbw⟩ := hcut
          rw [ns_split HPK.out.needs] at hs1
          rw [ls_split HPK.out.conf] at hs2
          rw [nm_split HPK.out.prov] at hs3
          have hw4 := HB4.out.size
          have hbx : Below wr.heap.size wr wc := HB4.out.trans (hbw.mono hw4)
          have hR := HR.out
          have hown := hR.packs
          obtain ⟨css, hown, hall⟩ := hown
          have hownc := World.ownsRow.kept (row := none) hown ⟨hbx.os, hbx.tape, hbx.output, hbx.size, fun k hk _ => hbx.block k hk⟩ (by rcases (Value.slice ao nn cc).ownBlock with _ | k <;> simp)
          have hbk := blk_below hbx hR.blk (ltAt hR.blk)
          have m0 : wc.cell? ⟨b, 0, none⟩ = some (.slice ao nn cc) := by rw [cellAt hbk]; rfl
          have y0 : wc.cell? ⟨b2, 0, none⟩ = some (.string ((bs (pkH P)).extract 0 2)) := by rw [cellAt hblk]; rfl
          have y1 : wc.cell? ⟨b2, 1, none⟩ = some (.string ((bs (pkH P)).extract 2 (bs (pkH P)).size)) := by rw [cellAt hblk]; rfl
          have y2 : wc.cell? ⟨b2, 2, none⟩ = some (.slice a1' n1' c1') := by rw [cellAt hblk]; rfl
          have y3 : wc.cell? ⟨b2, 3, none⟩ = some (.slice a2' n2' c2') := by rw [cellAt hblk]; rfl
          have y4 : wc.cell? ⟨b2, 4, none⟩ = some (.slice a3' n3' c3') := by rw [cellAt hblk]; rfl
          have HRC : Hid (RPkC wc [.string ((bs (pkH P)).extract 0 2), .string ((bs (pkH P)).extract 2 (bs (pkH P)).size), .slice a1' n1' c1', .slice a2' n2' c2', .slice a3' n3' c3'] P) := by
            refine ⟨_, _, _, ?_, hs1, hs2, hs3⟩
            have x1 : (bs (pkH P)).extract 0 2 = bs [b8 P.n, b8 P.v] := by rw [extract_bs, bs_list]; rfl
            have x2 : (bs (pkH P)).extract 2 (bs (pkH P)).size = bs (mkT P.m) := by rw [extract_bs, bs_list, bs_size, List.take_of_length_le (Nat.le_refl _)]; rfl
            rw [x1, x2]; rfl
          have HALL : Hid (All2 (RPkC wc) css (d.packs.take k)) := hall.mono fun _ _ h => h.below hbx
          have HC : Hid (RdR w b d a1 n1 c1 a2 n2 c2 a3 n3 c3 (some ⟨gl, 0, none⟩) nl cl wc ao nn cc k) := ⟨hbk, blk_below hbx hR.res (ltAt hR.res), hR.s1.below hbx, hR.s2.below hbx, hR.s3.below hbx, hR.sl.below hbx, hR.bel.trans (hbx.mono hR.bel.size), ⟨css, hownc, HALL.out⟩, hR.bgt, hR.le⟩
          have hwc : w.heap.size + 1 ≤ wc.heap.size := by have := ltAt HC.out.res; omega
          clear hs1 hs2 hs3 hbw hbx hown hall hblk hbk hR HR HB4 k0 k1 k2 k3 hb2
          go_wp2_with (at_builtin; refine wpList_append_own _ rfl _ _ 124 rfl (w.heap.size + 1) 173 i0 (.agg #[.string ByteArray.empty, .string ByteArray.empty, .slice none 0 0, .slice none 0 0, .slice none 0 0]) 5 104 Tryz.underlying124 hi0 hz0 hz1 hz2 rfl (by decide) _ _ _ rfl (hownc.alloc _) ⟨wc.heap.size, 0, none⟩ 1 1 [.string ((bs (pkH P)).extract 0 2), .string ((bs (pkH P)).extract 2 (bs (pkH P)).size), .slice a1' n1' c1', .slice a2' n2' c2', .slice a3' n3' c3'] rfl rfl ?c1 ?c2 ?c3 ?c4 ?c5 ?_)
          case c1 => exact cell_new _ _ _
          case c2 => intro u hu; simp at hu; rcases hu with rfl | rfl | rfl | rfl | rfl <;> rfl
          case c3 => unfold maxLen; omega
          case c4 => omega
          case c5 => simp; omega
          intro v' w5 hown' hgrow _
          obtain ⟨a5, n5, c5, hv5⟩ : ∃ a n c, v' = .slice a n c := shape_of hown'
          rw [hv5] at hown' ⊢
          have hC := HC.out
          have hno : ∀ kk, (Value.slice ao nn cc).ownBlock = some kk → w.heap.size + 1 ≤ kk ∧ kk < wc.heap.size := fun kk h => hownc.lt kk h
          have hbne : ∀ (x : Nat) (y : Array Value), wc.heap[x]? = some (.cells y 126 (0, 0)) → w5.heap[x]? = some (.cells y 126 (0, 0)) := by
            intro x y hx
            refine (hgrow.block x (by have := ltAt hx; simp; omega) ?_).trans (blk_old hx _)
            intro e
            rcases hownc.2 with ⟨h, _⟩ | ⟨g', cap', cur', h, _, hg', _⟩
            · injection h with h _ _; rw [h] at e; simp [Value.ownBlock] at e
            · injection h with h _ _
              rw [h] at e
              simp [Value.ownBlock] at e
              subst e
              rw [hg'] at hx
              simp at hx
          have hbk5 := hbne _ _ hC.blk
          have m0' : w5.cell? ⟨b, 0, none⟩ = some (.slice ao nn cc) := by rw [cellAt hbk5]; rfl
          have f0 := freeAt hbk5 0
          have HN : Hid (RdR w b d a1 n1 c1 a2 n2 c2 a3 n3 c3 (some ⟨gl, 0, none⟩) nl cl (w5.setCell ⟨b, 0, none⟩ (.slice a5 n5 c5)) a5 n5 c5 (k + 1)) := by
            refine ⟨setAt hbk5 0 _, blk_set (hbne _ _ hC.res) (by simp only []; omega) _, ?_, ?_, ?_, ?_, ?_, ⟨css ++ [[.string ((bs (pkH P)).extract 0 2), .string ((bs (pkH P)).extract 2 (bs (pkH P)).size), .slice a1' n1' c1', .slice a2' n2' c2', .slice a3' n3' c3']], ?_, ?_⟩, hC.bgt, hkp⟩
            · exact ((hC.s1.alloc _).other (hownc.alloc _) (by decide) hgrow).setT hbk5 (by decide) 0 _
            · exact ((hC.s2.alloc _).other (hownc.alloc _) (by decide) hgrow).setT hbk5 (by decide) 0 _
            · exact ((hC.s3.alloc _).other (hownc.alloc _) (by decide) hgrow).setT hbk5 (by decide) 0 _
            · exact ((hC.sl.alloc _).other (hownc.alloc _) (by decide) hgrow).setT hbk5 (by decide) 0 _
            · exact ((hC.bel.alloc (by omega) _).grown hgrow (by simp; omega) (fun kk h => by have := (hno kk h).1; omega)).setCell (by have := hC.bgt; simp only []; omega) _
            · refine own_setT ?_ hbk5 (by decide) 0 _
              simpa using hown'
            · rw [List.take_succ_eq_append_getElem hkp, HPP.out]
              exact (All2.snoc ((HRC.out.alloc _).other (hownc.alloc _) hgrow) (HALL.out.mono fun _ _ h => (h.alloc _).other (hownc.alloc _) hgrow)).mono fun _ _ h => h.setT hbk5 (by decide) 0 _
          clear hown' hgrow hownc hC HC HALL HRC hbk5 hbne hno hv5
          go_wp2
          go_roundw
          case rel => first | exact ⟨k + 1, a5, n5, c5, by go_num, HN.out⟩ | ((repeat apply Exists.intro); exact ⟨⟨k + 1, a5, n5, c5, by go_num, HN.out⟩, rfl⟩)
          case measure => simp [intOf]; omega
      · have HKK : Hid (k = d.packs.length) := by show _ = _; rcases HNP.out with ⟨h1, h2⟩ | h <;> omega
        have hkb : k ≤ 802 := by rcases HNP.out with ⟨h1, h2⟩ | h <;> omega
        clear hkl
        have hR := HR.out
        have m0 : wr.cell? ⟨b, 0, none⟩ = some (.slice ao nn cc) := by rw [cellAt hR.blk]; rfl
        have m1 : wr.cell? ⟨b, 1, none⟩ = some (.slice a1 n1 c1) := by rw [cellAt hR.blk]; rfl
        have m2 : wr.cell? ⟨b, 2, none⟩ = some (.slice a2 n2 c2) := by rw [cellAt hR.blk]; rfl
        have m3 : wr.cell? ⟨b, 3, none⟩ = some (.slice a3 n3 c3) := by rw [cellAt hR.blk]; rfl
        have d0 : wr.cell? ⟨w.heap.size, 0, none⟩ = some (.slice none 0 0) := by rw [cellAt hR.res]; rfl
        have d1 : wr.cell? ⟨w.heap.size, 1, none⟩ = some (.slice none 0 0) := by rw [cellAt hR.res]; rfl
        have d2 : wr.cell? ⟨w.heap.size, 2, none⟩ = some (.slice none 0 0) := by rw [cellAt hR.res]; rfl
        have d3 : wr.cell? ⟨w.heap.size, 3, none⟩ = some (.slice none 0 0) := by rw [cellAt hR.res]; rfl
        have e0 := freeAt hR.res 0
        have e1 := freeAt hR.res 1
        have e2 := freeAt hR.res 2
        have e3 := freeAt hR.res 3
        have hne : b ≠ w.heap.size := by omega
        clear hR
        go_wp2
        refine bodyPost_ret (v := .agg #[.slice ao nn cc, .slice a1 n1 c1, .slice a2 n2 c2, .slice a3 n3 c3]) ?_ rfl ⟨ao, nn, cc, a1, n1, c1, a2, n2, c2, a3, n3, c3, rfl, ?_, ?_⟩
        · simp [results, Tryz.results60, go_sem, d0, d1, d2, d3]
        · have hp := HR.out.packs
          rw [HKK.out, List.take_length] at hp
          have hD : RDcAt wr d (.slice ao nn cc) (.slice a1 n1 c1) (.slice a2 n2 c2) (.slice a3 n3 c3) := ⟨hp.toPks rfl, HR.out.s1, HR.out.s2, HR.out.s3⟩
          exact ((((hD.setT HR.out.res (by decide) (by decide) 0 _).setT (setAt HR.out.res 0 _) (by decide) (by decide) 1 _).setT (setAt (setAt HR.out.res 0 _) 1 _) (by decide) (by decide) 2 _).setT (setAt (setAt (setAt HR.out.res 0 _) 1 _) 2 _) (by decide) (by decide) 3 _)
        · exact ((((HR.out.bel.setCell (by simp) _).setCell (by simp) _).setCell (by simp) _).setCell (by simp) _)

end Go.Proofs.YtenbnmbbfeekpabGreatDoor

namespace Go.Proofs.YtenbnmbbfeekpabGreatDoor
open Go.RowKit

set_option maxHeartbeats 1600000 in
set_option maxRecDepth 100000 in
theorem ref_Check (s : ByteArray) (w : World) (hs : s.size ≤ maxLen) : Calls Tryz.prog 58 #[.string s] w fun e w' => e = .returned (.tuple #[.int .i64 (rdE s.data.toList), .int .i64 (rdP s.data.toList)]) ∧ Below w.heap.size w w' := by
  have hs' := hs
  unfold maxLen at hs
  by_cases hlong : 800 < s.size
  · have HE : Hid (rdE s.data.toList = 1 ∧ rdP s.data.toList = 0) := by show _ ∧ _; unfold rdE rdP; rw [sz, if_pos hlong, if_pos hlong]; exact ⟨rfl, rfl⟩
    go_enter Tryz.func58, Tryz.ntmps58
    go_wp2
    go_ret2
    exact ⟨by rw [HE.out.1, HE.out.2]; rfl, Below.refl _ _⟩
  · obtain ⟨r1, r2⟩ := dc_run s.data.toList
    cases hbad : dcBad s.data.toList with
    | true =>
      have HP : Hid (plF 0 s.data.toList 0 = (dcI s.data.toList : Int)) := r2 hbad
      have HE : Hid (rdE s.data.toList = 2 ∧ rdP s.data.toList = dcI s.data.toList) := by show _ ∧ _; unfold rdE rdP; rw [sz, if_neg hlong, if_neg hlong, if_pos hbad, if_pos hbad]; exact ⟨rfl, rfl⟩
      clear r1 r2 hbad
      go_enter Tryz.func58, Tryz.ntmps58
      go_wp2_with fail
      refine (ref_place s _ hs').mono ?_
      rintro e w1 ⟨rfl, rfl⟩
      rw [HP.out]
      go_wp2
      go_ret2
      exact ⟨by rw [HE.out.1, HE.out.2]; rfl, Below.refl _ _⟩
    | false =>
      obtain ⟨hP, hT, hok⟩ := r1 hbad
      have HP : Hid (plF 0 s.data.toList 0 = -1) := hP
      have HT : Hid (s.data.toList = dcT (dcV s.data.toList)) := hT
      have HB : Hid (dcBad s.data.toList = false) := hbad
      clear r1 r2 hP hT hbad
      have hs8 : s.size ≤ 800 := by omega
      go_enter Tryz.func58, Tryz.ntmps58
      go_wp2_with fail
      refine (ref_place s _ hs').mono ?_
      rintro e w1 ⟨rfl, rfl⟩
      rw [HP.out]
      go_wp2_with fail
      refine (ref_read (dcV s.data.toList) hok s HT.out _ hs8).mono ?_
      rintro e w2 ⟨ap, np, cp, ai, ni, ci, ar, nr, cr, au, nu, cu, rfl, hd, hb⟩
      have hpk := hok.packs
      have hnp : np = (dcV s.data.toList).packs.length := by
        obtain ⟨css, h1, _⟩ := hd.1
        rcases own_shape h1 with ⟨h, h0⟩ | ⟨g, cap, h, _⟩
        · injection h with _ h _; omega
        · injection h with _ h _
      subst hnp
      have hE3 := rd_3 (t := s.data.toList) (by rw [sz]; exact hlong) HB.out
      have hE4 := rd_4 (t := s.data.toList) (by rw [sz]; exact hlong) HB.out
      have hE0 := rd_0 (t := s.data.toList) (by rw [sz]; exact hlong) HB.out
      have hrows := rpks_rows hd.1
      generalize (dcV s.data.toList).packs = ps at *
      have H3 : Hid _ := hE3
      have H4 : Hid _ := hE4
      have H0 : Hid _ := hE0
      have HR : Hid _ := hrows
      have HK : Hid _ := hpk
      have HBW : Hid (Below w1.heap.size w1 w2) := hb
      clear hE3 hE4 hE0 hrows hpk hd HP HT HB hb hok
      by_cases hmany : 20 < ps.length
      · have HE : Hid (rdE s.data.toList = 3 ∧ rdP s.data.toList = 0) := H3.out hmany
        go_wp2
        go_ret2
        exact ⟨by rw [HE.out.1, HE.out.2]; rfl, HBW.out.alloc HBW.out.size _⟩
      · replace H4 := H4.out hmany
        replace H0 := H0.out hmany
        have H4' : Hid _ := H4
        have H0' : Hid _ := H0
        clear H3 H4 H0
        go_wp2_with fail
        obtain ⟨W, hW⟩ : ∃ W, W = w2.alloc (.cells #[.slice ap ps.length cp, .slice ai ni ci, .slice ar nr cr, .slice au nu cu] 126) := ⟨_, rfl⟩
        have hbd : W.heap[w2.heap.size]? = some (.cells #[.slice ap ps.length cp, .slice ai ni ci, .slice ar nr cr, .slice au nu cu] 126 (0, 0)) := by rw [hW]; exact blk_new _ _
        have HW : Hid (Below w1.heap.size w1 W) := by show Below _ _ _; rw [hW]; exact HBW.out.alloc HBW.out.size _
        have HR' : Hid ((ps = []) ∨ ∃ g, ap = some ⟨g, 0, none⟩ ∧ ∀ j (h : j < ps.length), RPkRow W g j ps[j]) := by
          rcases HR.out with ⟨_, h⟩ | ⟨g, cap, h1, _, hg, h⟩
          · exact Or.inl h
          · injection h1 with h1 _ _
            refine Or.inr ⟨g, h1, fun j hj => ?_⟩
            obtain ⟨a1, a2, a3, a4, a5, a6, a7, a8, a9, x⟩ := h j hj
            refine ⟨a1, a2, a3, a4, a5, a6, a7, a8, a9, ?_⟩
            have hbb : Below w2.heap.size w2 W := by rw [hW]; exact (Below.refl _ _).alloc (Nat.le_refl _) _
            rw [hbb.cell (p := ⟨g, _, none⟩) hg, hbb.cell (p := ⟨g, _, none⟩) hg, hbb.cell (p := ⟨g, _, none⟩) hg, hbb.cell (p := ⟨g, _, none⟩) hg, hbb.cell (p := ⟨g, _, none⟩) hg]
            exact x
        have d0 : W.cell? ⟨w2.heap.size, 0, none⟩ = some (.slice ap ps.length cp) := by rw [cellAt hbd]; rfl
        rw [← hW]
        clear hW hbd HBW HR
        go_loopw [6] (fun i wr => ∃ k m : Nat, k ≤ ps.length ∧ i = .int .i64 k ∧ wr = W.drewN m ∧ Hid (ftT ps = ftF ps (ps.length + 1 - k) k)) (fun i _ => ps.length - (intOf i).toNat)
        case atStart => exact ⟨0, 0, by omega, rfl, rfl, rfl⟩
        case round =>
          obtain ⟨k, m, hk, rfl, rfl, HF⟩ := hrel
          by_cases hlt : k < ps.length
          · obtain ⟨g, rfl, hrow⟩ : ∃ g, ap = some ⟨g, 0, none⟩ ∧ ∀ j (h : j < ps.length), RPkRow W g j ps[j] := by
              rcases HR'.out with h | h
              · rw [h] at hlt; simp at hlt
              · exact h
            have HRR : Hid (∀ j (h : j < ps.length), RPkRow W g j ps[j]) := hrow
            obtain ⟨_, _, _, _, _, _, _, _, _, xk, _⟩ := hrow k hlt
            unfold strV at xk
            clear hrow HR'
            have HD : Hid (ftF ps (ps.length + 1 - k) k = if amB (ps.take k) ps[k].n ps[k].v then k else ftF ps (ps.length + 1 - (k + 1)) (k + 1)) := by
              show _ = _
              rw [show ps.length + 1 - k = (ps.length + 1 - (k + 1)) + 1 by omega, ftF, List.getElem?_eq_getElem hlt]
            go_wp2_with fail
            go_loopw [7] (fun i wr => ∃ j m2 : Nat, j ≤ k ∧ i = .int .i64 j ∧ wr = W.drewN m2 ∧ Hid (amB (ps.take k) ps[k].n ps[k].v = amB ((ps.take k).drop j) ps[k].n ps[k].v)) (fun i _ => k - (intOf i).toNat)
            case atStart => exact ⟨0, m, by omega, rfl, rfl, rfl⟩
            case round =>
              obtain ⟨j, m2, hj, rfl, rfl, HA⟩ := hrel
              by_cases hjk : j < k
              · have hjl : j < ps.length := by omega
                obtain ⟨_, _, _, _, _, _, _, _, _, xj, _⟩ := HRR.out j hjl
                unfold strV at xj
                have HS : Hid (amB ((ps.take k).drop j) ps[k].n ps[k].v = ((ps[j].n == ps[k].n && ps[j].v == ps[k].v) || amB ((ps.take k).drop (j + 1)) ps[k].n ps[k].v)) := amB_step hjk (by omega) _ _
                have hid := id_eq (HK.out ps[j] (List.getElem_mem _)) (HK.out ps[k] (List.getElem_mem _))
                by_cases he : ps[j].n = ps[k].n ∧ ps[j].v = ps[k].v
                · have heq := hid.2 he
                  have HFF : Hid (rdE s.data.toList = 4 ∧ rdP s.data.toList = k) := by
                    have h9 : ftT ps = k := by rw [HF.out, HD.out, HA.out, HS.out]; simp [he.1, he.2]
                    have h8 : ftT ps < ps.length := by rw [h9]; exact hlt
                    have h7 := H4'.out h8
                    rwa [h9] at h7
                  clear hid he
                  go_wp2_with fail
                  go_quiet (fail)
                  go_wp2
                  go_ret2
                  exact ⟨by rw [HFF.out.1, HFF.out.2]; rfl, HW.out.trans (show Below w1.heap.size W ((W.drewN m2).drewN nq) from ⟨rfl, rfl, rfl, Nat.le_refl _, fun _ _ => rfl⟩)⟩
                · have hne : ¬ (bs [b8 ps[j].n, b8 ps[j].v] = bs [b8 ps[k].n, b8 ps[k].v]) := fun h => he (hid.1 h)
                  have HFF : Hid (amB (ps.take k) ps[k].n ps[k].v = amB ((ps.take k).drop (j + 1)) ps[k].n ps[k].v) := by
                    show _ = _; rw [HA.out, HS.out]
                    have : (ps[j].n == ps[k].n && ps[j].v == ps[k].v) = false := by simpa using he
                    rw [this]; simp
                  clear hid he
                  have hneb : ((bs [b8 ps[j].n, b8 ps[j].v]).toList == (bs [b8 ps[k].n, b8 ps[k].v]).toList) = false := by
                    rw [beq_eq_false_iff_ne, ByteArray.toList_eq, ByteArray.toList_eq, bs_list, bs_list]; intro h; exact hne (congrArg bs h)
                  go_wp2_with fail
                  go_quiet (fail)
                  go_wp2
                  go_roundw
                  case rel => exact ⟨j + 1, m2 + nq, by omega, by go_num, rfl, HFF⟩
                  case measure => simp [intOf]; omega
              · have HFF : Hid (ftT ps = ftF ps (ps.length + 1 - (k + 1)) (k + 1)) := by
                  have hjk' : j = k := by omega
                  have h9 : amB (ps.take k) ps[k].n ps[k].v = false := by rw [HA.out, hjk', List.drop_of_length_le (by simp; omega)]; rfl
                  show _ = _; rw [HF.out, HD.out, if_neg (by simp [h9])]
                go_wp2
                go_roundw
                case rel => exact ⟨k + 1, m2, by omega, by go_num, rfl, HFF⟩
                case measure => simp [intOf]; omega
          · have HFF : Hid (rdE s.data.toList = 0 ∧ rdP s.data.toList = 0) := by
              have h9 := HF.out
              have hk' : k = ps.length := by omega
              rw [hk', show ps.length + 1 - ps.length = 0 + 1 by omega, ftF, List.getElem?_eq_none (by omega)] at h9
              have h8 : ¬ ftT ps < ps.length := by rw [h9]; exact Nat.lt_irrefl _
              exact H0'.out h8
            go_wp2
            go_ret2
            exact ⟨by rw [HFF.out.1, HFF.out.2]; rfl, HW.out.trans (show Below w1.heap.size W (W.drewN _) from ⟨rfl, rfl, rfl, Nat.le_refl _, fun _ _ => rfl⟩)⟩

end Go.Proofs.YtenbnmbbfeekpabGreatDoor

namespace Go.Proofs.YtenbnmbbfeekpabGreatDoor
open Go.RowKit

set_option maxHeartbeats 400000 in
theorem law_num (n : Int) (w : World) : Calls Tryz.prog 33 #[.int .i64 n] w fun e w' => e = .returned (.int .i64 n) ∧ w' = w := by
  go_enter Tryz.func33, Tryz.ntmps33
  go_wp2
  go_ret
  exact ⟨rfl, rfl⟩

set_option maxHeartbeats 800000 in
theorem law_texts1 (n : Int) (S T U : ByteArray) (w : World) (hS : S.size ≤ maxLen) : Calls Tryz.prog 31 #[.agg #[.int .i64 1, .int .i64 n, .string S, .string T, .string U]] w fun e w' => e = .returned (.bool true) ∧ Below w.heap.size w w' := by
  go_enter Tryz.func31, Tryz.ntmps31
  go_wp2_with fail
  refine (up_Check S _ hS).mono ?_
  rintro e w1 ⟨rfl, hb1⟩
  have hb : Below w.heap.size w w1 := ((Below.refl _ _).alloc (Nat.le_refl _) _).trans (hb1.mono (by simp))
  have hbx := blk_below hb1 (blk_new w (.cells #[.int .i64 1, .int .i64 n, .string S, .string T, .string U] 39)) (by simp)
  have c2 := cellAt hbx 2
  simp at c2
  have HB : Hid (Below w.heap.size w w1) := hb
  clear hb hb1 hbx
  go_wp2_with fail
  refine (ref_Check S _ hS).mono ?_
  rintro e w2 ⟨rfl, hb2⟩
  have HB2 : Hid (Below w.heap.size w w2) := HB.out.trans (hb2.mono HB.out.size)
  clear hb2 HB c2
  go_wp2_with (go_at_call 33; refine (law_num _ _).mono ?_; rintro e w' ⟨rfl, rfl⟩)
  all_goals go_ret
  all_goals exact ⟨ret_bool (by simp), HB2.out⟩

set_option maxHeartbeats 800000 in
theorem law_plays1 (n : Int) (S T U : ByteArray) (w : World) (hS : S.size ≤ maxLen) : Calls Tryz.prog 15 #[.agg #[.int .i64 1, .int .i64 n, .string S, .string T, .string U]] w fun e w' => e = .returned (.bool true) ∧ Below w.heap.size w w' := by
  go_enter Tryz.func15, Tryz.ntmps15
  go_wp2_with fail
  refine (law_texts1 n S T U _ hS).mono ?_
  rintro e w1 ⟨rfl, hb1⟩
  have HB : Hid (Below w.heap.size w w1) := ((Below.refl _ _).alloc (Nat.le_refl _) _).trans (hb1.mono (by simp))
  clear hb1
  go_wp2
  go_ret
  exact ⟨rfl, HB.out⟩

def headS : List UInt8 := [97, 49, 58, 58, 58, 59, 97, 50, 58, 58, 58, 59, 97, 49, 58, 58, 58, 59, 47, 47, 47]
theorem head1E : rdE headS = 4 := by decide +kernel
theorem head1P : rdP headS = 2 := by decide +kernel

set_option maxHeartbeats 800000 in
theorem law_heads1 (w : World) : Calls Tryz.prog 13 #[.int .i64 1] w fun e w' => e = .returned (.bool true) ∧ Below w.heap.size w w' := by
  go_enter Tryz.func13, Tryz.ntmps13
  go_wp2_with fail
  refine (up_Check (bs headS) _ (by unfold maxLen; decide)).mono ?_
  rintro e w1 ⟨rfl, hb1⟩
  rw [bs_list, head1E, head1P]
  go_wp2
  go_ret
  exact ⟨rfl, hb1⟩

/-- A step of the script, in memory. -/
def OpAt (w : World) (b off i : Nat) : Prop := ∃ (k n : Int) (S T U : ByteArray), w.cell? ⟨b, off + i * 5, none⟩ = some (.int .i64 k) ∧ w.cell? ⟨b, off + i * 5 + 1, none⟩ = some (.int .i64 n) ∧ w.cell? ⟨b, off + i * 5 + 2, none⟩ = some (.string S) ∧ w.cell? ⟨b, off + i * 5 + 3, none⟩ = some (.string T) ∧ w.cell? ⟨b, off + i * 5 + 4, none⟩ = some (.string U) ∧ S.size ≤ maxLen ∧ T.size ≤ maxLen ∧ U.size ≤ maxLen

end Go.Proofs.YtenbnmbbfeekpabGreatDoor
