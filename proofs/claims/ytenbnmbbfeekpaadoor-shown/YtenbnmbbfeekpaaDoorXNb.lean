import Derived.Test.YtenbnmbbfeekpaaDoorXNa

namespace Go.Proofs.YtenbnmbbfeekpaaDoor
open Go.RowKit

theorem Tryd.infoUpg : (Tryd.prog.info? 129).map (fun i => (i.zero, i.size, i.bytes)) = some (some (.agg #[.int .u32 0, .int .u32 0]), 2, 8) := by kernel_rfl
def upCells (u : Nat × Nat) : List Value := [.int .u32 (u.1 : Int), .int .u32 (u.2 : Int)]
def UpO (b : Nat) (w : World) (v : Value) (l : List (Nat × Nat)) : Prop := w.ownsRow b 129 2 v l.length (l.map upCells).flatten
theorem UpO.shape {b : Nat} {w : World} {v : Value} {l : List (Nat × Nat)} (h : UpO b w v l) : ∃ a c, v = .slice a l.length c := by
  rcases own_shape h with ⟨rfl, h0⟩ | ⟨g, cap, rfl, hc⟩
  · exact ⟨none, 0, by rw [h0]⟩
  · exact ⟨_, _, rfl⟩

theorem cnAt_at {ps : List Pk} {k : Nat} (h : k < ps.length) : cnAt ps k = ps[k].conf := by unfold cnAt; rw [List.getElem?_eq_getElem h]

set_option maxHeartbeats 3200000 in
set_option maxRecDepth 100000 in
theorem pk_opposed (ao : Option Addr) (cap : Nat) (ps : List Pk) (p : Pk) (an : Option Addr) (nn cn : Nat) (ac : Option Addr) (nc cc : Nat) (ap : Option Addr) (np cp : Nat) (w : World) (hp : PV w ao ps) (hv : PkV w p an nn cn ac nc cc ap np cp) :
    Calls Tryd.prog 38 #[.slice ao ps.length cap, .agg #[.int .u8 p.n, .int .u8 p.v, .int .i64 p.m, .slice an nn cn, .slice ac nc cc, .slice ap np cp]] w fun e w' => e = .returned (.int .u32 (opF ps p ps.length : Nat)) ∧ Below w.heap.size w w' := by
  have hl := hp.1
  have HR : Hid (∀ j (h : j < ps.length), PRw w ao j ps[j]) := hp.2
  have HV : Hid (∀ w', Below w.heap.size w w' → PV w' ao ps) := fun w' hb => hp.below hb
  have HPK : Hid (∀ w', Below w.heap.size w w' → PkV w' p an nn cn ac nc cc ap np cp) := fun w' hb => hv.below hb
  have HBA0 : Hid (Below w.heap.size w (w.alloc (.cells #[.int .u8 p.n, .int .u8 p.v, .int .i64 p.m, .slice an nn cn, .slice ac nc cc, .slice ap np cp] 91))) := (Below.refl _ _).alloc (Nat.le_refl _) _
  have HBK0 : Hid ((w.alloc (.cells #[.int .u8 p.n, .int .u8 p.v, .int .i64 p.m, .slice an nn cn, .slice ac nc cc, .slice ap np cp] 91)).heap[w.heap.size]? = some (.cells #[.int .u8 p.n, .int .u8 p.v, .int .i64 p.m, .slice an nn cn, .slice ac nc cc, .slice ap np cp] 91 (0, 0))) := blk_new _ _
  have HG : Hid (∀ k (h : k < ps.length), opF ps p (k + 1) = inn (opF ps p k) (oneN k) (fitB p) ps[k].conf) := fun k h => by rw [opF, cnAt_at h]
  have HLT : Hid (∀ k, opF ps p k < 2 ^ 20) := opF_lt ps p
  obtain ⟨R, hR⟩ : ∃ R, R = opF ps p := ⟨_, rfl⟩
  have HZ : Hid (R 0 = faM ps p.conf) := by show _ = _; rw [hR]; rfl
  rw [← hR] at HG HLT ⊢
  clear hp hv hR
  go_enter Tryd.func38, Tryd.ntmps38
  go_wp2_with fail
  refine (pk_fittingAny ao cap ps ac nc cc p.conf _ (HV.out _ HBA0.out) (HPK.out _ HBA0.out).2.1).mono ?_
  rintro e w1 ⟨rfl, hb1⟩
  have l0 : faM ps p.conf < 2 ^ 20 := faM_lt _ _
  have HB1 : Hid (Below w.heap.size w w1) := HBA0.out.trans (hb1.mono (by simp))
  have HK1 : Hid (w1.heap[w.heap.size]? = some (.cells #[.int .u8 p.n, .int .u8 p.v, .int .i64 p.m, .slice an nn cn, .slice ac nc cc, .slice ap np cp] 91 (0, 0))) := blk_below hb1 HBK0.out (by simp)
  clear hb1
  go_wp2
  go_loopw [5, 16] (fun o i wr => ∃ k A : Nat, k ≤ ps.length ∧ o = .int .u32 (A : Nat) ∧ i = .int .i64 k ∧ A < 2 ^ 20 ∧ Hid (R k = A) ∧ Below w.heap.size w wr ∧ wr.heap[w.heap.size]? = some (.cells #[.int .u8 p.n, .int .u8 p.v, .int .i64 p.m, .slice an nn cn, .slice ac nc cc, .slice ap np cp] 91 (0, 0))) (fun _ i _ => ps.length - (intOf i).toNat)
  case atStart => exact ⟨0, faM ps p.conf, by omega, rfl, rfl, l0, HZ, HB1.out, HK1.out⟩
  case round =>
    obtain ⟨k, A, hk, rfl, rfl, hA, HI, hb, hbx⟩ := hrel
    have hbs := hb.size
    have HBX : Hid (wr.heap[w.heap.size]? = some (.cells #[.int .u8 p.n, .int .u8 p.v, .int .i64 p.m, .slice an nn cn, .slice ac nc cc, .slice ap np cp] 91 (0, 0))) := hbx
    have hlx := ltAt hbx
    clear hbx
    by_cases hlt : k < ps.length
    · obtain ⟨g, off, an', nn', cn', ac', nc', cc', ap', np', cp', rfl, hg, ⟨x0, x1, x2, x3, x4, x5⟩, hv⟩ := HR.out k hlt
      rw [← hb.cell (p := ⟨g, _, none⟩) hg] at x0 x1 x2 x3 x4 x5
      have HD : Hid (R (k + 1) = inn A (oneN k) (fitB p) ps[k].conf) := by show _ = _; rw [HG.out k hlt, HI.out]
      have HBA : Hid (Below w.heap.size w (wr.alloc (.cells #[.int .u8 ps[k].n, .int .u8 ps[k].v, .int .i64 ps[k].m, .slice an' nn' cn', .slice ac' nc' cc', .slice ap' np' cp'] 91))) := hb.alloc hbs _
      have HKA : Hid ((wr.alloc (.cells #[.int .u8 ps[k].n, .int .u8 ps[k].v, .int .i64 ps[k].m, .slice an' nn' cn', .slice ac' nc' cc', .slice ap' np' cp'] 91)).heap[w.heap.size]? = some (.cells #[.int .u8 p.n, .int .u8 p.v, .int .i64 p.m, .slice an nn cn, .slice ac nc cc, .slice ap np cp] 91 (0, 0))) := blk_old HBX.out _
      obtain ⟨hln, a', c', e', hrow⟩ := hv.2.1
      injection e' with e1 e2 e3
      subst e1 e2 e3
      have HN : Hid _ := hrow
      clear hv hrow HI
      generalize ps[k] = q at *
      generalize q.conf = L at *
      have l1 := oneN_lt k
      obtain ⟨O, hO⟩ : ∃ O, oneN k = O := ⟨_, rfl⟩
      have HOO : Hid (oneN k = O) := hO
      rw [hO] at l1 HD
      clear hO
      go_wp2
      go_loopw [5, 24] (fun o i wx => ∃ j B : Nat, j ≤ L.length ∧ o = .int .u32 (B : Nat) ∧ i = .int .i64 j ∧ B < 2 ^ 20 ∧ Hid (inn A O (fitB p) (L.take j) = B) ∧ Below w.heap.size w wx ∧ wx.heap[w.heap.size]? = some (.cells #[.int .u8 p.n, .int .u8 p.v, .int .i64 p.m, .slice an nn cn, .slice ac nc cc, .slice ap np cp] 91 (0, 0))) (fun _ i _ => L.length - (intOf i).toNat)
      case atStart => exact ⟨0, A, by omega, rfl, rfl, hA, by show _ = _; simp [inn], HBA.out, HKA.out⟩
      case round =>
        obtain ⟨j, B, hj, rfl, rfl, hB, HJ, hbx, hkx⟩ := hrel
        have hbxs := hbx.size
        have y0 := cellAt hkx 0
        have y1 := cellAt hkx 1
        have y2 := cellAt hkx 2
        have y3 := cellAt hkx 3
        have y4 := cellAt hkx 4
        have y5 := cellAt hkx 5
        have hly := ltAt hkx
        simp at y0 y1 y2 y3 y4 y5
        have HKX : Hid (wr.heap[w.heap.size]? = some (.cells #[.int .u8 p.n, .int .u8 p.v, .int .i64 p.m, .slice an nn cn, .slice ac nc cc, .slice ap np cp] 91 (0, 0))) := hkx
        clear hkx
        by_cases hltj : j < L.length
        · obtain ⟨g2, off2, rfl, hg2, z0, z1, z2⟩ := HN.out j hltj
          rw [← hbx.cell (p := ⟨g2, _, none⟩) hg2] at z0 z1 z2
          have HE2 : Hid (inn A O (fitB p) (L.take (j + 1)) = if fitB p L[j] then B ||| O else B) := by show _ = _; rw [List.take_succ_eq_append_getElem hltj, inn_snoc, HJ.out]
          have HBB : Hid (Below w.heap.size w (wr.alloc (.cells #[.int .u8 L[j].n, .int .u8 L[j].s, .int .u8 L[j].v] 125))) := hbx.alloc hbxs _
          have HKB : Hid ((wr.alloc (.cells #[.int .u8 L[j].n, .int .u8 L[j].s, .int .u8 L[j].v] 125)).heap[w.heap.size]? = some (.cells #[.int .u8 p.n, .int .u8 p.v, .int .i64 p.m, .slice an nn cn, .slice ac nc cc, .slice ap np cp] 91 (0, 0))) := blk_old HKX.out _
          clear HJ
          generalize L[j] = C at *
          have o1 := or_u32 B O (by omega) (by omega)
          have l2 := or_lt hB l1
          cases hf : fitB p C with
          | true =>
            have HF : Hid (inn A O (fitB p) (L.take (j + 1)) = B ||| O) := by show _ = _; rw [HE2.out, hf]; rfl
            have HE : Hid (fitB p C = true) := hf
            clear hf HE2
            go_wp2_with fail
            refine (pack_Fits p C an nn cn ac nc cc ap np cp _ (HPK.out _ HBB.out)).mono ?_
            rintro e w2 ⟨rfl, hb2⟩
            rw [HE.out]
            have HB2 : Hid (Below w.heap.size w w2) := HBB.out.trans (hb2.mono (by simp; omega))
            have HK2 : Hid (w2.heap[w.heap.size]? = some (.cells #[.int .u8 p.n, .int .u8 p.v, .int .i64 p.m, .slice an nn cn, .slice ac nc cc, .slice ap np cp] 91 (0, 0))) := blk_below hb2 HKB.out (by simp; omega)
            clear hb2
            go_wp2_with fail
            refine (doc_One k _).mono ?_
            rintro e w3 ⟨rfl, rfl⟩
            rw [HOO.out]
            go_wp2
            go_roundw
            case rel => exact ⟨j + 1, B ||| O, by omega, rfl, by go_num, l2, HF, HB2.out, HK2.out⟩
            case measure => simp [intOf]; omega
          | false =>
            have HF : Hid (inn A O (fitB p) (L.take (j + 1)) = B) := by show _ = _; rw [HE2.out, hf]; rfl
            have HE : Hid (fitB p C = false) := hf
            clear hf HE2
            go_wp2_with fail
            refine (pack_Fits p C an nn cn ac nc cc ap np cp _ (HPK.out _ HBB.out)).mono ?_
            rintro e w2 ⟨rfl, hb2⟩
            rw [HE.out]
            have HB2 : Hid (Below w.heap.size w w2) := HBB.out.trans (hb2.mono (by simp; omega))
            have HK2 : Hid (w2.heap[w.heap.size]? = some (.cells #[.int .u8 p.n, .int .u8 p.v, .int .i64 p.m, .slice an nn cn, .slice ac nc cc, .slice ap np cp] 91 (0, 0))) := blk_below hb2 HKB.out (by simp; omega)
            clear hb2
            go_wp2
            go_roundw
            case rel => exact ⟨j + 1, B, by omega, rfl, by go_num, hB, HF, HB2.out, HK2.out⟩
            case measure => simp [intOf]; omega
        · have HF : Hid (R (k + 1) = B) := by show _ = _; rw [HD.out, ← HJ.out, List.take_of_length_le (by omega)]
          clear HJ
          go_wp2
          go_roundw
          case rel => exact ⟨k + 1, B, by omega, rfl, by go_num, hB, HF, hbx, HKX.out⟩
          case measure => simp [intOf]; omega
    · have hkl : k = ps.length := by omega
      have HF : Hid (R ps.length = A) := by show _ = _; rw [← hkl, HI.out]
      clear HI hkl
      go_wp2
      go_ret
      exact ⟨ret_int (by rw [HF.out]), hb⟩

set_option maxHeartbeats 3200000 in
set_option maxRecDepth 100000 in
theorem pk_upgrades (ao : Option Addr) (cap : Nat) (ps : List Pk) (ai : Option Addr) (ni ci : Nat) (ar : Option Addr) (nr cr : Nat) (a : Option Addr) (n c : Nat) (L : List Cn) (w : World) (hp : PV w ao ps) (hc : CV w (.slice a n c) L) :
    Calls Tryd.prog 42 #[.agg #[.slice ao ps.length cap, .slice ai ni ci, .slice ar nr cr, .slice a n c]] w fun e w' => ∃ r cr, e = .returned (.slice r L.length cr) ∧ Below w.heap.size w w' ∧ UpO w.heap.size w' (.slice r L.length cr) (L.map (upP ps)) := by
  obtain ⟨i0, hi0, hz0, hz1, hz2⟩ := info_parts Tryd.infoUpg
  obtain ⟨hl, a', c', e, hrow⟩ := hc
  injection e with e1 e2 e3
  subst e1 e2 e3
  have HR : Hid _ := hrow
  have HV : Hid (∀ w', Below w.heap.size w w' → PV w' ao ps) := fun w' hb => hp.below hb
  have HBA0 : Hid (Below w.heap.size w (w.alloc (.cells #[.slice ao ps.length cap, .slice ai ni ci, .slice ar nr cr, .slice a L.length c] 40))) := (Below.refl _ _).alloc (Nat.le_refl _) _
  have HBK0 : Hid ((w.alloc (.cells #[.slice ao ps.length cap, .slice ai ni ci, .slice ar nr cr, .slice a L.length c] 40)).heap[w.heap.size]? = some (.cells #[.slice ao ps.length cap, .slice ai ni ci, .slice ar nr cr, .slice a L.length c] 40 (0, 0))) := blk_new _ _
  clear hrow hp
  have ln : nowM ps < 2 ^ 20 := mskN_lt _ _
  obtain ⟨NW, hNW⟩ : ∃ NW, nowM ps = NW := ⟨_, rfl⟩
  have HNW : Hid (nowM ps = NW) := hNW
  rw [hNW] at ln
  clear hNW
  go_enter Tryd.func42, Tryd.ntmps42
  go_wp2_with fail
  refine (doc_Now ao cap ps _ (HV.out _ HBA0.out)).mono ?_
  rintro e w1 ⟨rfl, hb1⟩
  rw [HNW.out]
  have HB1 : Hid (Below w.heap.size w w1) := HBA0.out.trans (hb1.mono (by simp))
  have HK1 : Hid (w1.heap[w.heap.size]? = some (.cells #[.slice ao ps.length cap, .slice ai ni ci, .slice ar nr cr, .slice a L.length c] 40 (0, 0))) := blk_below hb1 HBK0.out (by simp)
  have hl1 := ltAt HK1.out
  have d3 : w1.cell? ⟨w.heap.size, 3, none⟩ = some (.slice a L.length c) := (cellAt HK1.out 3).trans rfl
  clear hb1 HBK0
  go_wp2
  go_loopw [4, 16] (fun o i wr => ∃ (k : Nat) (acc : List (Nat × Nat)), k ≤ L.length ∧ i = .int .i64 k ∧ acc.length = k ∧ Hid (UpO w.heap.size wr o acc) ∧ Hid ((L.map (upP ps)).take k = acc) ∧ Below w.heap.size w wr ∧ wr.heap[w.heap.size]? = some (.cells #[.slice ao ps.length cap, .slice ai ni ci, .slice ar nr cr, .slice a L.length c] 40 (0, 0))) (fun _ i _ => L.length - (intOf i).toNat)
  case atStart => exact ⟨0, [], by omega, rfl, rfl, World.ownsRow_nil _ _ _ _, by show _ = _; simp, HB1.out, HK1.out⟩
  case round =>
    obtain ⟨k, acc, hk, rfl, hacc, HO, HI, hb, hbx⟩ := hrel
    have hbs := hb.size
    have HBX : Hid (wr.heap[w.heap.size]? = some (.cells #[.slice ao ps.length cap, .slice ai ni ci, .slice ar nr cr, .slice a L.length c] 40 (0, 0))) := hbx
    have hlx := ltAt hbx
    have y0 : wr.cell? ⟨w.heap.size, 0, none⟩ = some (.slice ao ps.length cap) := (cellAt hbx 0).trans rfl
    clear hbx d3
    by_cases hlt : k < L.length
    · obtain ⟨g, off, rfl, hg, x0, x1, x2⟩ := HR.out k hlt
      rw [← hb.cell (p := ⟨g, _, none⟩) hg] at x0 x1 x2
      have HD : Hid ((L.map (upP ps)).take (k + 1) = acc ++ [upP ps L[k]]) := by show _ = _; rw [List.take_succ_eq_append_getElem (by simpa using hlt), HI.out, List.getElem_map]
      have HBA : Hid (Below w.heap.size w (wr.alloc (.cells #[.int .u8 L[k].n, .int .u8 L[k].s, .int .u8 L[k].v] 125))) := hb.alloc hbs _
      have HKA : Hid ((wr.alloc (.cells #[.int .u8 L[k].n, .int .u8 L[k].s, .int .u8 L[k].v] 125)).heap[w.heap.size]? = some (.cells #[.slice ao ps.length cap, .slice ai ni ci, .slice ar nr cr, .slice _ L.length c] 40 (0, 0))) := blk_old HBX.out _
      have HCA : Hid ((wr.alloc (.cells #[.int .u8 L[k].n, .int .u8 L[k].s, .int .u8 L[k].v] 125)).heap[wr.heap.size]? = some (.cells #[.int .u8 L[k].n, .int .u8 L[k].s, .int .u8 L[k].v] 125 (0, 0))) := blk_new _ _
      have HOA : Hid (UpO w.heap.size (wr.alloc (.cells #[.int .u8 L[k].n, .int .u8 L[k].s, .int .u8 L[k].v] 125)) u4 acc) := World.ownsRow.alloc HO.out _
      have HSZ : Hid ((wr.alloc (.cells #[.int .u8 L[k].n, .int .u8 L[k].s, .int .u8 L[k].v] 125)).heap.size = wr.heap.size + 1) := by show _ = _; simp
      clear HI HO HBX
      generalize L[k] = C at *
      have HUP : Hid (upP ps C = (wnM ps C.n, nbM ps (wnM ps C.n) (grN ps (wnM ps C.n &&& NW) ps.length) &&& fitM ps C)) := by show _ = _; rw [← HNW.out]; rfl
      have l1 : wnM ps C.n < 2 ^ 20 := mskN_lt _ _
      go_wp2_with fail
      refine (doc_WithName ao cap ps C.n _ (HV.out _ HBA.out)).mono ?_
      rintro e w2 ⟨rfl, hb2⟩
      generalize wnM ps C.n = W at *
      have a1 := and_u32 W NW (by omega) (by omega)
      have l2 : W &&& NW < 2 ^ 20 := and_lt l1
      generalize W &&& NW = X at *
      have HB2 : Hid (Below w.heap.size w w2) := HBA.out.trans (hb2.mono (by simp; omega))
      have HK2 := blk_below hb2 HKA.out (by simp; omega)
      have HC2 := blk_below hb2 HCA.out (by simp)
      have HO2 : Hid (UpO w.heap.size w2 u4 acc) := own_kept HOA.out hb2
      have y02 : w2.cell? ⟨w.heap.size, 0, none⟩ = some (.slice ao ps.length cap) := (cellAt HK2 0).trans rfl
      have hly2 := ltAt HK2
      have hlz2 := ltAt HC2
      have HK2' : Hid _ := HK2
      have HC2' : Hid _ := HC2
      clear hb2 HK2 HC2 HKA HCA HOA
      go_wp2_with fail
      refine (doc_Greatest ao cap ps X l2 _ (HV.out _ HB2.out)).mono ?_
      rintro e w3 ⟨rfl, hb3⟩
      generalize grN ps X ps.length = G at *
      have hs2 := HB2.out.size
      have HB3 : Hid (Below w.heap.size w w3) := HB2.out.trans (hb3.mono hs2)
      have HK3 := blk_below hb3 HK2'.out hly2
      have HC3 := blk_below hb3 HC2'.out hlz2
      have HO3 : Hid (UpO w.heap.size w3 u4 acc) := own_kept HO2.out hb3
      have y03 : w3.cell? ⟨w.heap.size, 0, none⟩ = some (.slice ao ps.length cap) := (cellAt HK3 0).trans rfl
      have hly3 := ltAt HK3
      have hlz3 := ltAt HC3
      have HK3' : Hid _ := HK3
      have HC3' : Hid _ := HC3
      clear hb3 HK3 HC3 HK2' HC2' HO2 y02
      go_wp2_with fail
      refine (doc_NotBelow ao cap ps W G l1 _ (HV.out _ HB3.out)).mono ?_
      rintro e w4 ⟨rfl, hb4⟩
      have l3 : nbM ps W G < 2 ^ 20 := mskN_lt _ _
      generalize nbM ps W G = M at *
      have hs3 := HB3.out.size
      have HB4 : Hid (Below w.heap.size w w4) := HB3.out.trans (hb4.mono hs3)
      have HK4 := blk_below hb4 HK3'.out hly3
      have HC4 := blk_below hb4 HC3'.out hlz3
      have HO4 : Hid (UpO w.heap.size w4 u4 acc) := own_kept HO3.out hb4
      have y04 : w4.cell? ⟨w.heap.size, 0, none⟩ = some (.slice ao ps.length cap) := (cellAt HK4 0).trans rfl
      have z04 : w4.cell? ⟨wr.heap.size, 0, none⟩ = some (.int .u8 C.n) := (cellAt HC4 0).trans rfl
      have z14 : w4.cell? ⟨wr.heap.size, 1, none⟩ = some (.int .u8 C.s) := (cellAt HC4 1).trans rfl
      have z24 : w4.cell? ⟨wr.heap.size, 2, none⟩ = some (.int .u8 C.v) := (cellAt HC4 2).trans rfl
      have hly4 := ltAt HK4
      have hlz4 := ltAt HC4
      have HK4' : Hid _ := HK4
      clear hb4 HK4 HC4 HK3' HC3' HO3 y03
      have l4 : fitM ps C < 2 ^ 20 := mskN_lt _ _
      have a4 := and_u32 M (fitM ps C) (by omega) (by omega)
      go_wp2_with fail
      refine (doc_Fitting ao cap ps C _ (HV.out _ HB4.out)).mono ?_
      rintro e w5 ⟨rfl, hb5⟩
      generalize fitM ps C = F at *
      have HUP2 : Hid (upP ps C = (W, M &&& F)) := HUP.out
      generalize M &&& F = Z at *
      have hs4 := HB4.out.size
      have HB5 : Hid (Below w.heap.size w w5) := HB4.out.trans (hb5.mono hs4)
      have HK5 : Hid _ := blk_below hb5 HK4'.out hly4
      have hown : w5.ownsRow w.heap.size 129 2 u4 acc.length (acc.map upCells).flatten := own_kept HO4.out hb5
      have hs5 := HB5.out.size
      clear hb5 HK4' HO4
      go_wp2_with (at_builtin; refine wpList_append_own _ rfl _ _ 59 rfl w.heap.size 129 i0 (.agg #[.int .u32 0, .int .u32 0]) 2 8 Tryd.underlying59 hi0 hz0 hz1 hz2 rfl (by decide) _ _ _ rfl (hown.alloc _) ⟨w5.heap.size, 0, none⟩ 1 1 (upCells (W, Z)) rfl rfl ?c1 ?c2 ?c3 ?c4 ?c5 ?_)
      case c1 => exact cell_new w5 (upCells (W, Z)) 129
      case c2 => intro u hu; simp [upCells] at hu; rcases hu with rfl | rfl <;> rfl
      case c3 => unfold maxLen; omega
      case c4 => omega
      case c5 => simp; omega
      intro v' w6 hown' hgrow _
      have HB6 : Hid (Below w.heap.size w w6) := (HB5.out.alloc (by omega) _).grown hgrow (by simp; omega) (fun j hj => (hown.lt j hj).1)
      have HK6 : Hid _ := (hgrow.block _ (by have := ltAt HK5.out; simp; omega) (own_blk_ne hown HK5.out (by decide))).trans (blk_old HK5.out _)
      have HO6 : Hid (UpO w.heap.size w6 v' (acc ++ [(W, Z)])) := by
        show World.ownsRow _ _ _ _ _ _ _
        simpa [hacc] using hown'
      have HD6 : Hid ((L.map (upP ps)).take (k + 1) = acc ++ [(W, Z)]) := by show _ = _; rw [HD.out, HUP2.out]
      clear hown' hgrow hown
      go_wp2
      go_roundw
      case rel => exact ⟨k + 1, acc ++ [(W, Z)], by omega, by go_num, by simp; omega, HO6, HD6, HB6.out, HK6.out⟩
      case measure => simp [intOf]; omega
    · have HF : Hid (L.map (upP ps) = acc) := by show _ = _; rw [← HI.out, List.take_of_length_le (by simp; omega)]
      have hkl : acc.length = L.length := by omega
      obtain ⟨r, cr, rfl⟩ := HO.out.shape
      rw [hkl] at HO ⊢
      clear HI
      go_wp2
      go_ret
      exact ⟨r, cr, rfl, hb, by rw [HF.out]; exact HO.out⟩

end Go.Proofs.YtenbnmbbfeekpaaDoor

namespace Go.Proofs.YtenbnmbbfeekpaaDoor
open Go.RowKit

/-- What packages ask, in memory. -/
def RpV (w : World) (ao : Option Addr) (l : List Rp) : Prop := l.length ≤ 801 ∧ ∀ j (h : j < l.length), ∃ g off a n c, ao = some ⟨g, off, none⟩ ∧ g < w.heap.size ∧ w.cell? ⟨g, off + j * 2, none⟩ = some (.slice a n c) ∧ w.cell? ⟨g, off + j * 2 + 1, none⟩ = some (.int .u32 (l[j].2 : Int)) ∧ SV w (.slice a n c) l[j].1
def UpV (w : World) (v : Value) (l : List (Nat × Nat)) : Prop := l.length ≤ 801 ∧ ∃ ao cap, v = .slice ao l.length cap ∧ ∀ j (h : j < l.length), ∃ g off, ao = some ⟨g, off, none⟩ ∧ g < w.heap.size ∧ w.cell? ⟨g, off + j * 2, none⟩ = some (.int .u32 (l[j].1 : Int)) ∧ w.cell? ⟨g, off + j * 2 + 1, none⟩ = some (.int .u32 (l[j].2 : Int))
theorem RpV.below {w w' : World} {ao : Option Addr} {l : List Rp} (h : RpV w ao l) (hb : Below w.heap.size w w') : RpV w' ao l := by
  refine ⟨h.1, fun j hj => ?_⟩
  obtain ⟨g, off, a, n, c, e, hg, x, y, z⟩ := h.2 j hj
  exact ⟨g, off, a, n, c, e, Nat.lt_of_lt_of_le hg hb.size, (hb.cell (p := ⟨g, _, none⟩) hg).trans x, (hb.cell (p := ⟨g, _, none⟩) hg).trans y, z.below hb⟩
theorem UpV.below {w w' : World} {v : Value} {l : List (Nat × Nat)} (h : UpV w v l) (hb : Below w.heap.size w w') : UpV w' v l := by
  obtain ⟨h0, ao, cap, h1, h2⟩ := h
  refine ⟨h0, ao, cap, h1, fun j hj => ?_⟩
  obtain ⟨g, off, e, hg, x, y⟩ := h2 j hj
  exact ⟨g, off, e, Nat.lt_of_lt_of_le hg hb.size, (hb.cell (p := ⟨g, _, none⟩) hg).trans x, (hb.cell (p := ⟨g, _, none⟩) hg).trans y⟩
def Sm (l : List Nat) : Prop := ∀ x ∈ l, x < 2 ^ 20
structure RuSm (R : Ru) : Prop where
  packs : ∀ q ∈ R.packs, Sm q.1 ∧ q.2 < 2 ^ 20
  stay : Sm R.stay
  ins : Sm R.ins
  rem : R.rem < 2 ^ 20
  upg : ∀ u ∈ R.upg, u.1 < 2 ^ 20 ∧ u.2 < 2 ^ 20
structure RuV (w : World) (R : Ru) (ap : Option Addr) (np cp : Nat) (az : Option Addr) (nz cz : Nat) (ai : Option Addr) (ni ci : Nat) (au : Option Addr) (nu cu : Nat) : Prop where
  len : np = R.packs.length
  packs : RpV w ap R.packs
  stay : SV w (.slice az nz cz) R.stay
  ins : SV w (.slice ai ni ci) R.ins
  upg : UpV w (.slice au nu cu) R.upg
theorem RuV.below {w w' : World} {R : Ru} {ap : Option Addr} {np cp : Nat} {az : Option Addr} {nz cz : Nat} {ai : Option Addr} {ni ci : Nat} {au : Option Addr} {nu cu : Nat} (h : RuV w R ap np cp az nz cz ai ni ci au nu cu) (hb : Below w.heap.size w w') : RuV w' R ap np cp az nz cz ai ni ci au nu cu :=
  ⟨h.len, h.packs.below hb, h.stay.below hb, h.ins.below hb, h.upg.below hb⟩

set_option maxHeartbeats 1600000 in
set_option maxRecDepth 100000 in
theorem pk_eachMet (v : Value) (L : List Nat) (p : Nat) (w : World) (hv : SV w v L) (hs : Sm L) (hp : p < 2 ^ 20) :
    Calls Tryd.prog 45 #[v, .int .u32 p] w fun e w' => e = .returned (.bool (emB L p)) ∧ Below w.heap.size w w' := by
  obtain ⟨hl, a, c, rfl, hrow⟩ := hv
  have HR : Hid _ := hrow
  have HS : Hid (∀ x ∈ L, x < 2 ^ 20) := hs
  clear hrow hs
  go_enter Tryd.func45, Tryd.ntmps45
  go_wp2
  go_loopw [9] (fun i wr => ∃ k : Nat, k ≤ L.length ∧ i = .int .i64 k ∧ Hid (emB L p = emB (L.drop k) p) ∧ Below w.heap.size w wr) (fun i _ => L.length - (intOf i).toNat)
  case atStart => exact ⟨0, by omega, rfl, by show _ = _; simp, Below.refl _ _⟩
  case round =>
    obtain ⟨k, hk, rfl, HP, hb⟩ := hrel
    by_cases hlt : k < L.length
    · obtain ⟨g, off, rfl, hg, x0⟩ := HR.out k hlt
      rw [← hb.cell (p := ⟨g, _, none⟩) hg] at x0
      have hx := HS.out _ (List.getElem_mem hlt)
      have HD : Hid (emB (L.drop k) p = (((L[k] &&& p) != 0) && emB (L.drop (k + 1)) p)) := by show _ = _; rw [List.drop_eq_getElem_cons hlt]; rfl
      generalize L[k] = x at *
      have a1 := and_u32 x p (by omega) (by omega)
      by_cases h0 : x &&& p = 0
      · have e0 : (((x &&& p : Nat) : Int) == 0) = true := by rw [beq_iff_eq]; omega
        have HF : Hid (emB L p = false) := by show _ = _; rw [HP.out, HD.out, h0]; rfl
        clear h0 HD HP
        go_wp2
        go_ret
        exact ⟨ret_bool HF.out.symm, hb⟩
      · have e0 : (((x &&& p : Nat) : Int) == 0) = false := by rw [beq_eq_false_iff_ne]; omega
        have HF : Hid (emB L p = emB (L.drop (k + 1)) p) := by
          show _ = _
          have : ((x &&& p) != 0) = true := by rw [bne_iff_ne]; exact h0
          rw [HP.out, HD.out, this]; rfl
        clear h0 HD HP
        go_wp2
        go_roundw
        case rel => exact ⟨k + 1, by omega, by go_num, HF, hb⟩
        case measure => simp [intOf]; omega
    · have HF : Hid (emB L p = true) := by show _ = _; rw [HP.out, List.drop_of_length_le (by omega)]; rfl
      clear HP
      go_wp2
      go_ret
      exact ⟨ret_bool HF.out.symm, hb⟩

theorem alF_step (g : Nat → Bool) {k n : Nat} (h : k < n) : alF g (n - k) k = (g k && alF g (n - (k + 1)) (k + 1)) := by rw [show n - k = (n - (k + 1)) + 1 by omega, alF]
theorem alF_end (g : Nat → Bool) {k n : Nat} (h : ¬ k < n) : alF g (n - k) k = true := by rw [show n - k = 0 by omega, alF]

set_option maxHeartbeats 3200000 in
set_option maxRecDepth 100000 in
theorem pk_needsMet (ao : Option Addr) (cap : Nat) (l : List Rp) (s p : Nat) (w : World) (hp : RpV w ao l) (hq : ∀ q ∈ l, Sm q.1 ∧ q.2 < 2 ^ 20) (hs : s < 2 ^ 20) (hp2 : p < 2 ^ 20) :
    Calls Tryd.prog 43 #[.slice ao l.length cap, .agg #[.int .u32 s, .int .u32 p]] w fun e w' => e = .returned (.bool (nmM l s p)) ∧ Below w.heap.size w w' := by
  have hl := hp.1
  have HR : Hid _ := hp.2
  have HQ : Hid (∀ q ∈ l, Sm q.1 ∧ q.2 < 2 ^ 20) := hq
  obtain ⟨R, hRR⟩ : ∃ R, nmM l s p = R := ⟨_, rfl⟩
  have H0 : Hid (alF (nm1 l s p) (l.length - 0) 0 = R) := hRR
  have HA : Hid (∀ k (h : k < l.length), nm1 l s p k = !(hasN s k && !emB l[k].1 p)) := fun k h => by unfold nm1 neAt; rw [List.getElem?_eq_getElem h]
  rw [hRR]
  clear hp hq hRR
  go_enter Tryd.func43, Tryd.ntmps43
  go_wp2
  go_loopw [9] (fun i wr => ∃ k : Nat, k ≤ l.length ∧ i = .int .i64 k ∧ Hid (alF (nm1 l s p) (l.length - k) k = R) ∧ Below w.heap.size w wr ∧ wr.heap[w.heap.size]? = some (.cells #[.int .u32 s, .int .u32 p] 64 (0, 0))) (fun i _ => l.length - (intOf i).toNat)
  case atStart => exact ⟨0, by omega, rfl, H0, (Below.refl _ _).alloc (Nat.le_refl _) _, blk_new _ _⟩
  case round =>
    obtain ⟨k, hk, rfl, HI, hb, hbx⟩ := hrel
    have hbs := hb.size
    have y0 := cellAt hbx 0
    have y1 := cellAt hbx 1
    have hlx := ltAt hbx
    have HBX : Hid (wr.heap[w.heap.size]? = some (.cells #[.int .u32 s, .int .u32 p] 64 (0, 0))) := hbx
    simp at y0 y1
    clear hbx
    by_cases hlt : k < l.length
    · obtain ⟨g, off, a, n, c, rfl, hg, x0, x1, hsv⟩ := HR.out k hlt
      rw [← hb.cell (p := ⟨g, _, none⟩) hg] at x0 x1
      have HV : Hid (∀ w', Below w.heap.size w w' → SV w' (.slice a n c) l[k].1) := fun w' hb => hsv.below hb
      have HSM : Hid (Sm l[k].1) := (HQ.out _ (List.getElem_mem hlt)).1
      have HD : Hid ((!(hasN s k && !emB l[k].1 p) && alF (nm1 l s p) (l.length - (k + 1)) (k + 1)) = R) := by show _ = _; rw [← HI.out, alF_step _ hlt, HA.out k hlt]
      have HBA : Hid (Below w.heap.size w (wr.alloc (.cells #[.slice a n c, .int .u32 (l[k].2 : Int)] 95))) := hb.alloc hbs _
      have HKA : Hid ((wr.alloc (.cells #[.slice a n c, .int .u32 (l[k].2 : Int)] 95)).heap[w.heap.size]? = some (.cells #[.int .u32 s, .int .u32 p] 64 (0, 0))) := blk_old HBX.out _
      clear hsv HI
      generalize l[k] = q at *
      cases hh : hasN s k with
      | false =>
        have HF : Hid (alF (nm1 l s p) (l.length - (k + 1)) (k + 1) = R) := by show _ = _; rw [← HD.out, hh]; rfl
        have HE : Hid (hasN s k = false) := hh
        clear hh HD
        go_wp2_with fail
        refine (set_Has s k hs _).mono ?_
        rintro e w1 ⟨rfl, rfl⟩
        rw [HE.out]
        go_wp2
        go_roundw
        case rel => exact ⟨k + 1, by omega, by go_num, HF, HBA.out, HKA.out⟩
        case measure => simp [intOf]; omega
      | true =>
        have HE : Hid (hasN s k = true) := hh
        cases hm : emB q.1 p with
        | false =>
          have HF : Hid (false = R) := by show _ = _; rw [← HD.out, hh, hm]; rfl
          have HM : Hid (emB q.1 p = false) := hm
          clear hh hm HD
          go_wp2_with fail
          refine (set_Has s k hs _).mono ?_
          rintro e w1 ⟨rfl, rfl⟩
          rw [HE.out]
          go_wp2_with fail
          refine (pk_eachMet _ q.1 p _ (HV.out _ HBA.out) HSM.out hp2).mono ?_
          rintro e w2 ⟨rfl, hb2⟩
          rw [HM.out]
          go_wp2
          go_ret
          exact ⟨ret_bool HF.out, HBA.out.trans (hb2.mono (by simp; omega))⟩
        | true =>
          have HF : Hid (alF (nm1 l s p) (l.length - (k + 1)) (k + 1) = R) := by show _ = _; rw [← HD.out, hh, hm]; rfl
          have HM : Hid (emB q.1 p = true) := hm
          clear hh hm HD
          go_wp2_with fail
          refine (set_Has s k hs _).mono ?_
          rintro e w1 ⟨rfl, rfl⟩
          rw [HE.out]
          go_wp2_with fail
          refine (pk_eachMet _ q.1 p _ (HV.out _ HBA.out) HSM.out hp2).mono ?_
          rintro e w2 ⟨rfl, hb2⟩
          rw [HM.out]
          have HB2 : Hid (Below w.heap.size w w2) := HBA.out.trans (hb2.mono (by simp; omega))
          have HK2 : Hid (w2.heap[w.heap.size]? = some (.cells #[.int .u32 s, .int .u32 p] 64 (0, 0))) := blk_below hb2 HKA.out (by simp; omega)
          clear hb2
          go_wp2
          go_roundw
          case rel => exact ⟨k + 1, by omega, by go_num, HF, HB2.out, HK2.out⟩
          case measure => simp [intOf]; omega
    · have HF : Hid (true = R) := by show _ = _; rw [← HI.out, alF_end _ hlt]
      clear HI
      go_wp2
      go_ret
      exact ⟨ret_bool HF.out, hb⟩

set_option maxHeartbeats 3200000 in
set_option maxRecDepth 100000 in
theorem pk_noConflict (ao : Option Addr) (cap : Nat) (l : List Rp) (s : Nat) (w : World) (hp : RpV w ao l) (hq : ∀ q ∈ l, Sm q.1 ∧ q.2 < 2 ^ 20) (hs : s < 2 ^ 20) :
    Calls Tryd.prog 44 #[.slice ao l.length cap, .int .u32 s] w fun e w' => e = .returned (.bool (ncM l s)) ∧ Below w.heap.size w w' := by
  have hl := hp.1
  have HR : Hid _ := hp.2
  have HQ : Hid (∀ q ∈ l, Sm q.1 ∧ q.2 < 2 ^ 20) := hq
  obtain ⟨R, hRR⟩ : ∃ R, ncM l s = R := ⟨_, rfl⟩
  have H0 : Hid (alF (nx1 l s) (l.length - 0) 0 = R) := hRR
  have HA : Hid (∀ k (h : k < l.length), nx1 l s k = !(hasN s k && ((l[k].2 &&& s) != 0))) := fun k h => by unfold nx1 foAt; rw [List.getElem?_eq_getElem h]
  rw [hRR]
  clear hp hq hRR
  go_enter Tryd.func44, Tryd.ntmps44
  go_wp2
  go_loopw [9] (fun i wr => ∃ k : Nat, k ≤ l.length ∧ i = .int .i64 k ∧ Hid (alF (nx1 l s) (l.length - k) k = R) ∧ Below w.heap.size w wr) (fun i _ => l.length - (intOf i).toNat)
  case atStart => exact ⟨0, by omega, rfl, H0, Below.refl _ _⟩
  case round =>
    obtain ⟨k, hk, rfl, HI, hb⟩ := hrel
    have hbs := hb.size
    by_cases hlt : k < l.length
    · obtain ⟨g, off, a, n, c, rfl, hg, x0, x1, hsv⟩ := HR.out k hlt
      rw [← hb.cell (p := ⟨g, _, none⟩) hg] at x0 x1
      have hq2 := (HQ.out _ (List.getElem_mem hlt)).2
      have HD : Hid ((!(hasN s k && ((l[k].2 &&& s) != 0)) && alF (nx1 l s) (l.length - (k + 1)) (k + 1)) = R) := by show _ = _; rw [← HI.out, alF_step _ hlt, HA.out k hlt]
      have HBA : Hid (Below w.heap.size w (wr.alloc (.cells #[.slice a n c, .int .u32 (l[k].2 : Int)] 95))) := hb.alloc hbs _
      clear hsv HI
      generalize l[k] = q at *
      have a1 := and_u32 q.2 s (by omega) (by omega)
      cases hh : hasN s k with
      | false =>
        have HF : Hid (alF (nx1 l s) (l.length - (k + 1)) (k + 1) = R) := by show _ = _; rw [← HD.out, hh]; rfl
        have HE : Hid (hasN s k = false) := hh
        clear hh HD
        go_wp2_with fail
        refine (set_Has s k hs _).mono ?_
        rintro e w1 ⟨rfl, rfl⟩
        rw [HE.out]
        go_wp2
        go_roundw
        case rel => exact ⟨k + 1, by omega, by go_num, HF, HBA.out⟩
        case measure => simp [intOf]; omega
      | true =>
        have HE : Hid (hasN s k = true) := hh
        by_cases hm : q.2 &&& s = 0
        · have HF : Hid (alF (nx1 l s) (l.length - (k + 1)) (k + 1) = R) := by show _ = _; rw [← HD.out, hh, hm]; rfl
          have e0 : (((q.2 &&& s : Nat) : Int) != 0) = false := by rw [bne_eq_false_iff_eq]; omega
          clear hh hm HD
          go_wp2_with fail
          refine (set_Has s k hs _).mono ?_
          rintro e w1 ⟨rfl, rfl⟩
          rw [HE.out]
          go_wp2
          go_roundw
          case rel => exact ⟨k + 1, by omega, by go_num, HF, HBA.out⟩
          case measure => simp [intOf]; omega
        · have HF : Hid (false = R) := by
            show _ = _
            have : ((q.2 &&& s) != 0) = true := by rw [bne_iff_ne]; exact hm
            rw [← HD.out, hh, this]; rfl
          have e0 : (((q.2 &&& s : Nat) : Int) != 0) = true := by rw [bne_iff_ne]; omega
          clear hh hm HD
          go_wp2_with fail
          refine (set_Has s k hs _).mono ?_
          rintro e w1 ⟨rfl, rfl⟩
          rw [HE.out]
          go_wp2
          go_ret
          exact ⟨ret_bool HF.out, HBA.out⟩
    · have HF : Hid (true = R) := by show _ = _; rw [← HI.out, alF_end _ hlt]
      clear HI
      go_wp2
      go_ret
      exact ⟨ret_bool HF.out, hb⟩

set_option maxHeartbeats 3200000 in
set_option maxRecDepth 100000 in
theorem pk_upgraded (v : Value) (L : List (Nat × Nat)) (s p : Nat) (w : World) (hv : UpV w v L) (hq : ∀ u ∈ L, u.1 < 2 ^ 20 ∧ u.2 < 2 ^ 20) (hs : s < 2 ^ 20) (hp : p < 2 ^ 20) :
    Calls Tryd.prog 46 #[v, .agg #[.int .u32 s, .int .u32 p]] w fun e w' => e = .returned (.bool (L.all (ug1 s p))) ∧ Below w.heap.size w w' := by
  obtain ⟨hl, a, c, rfl, hrow⟩ := hv
  have HR : Hid _ := hrow
  have HQ : Hid (∀ u ∈ L, u.1 < 2 ^ 20 ∧ u.2 < 2 ^ 20) := hq
  clear hrow hq
  go_enter Tryd.func46, Tryd.ntmps46
  go_wp2
  go_loopw [10] (fun i wr => ∃ k : Nat, k ≤ L.length ∧ i = .int .i64 k ∧ Hid (L.all (ug1 s p) = (L.drop k).all (ug1 s p)) ∧ Below w.heap.size w wr ∧ wr.heap[w.heap.size]? = some (.cells #[.int .u32 s, .int .u32 p] 64 (0, 0))) (fun i _ => L.length - (intOf i).toNat)
  case atStart => exact ⟨0, by omega, rfl, by show _ = _; simp, (Below.refl _ _).alloc (Nat.le_refl _) _, blk_new _ _⟩
  case round =>
    obtain ⟨k, hk, rfl, HP, hb, hbx⟩ := hrel
    have hbs := hb.size
    have y0 := cellAt hbx 0
    have y1 := cellAt hbx 1
    have hlx := ltAt hbx
    have HBX : Hid (wr.heap[w.heap.size]? = some (.cells #[.int .u32 s, .int .u32 p] 64 (0, 0))) := hbx
    simp at y0 y1
    clear hbx
    by_cases hlt : k < L.length
    · obtain ⟨g, off, rfl, hg, x0, x1⟩ := HR.out k hlt
      rw [← hb.cell (p := ⟨g, _, none⟩) hg] at x0 x1
      obtain ⟨q1, q2⟩ := HQ.out _ (List.getElem_mem hlt)
      have HD : Hid ((L.drop k).all (ug1 s p) = (ug1 s p L[k] && (L.drop (k + 1)).all (ug1 s p))) := by show _ = _; rw [List.drop_eq_getElem_cons hlt]; rfl
      have HBA : Hid (Below w.heap.size w (wr.alloc (.cells #[.int .u32 (L[k].1 : Int), .int .u32 (L[k].2 : Int)] 129))) := hb.alloc hbs _
      have HKA : Hid ((wr.alloc (.cells #[.int .u32 (L[k].1 : Int), .int .u32 (L[k].2 : Int)] 129)).heap[w.heap.size]? = some (.cells #[.int .u32 s, .int .u32 p] 64 (0, 0))) := blk_old HBX.out _
      generalize L[k] = u at *
      have a1 := and_u32 u.1 s (by omega) (by omega)
      have l1 : u.1 &&& s < 2 ^ 20 := and_lt q1
      have HX : Hid (ug1 s p u = !(sevB (u.1 &&& s) || (adN (u.1 &&& s) u.2 != 0) || ((u.2 &&& p) == 0))) := rfl
      obtain ⟨x, hx⟩ : ∃ x, u.1 &&& s = x := ⟨_, rfl⟩
      rw [hx] at a1 l1 HX
      clear hx
      have a2 := andNot_u32 x u.2 (by omega) (by omega)
      have a3 := and_u32 u.2 p (by omega) (by omega)
      cases h1 : sevB x with
      | true =>
        have HF : Hid (L.all (ug1 s p) = false) := by show _ = _; rw [HP.out, HD.out, HX.out, h1]; rfl
        have HE : Hid (sevB x = true) := h1
        clear h1 HD HP HX
        go_wp2_with fail
        refine (set_Several x l1 _).mono ?_
        rintro e w1 ⟨rfl, rfl⟩
        rw [HE.out]
        go_wp2
        go_ret
        exact ⟨ret_bool HF.out.symm, HBA.out⟩
      | false =>
        have HE : Hid (sevB x = false) := h1
        by_cases h2 : adN x u.2 = 0
        · have e2 : (((adN x u.2 : Nat) : Int) != 0) = false := by rw [bne_eq_false_iff_eq]; omega
          by_cases h3 : u.2 &&& p = 0
          · have e3 : (((u.2 &&& p : Nat) : Int) == 0) = true := by rw [beq_iff_eq]; omega
            have HF : Hid (L.all (ug1 s p) = false) := by show _ = _; rw [HP.out, HD.out, HX.out, h1, h2, h3]; rfl
            clear h1 h2 h3 HD HP HX
            go_wp2_with fail
            refine (set_Several x l1 _).mono ?_
            rintro e w1 ⟨rfl, rfl⟩
            rw [HE.out]
            go_wp2
            go_ret
            exact ⟨ret_bool HF.out.symm, HBA.out⟩
          · have e3 : (((u.2 &&& p : Nat) : Int) == 0) = false := by rw [beq_eq_false_iff_ne]; omega
            have HF : Hid (L.all (ug1 s p) = (L.drop (k + 1)).all (ug1 s p)) := by
              show _ = _
              have : ((u.2 &&& p) == 0) = false := by rw [beq_eq_false_iff_ne]; exact h3
              rw [HP.out, HD.out, HX.out, h1, h2, this]; rfl
            clear h1 h2 h3 HD HP HX
            go_wp2_with fail
            refine (set_Several x l1 _).mono ?_
            rintro e w1 ⟨rfl, rfl⟩
            rw [HE.out]
            go_wp2
            go_roundw
            case rel => exact ⟨k + 1, by omega, by go_num, HF, HBA.out, HKA.out⟩
            case measure => simp [intOf]; omega
        · have e2 : (((adN x u.2 : Nat) : Int) != 0) = true := by rw [bne_iff_ne]; omega
          have HF : Hid (L.all (ug1 s p) = false) := by
            show _ = _
            have : (adN x u.2 != 0) = true := by rw [bne_iff_ne]; exact h2
            rw [HP.out, HD.out, HX.out, h1, this]; rfl
          clear h1 h2 HD HP HX
          go_wp2_with fail
          refine (set_Several x l1 _).mono ?_
          rintro e w1 ⟨rfl, rfl⟩
          rw [HE.out]
          go_wp2
          go_ret
          exact ⟨ret_bool HF.out.symm, HBA.out⟩
    · have HF : Hid (L.all (ug1 s p) = true) := by show _ = _; rw [HP.out, List.drop_of_length_le (by omega)]; rfl
      clear HP
      go_wp2
      go_ret
      exact ⟨ret_bool HF.out.symm, hb⟩

end Go.Proofs.YtenbnmbbfeekpaaDoor

namespace Go.Proofs.YtenbnmbbfeekpaaDoor
open Go.RowKit

theorem Tryd.infoRPk2 : (Tryd.prog.info? 95).map (fun i => (i.zero, i.size, i.bytes)) = some (some (.agg #[.slice none 0 0, .int .u32 0]), 2, 32) := by kernel_rfl
/-- Rules of packages in an own row. -/
def RpC (b : Nat) (w : World) (cells : List Value) (q : Rp) : Prop := ∃ v, cells = [v, .int .u32 (q.2 : Int)] ∧ SO b w v q.1
def RO (b : Nat) (w : World) (v : Value) (l : List Rp) : Prop := ∃ css, w.ownsRow b 95 2 v l.length css.flatten ∧ All2 (RpC b w) css l
theorem RO.nil (b : Nat) (w : World) : RO b w (.slice none 0 0) [] := ⟨[], World.ownsRow_nil _ _ _ _, trivial⟩
theorem RO.shape {b : Nat} {w : World} {v : Value} {l : List Rp} (h : RO b w v l) : ∃ a c, v = .slice a l.length c := by
  obtain ⟨css, h1, _⟩ := h
  rcases own_shape h1 with ⟨rfl, h0⟩ | ⟨g, cap, rfl, hc⟩
  · exact ⟨none, 0, by rw [h0]⟩
  · exact ⟨_, _, rfl⟩
theorem RO.kept {b : Nat} {w w' : World} {v : Value} {l : List Rp} (h : RO b w v l) (hb : Below w.heap.size w w') : RO b w' v l := by
  obtain ⟨css, h1, h2⟩ := h
  exact ⟨css, own_kept h1 hb, h2.mono fun _ _ ⟨x, e, g⟩ => ⟨x, e, g.kept hb⟩⟩
theorem RO.alloc {b : Nat} {w : World} {v : Value} {l : List Rp} (h : RO b w v l) (o : Obj) : RO b (w.alloc o) v l := by
  obtain ⟨css, h1, h2⟩ := h
  exact ⟨css, h1.alloc o, h2.mono fun _ _ ⟨x, e, g⟩ => ⟨x, e, g.alloc o⟩⟩
theorem SO.setT {b : Nat} {w : World} {v : Value} {l : List Nat} (h : SO b w v l) {k : Nat} {cur : Array Value} {T : TypeId} {m : Nat × Nat} (hk : w.heap[k]? = some (.cells cur T m)) (hT : 49 ≠ T) (o : Nat) (u : Value) : SO b (w.setCell ⟨k, o, none⟩ u) v l := own_setT h hk hT o u
theorem UpO.setT {b : Nat} {w : World} {v : Value} {l : List (Nat × Nat)} (h : UpO b w v l) {k : Nat} {cur : Array Value} {T : TypeId} {m : Nat × Nat} (hk : w.heap[k]? = some (.cells cur T m)) (hT : 129 ≠ T) (o : Nat) (u : Value) : UpO b (w.setCell ⟨k, o, none⟩ u) v l := own_setT h hk hT o u
theorem RO.setT {b : Nat} {w : World} {v : Value} {l : List Rp} (h : RO b w v l) {k : Nat} {cur : Array Value} {T : TypeId} {m : Nat × Nat} (hk : w.heap[k]? = some (.cells cur T m)) (hT : 49 ≠ T) (hT' : 95 ≠ T) (o : Nat) (u : Value) : RO b (w.setCell ⟨k, o, none⟩ u) v l := by
  obtain ⟨css, h1, h2⟩ := h
  exact ⟨css, own_setT h1 hk hT' o u, h2.mono fun _ _ ⟨x, e, g⟩ => ⟨x, e, g.setT hk hT o u⟩⟩
theorem RO.rpv {b : Nat} {w : World} {a : Option Addr} {n c : Nat} {l : List Rp} (h : RO b w (.slice a n c) l) (hl : l.length ≤ 801) (hn : ∀ q ∈ l, q.1.length ≤ 801) : RpV w a l := by
  obtain ⟨css, h1, h2⟩ := h
  rcases own_shape h1 with ⟨h, h0⟩ | ⟨g, cap, h, hc⟩
  · have : l = [] := List.eq_nil_of_length_eq_zero h0
    subst this
    exact ⟨by simp, fun j hj => by simp at hj⟩
  · injection h with e1 e2 e3
    subst e1 e2 e3
    refine ⟨hl, fun j hj => ?_⟩
    obtain ⟨cl, hcj, v, rfl, hso⟩ := h2.get (j := j) (List.getElem?_eq_getElem hj)
    have h6 : ∀ c ∈ css, c.length = 2 := All2.forall (Q := fun c : List Value => c.length = 2) (fun a b ⟨_, e, _⟩ => by rw [e]; rfl) h2
    have hf : ∀ k, k < 2 → css.flatten[j * 2 + k]? = [v, .int .u32 (l[j].2 : Int)][k]? := fun k hk => by rw [flat_get 2 css h6 j k hk, hcj]; rfl
    obtain ⟨a, c, rfl⟩ := hso.shape
    refine ⟨g, 0, a, _, c, rfl, own_lt h1, ?_, ?_, hso.sv (hn _ (List.getElem_mem hj))⟩
    · rw [Nat.zero_add]; exact own_cell h1 _ _ (hf 0 (by omega))
    · rw [Nat.zero_add]; exact own_cell h1 _ _ (hf 1 (by omega))
theorem UpO.uv {b : Nat} {w : World} {v : Value} {l : List (Nat × Nat)} (h : UpO b w v l) (hl : l.length ≤ 801) : UpV w v l := by
  rcases own_shape h with ⟨rfl, h0⟩ | ⟨g, cap, rfl, hc⟩
  · have : l = [] := List.eq_nil_of_length_eq_zero h0
    subst this
    exact ⟨hl, none, 0, rfl, fun j hj => by simp at hj⟩
  · refine ⟨hl, _, _, rfl, fun j hj => ?_⟩
    have h6 : ∀ c ∈ l.map upCells, c.length = 2 := fun c hc => by obtain ⟨u, _, rfl⟩ := List.mem_map.1 hc; rfl
    have hf : ∀ k, k < 2 → (l.map upCells).flatten[j * 2 + k]? = (upCells l[j])[k]? := fun k hk => by rw [flat_get 2 _ h6 j k hk, List.getElem?_map, List.getElem?_eq_getElem hj]; rfl
    refine ⟨g, 0, rfl, own_lt h, ?_, ?_⟩
    · rw [Nat.zero_add]; exact own_cell h _ _ (hf 0 (by omega))
    · rw [Nat.zero_add]; exact own_cell h _ _ (hf 1 (by omega))

theorem own_set5 {b : Nat} {w : World} {e : TypeId} {sz : Nat} {v : Value} {n : Nat} {xs : List Value} (h : w.ownsRow b e sz v n xs) {k : Nat} {cur : Array Value} {T : TypeId} (hk : w.heap[k]? = some (.cells cur T (0, 0))) (hT : e ≠ T) (u0 u1 u2 u3 u4 : Value) :
    (((((w.setCell ⟨k, 0, none⟩ u0).setCell ⟨k, 1, none⟩ u1).setCell ⟨k, 2, none⟩ u2).setCell ⟨k, 3, none⟩ u3).setCell ⟨k, 4, none⟩ u4).ownsRow b e sz v n xs :=
  own_setT (own_setT (own_setT (own_setT (own_setT h hk hT 0 u0) (setAt hk 0 u0) hT 1 u1) (setAt (setAt hk 0 u0) 1 u1) hT 2 u2) (setAt (setAt (setAt hk 0 u0) 1 u1) 2 u2) hT 3 u3) (setAt (setAt (setAt (setAt hk 0 u0) 1 u1) 2 u2) 3 u3) hT 4 u4
theorem RO.set5 {b : Nat} {w : World} {v : Value} {l : List Rp} (h : RO b w v l) {k : Nat} {cur : Array Value} {T : TypeId} (hk : w.heap[k]? = some (.cells cur T (0, 0))) (hT : 49 ≠ T) (hT' : 95 ≠ T) (u0 u1 u2 u3 u4 : Value) :
    RO b (((((w.setCell ⟨k, 0, none⟩ u0).setCell ⟨k, 1, none⟩ u1).setCell ⟨k, 2, none⟩ u2).setCell ⟨k, 3, none⟩ u3).setCell ⟨k, 4, none⟩ u4) v l := by
  obtain ⟨css, h1, h2⟩ := h
  exact ⟨css, own_set5 h1 hk hT' u0 u1 u2 u3 u4, h2.mono fun _ _ ⟨x, e, g⟩ => ⟨x, e, own_set5 g hk hT u0 u1 u2 u3 u4⟩⟩
theorem below_set5 {n : Nat} {a w : World} (h : Below n a w) {k : Nat} (hk : n ≤ k) (u0 u1 u2 u3 u4 : Value) : Below n a (((((w.setCell ⟨k, 0, none⟩ u0).setCell ⟨k, 1, none⟩ u1).setCell ⟨k, 2, none⟩ u2).setCell ⟨k, 3, none⟩ u3).setCell ⟨k, 4, none⟩ u4) :=
  ((((h.setCell (p := ⟨k, 0, none⟩) hk u0).setCell (p := ⟨k, 1, none⟩) hk u1).setCell (p := ⟨k, 2, none⟩) hk u2).setCell (p := ⟨k, 3, none⟩) hk u3).setCell (p := ⟨k, 4, none⟩) hk u4
theorem cell_set5 {w : World} {k : Nat} {x0 x1 x2 x3 x4 : Value} {T : TypeId} (hk : w.heap[k]? = some (.cells #[x0, x1, x2, x3, x4] T (0, 0))) (u0 u1 u2 u3 u4 : Value) : (((((w.setCell ⟨k, 0, none⟩ u0).setCell ⟨k, 1, none⟩ u1).setCell ⟨k, 2, none⟩ u2).setCell ⟨k, 3, none⟩ u3).setCell ⟨k, 4, none⟩ u4).cell? ⟨k, 0, none⟩ = some u0 ∧ (((((w.setCell ⟨k, 0, none⟩ u0).setCell ⟨k, 1, none⟩ u1).setCell ⟨k, 2, none⟩ u2).setCell ⟨k, 3, none⟩ u3).setCell ⟨k, 4, none⟩ u4).cell? ⟨k, 1, none⟩ = some u1 ∧ (((((w.setCell ⟨k, 0, none⟩ u0).setCell ⟨k, 1, none⟩ u1).setCell ⟨k, 2, none⟩ u2).setCell ⟨k, 3, none⟩ u3).setCell ⟨k, 4, none⟩ u4).cell? ⟨k, 2, none⟩ = some u2 ∧ (((((w.setCell ⟨k, 0, none⟩ u0).setCell ⟨k, 1, none⟩ u1).setCell ⟨k, 2, none⟩ u2).setCell ⟨k, 3, none⟩ u3).setCell ⟨k, 4, none⟩ u4).cell? ⟨k, 3, none⟩ = some u3 ∧ (((((w.setCell ⟨k, 0, none⟩ u0).setCell ⟨k, 1, none⟩ u1).setCell ⟨k, 2, none⟩ u2).setCell ⟨k, 3, none⟩ u3).setCell ⟨k, 4, none⟩ u4).cell? ⟨k, 4, none⟩ = some u4 := by
  have h := setAt (setAt (setAt (setAt (setAt hk 0 u0) 1 u1) 2 u2) 3 u3) 4 u4
  exact ⟨(cellAt h 0).trans rfl, (cellAt h 1).trans rfl, (cellAt h 2).trans rfl, (cellAt h 3).trans rfl, (cellAt h 4).trans rfl⟩
theorem ne_small {d : Dc} (h : DcSm d) : ∀ q ∈ rpL d.packs d.packs.length, q.1.length ≤ 801 := by
  intro q hq
  obtain ⟨i, hi, rfl⟩ := List.getElem_of_mem hq
  have hl := (rpL_at d.packs d.packs.length (Nat.le_refl _)).1
  have hi' : i < d.packs.length := by omega
  have := (rpL_at d.packs d.packs.length (Nat.le_refl _)).2 i hi' hi'
  rw [List.getElem?_eq_getElem hi] at this
  injection this with this
  rw [this]
  simp only [neM, List.length_map]
  exact (h.pack _ (List.getElem_mem hi')).needs

theorem rpL_step {ps : List Pk} {k : Nat} (h : k < ps.length) : rpL ps (k + 1) = rpL ps k ++ [(neM ps ps[k], foeM ps k ps[k])] := by rw [rpL, List.getElem?_eq_getElem h]

set_option maxHeartbeats 6400000 in
set_option maxRecDepth 100000 in
theorem pk_RulesOf (d : Dc) (ap : Option Addr) (np cp : Nat) (ai : Option Addr) (ni ci : Nat) (ar : Option Addr) (nr cr : Nat) (au : Option Addr) (nu cu : Nat) (w : World) (hd : DcV w d ap np cp ai ni ci ar nr cr au nu cu) (hsm : DcSm d) :
    Calls Tryd.prog 20 #[.agg #[.slice ap np cp, .slice ai ni ci, .slice ar nr cr, .slice au nu cu]] w fun e w' => ∃ a1 c1 a2 n2 c2 a3 n3 c3 a4 n4 c4, e = .returned (.agg #[.slice a1 d.packs.length c1, .slice a2 n2 c2, .slice a3 n3 c3, .int .u32 (ruM d).rem, .slice a4 n4 c4]) ∧ Below w.heap.size w w' ∧ RuV w' (ruM d) a1 d.packs.length c1 a2 n2 c2 a3 n3 c3 a4 n4 c4 := by
  obtain ⟨i0, hi0, hz0, hz1, hz2⟩ := info_parts Tryd.infoRPk2
  have hlen := hd.len
  subst hlen
  have hl := hd.packs.1
  have HR : Hid (∀ j (h : j < d.packs.length), PRw w ap j d.packs[j]) := hd.packs.2
  have HV : Hid (∀ w', Below w.heap.size w w' → DcV w' d ap d.packs.length cp ai ni ci ar nr cr au nu cu) := fun w' hb => hd.below hb
  have HSM : Hid (DcSm d) := hsm
  clear hd hsm
  have HB0 : Hid (Below w.heap.size w (((w.alloc (.cells #[.slice ap d.packs.length cp, .slice ai ni ci, .slice ar nr cr, .slice au nu cu] 40)).alloc (.cells #[.slice none 0 0, .slice none 0 0, .slice none 0 0, .int .u32 0, .slice none 0 0] 61)).alloc (.cells #[.slice none 0 0, .slice none 0 0, .slice none 0 0, .int .u32 0, .slice none 0 0] 61))) := (((Below.refl _ _).alloc (Nat.le_refl _) _).alloc (by simp) _).alloc (by simp; omega) _
  have HD0 : Hid ((((w.alloc (.cells #[.slice ap d.packs.length cp, .slice ai ni ci, .slice ar nr cr, .slice au nu cu] 40)).alloc (.cells #[.slice none 0 0, .slice none 0 0, .slice none 0 0, .int .u32 0, .slice none 0 0] 61)).alloc (.cells #[.slice none 0 0, .slice none 0 0, .slice none 0 0, .int .u32 0, .slice none 0 0] 61)).heap[w.heap.size]? = some (.cells #[.slice ap d.packs.length cp, .slice ai ni ci, .slice ar nr cr, .slice au nu cu] 40 (0, 0))) := blk_old (blk_old (blk_new _ _) _) _
  have HQ0 : Hid ((((w.alloc (.cells #[.slice ap d.packs.length cp, .slice ai ni ci, .slice ar nr cr, .slice au nu cu] 40)).alloc (.cells #[.slice none 0 0, .slice none 0 0, .slice none 0 0, .int .u32 0, .slice none 0 0] 61)).alloc (.cells #[.slice none 0 0, .slice none 0 0, .slice none 0 0, .int .u32 0, .slice none 0 0] 61)).heap[w.heap.size + 1]? = some (.cells #[.slice none 0 0, .slice none 0 0, .slice none 0 0, .int .u32 0, .slice none 0 0] 61 (0, 0))) := by
    refine blk_old ?_ _
    have := blk_new (w.alloc (.cells #[.slice ap d.packs.length cp, .slice ai ni ci, .slice ar nr cr, .slice au nu cu] 40)) (.cells #[.slice none 0 0, .slice none 0 0, .slice none 0 0, .int .u32 0, .slice none 0 0] 61)
    rwa [World.size_alloc] at this
  have HK0 : Hid ((((w.alloc (.cells #[.slice ap d.packs.length cp, .slice ai ni ci, .slice ar nr cr, .slice au nu cu] 40)).alloc (.cells #[.slice none 0 0, .slice none 0 0, .slice none 0 0, .int .u32 0, .slice none 0 0] 61)).alloc (.cells #[.slice none 0 0, .slice none 0 0, .slice none 0 0, .int .u32 0, .slice none 0 0] 61)).heap[w.heap.size + 1 + 1]? = some (.cells #[.slice none 0 0, .slice none 0 0, .slice none 0 0, .int .u32 0, .slice none 0 0] 61 (0, 0))) := by
    have := blk_new ((w.alloc (.cells #[.slice ap d.packs.length cp, .slice ai ni ci, .slice ar nr cr, .slice au nu cu] 40)).alloc (.cells #[.slice none 0 0, .slice none 0 0, .slice none 0 0, .int .u32 0, .slice none 0 0] 61)) (.cells #[.slice none 0 0, .slice none 0 0, .slice none 0 0, .int .u32 0, .slice none 0 0] 61)
    rwa [World.size_alloc, World.size_alloc] at this
  go_enter Tryd.func20, Tryd.ntmps20
  go_wp2
  go_loopw [11] (fun i wr => ∃ (k : Nat) (a : Option Addr) (c : Nat), k ≤ d.packs.length ∧ i = .int .i64 k ∧ Hid (RO (w.heap.size + 3) wr (.slice a k c) (rpL d.packs k)) ∧ Below w.heap.size w wr ∧ wr.heap[w.heap.size]? = some (.cells #[.slice ap d.packs.length cp, .slice ai ni ci, .slice ar nr cr, .slice au nu cu] 40 (0, 0)) ∧ wr.heap[w.heap.size + 1]? = some (.cells #[.slice none 0 0, .slice none 0 0, .slice none 0 0, .int .u32 0, .slice none 0 0] 61 (0, 0)) ∧ wr.heap[w.heap.size + 1 + 1]? = some (.cells #[.slice a k c, .slice none 0 0, .slice none 0 0, .int .u32 0, .slice none 0 0] 61 (0, 0))) (fun i _ => d.packs.length - (intOf i).toNat)
  case atStart => exact ⟨0, none, 0, by omega, rfl, RO.nil _ _, HB0.out, HD0.out, HQ0.out, HK0.out⟩
  case round =>
    obtain ⟨k, a, c, hk, rfl, HO, hb, hbd, hbq, hbk⟩ := hrel
    have hbs := hb.size
    have HBD : Hid (wr.heap[w.heap.size]? = some (.cells #[.slice ap d.packs.length cp, .slice ai ni ci, .slice ar nr cr, .slice au nu cu] 40 (0, 0))) := hbd
    have HBQ : Hid (wr.heap[w.heap.size + 1]? = some (.cells #[.slice none 0 0, .slice none 0 0, .slice none 0 0, .int .u32 0, .slice none 0 0] 61 (0, 0))) := hbq
    have HBK : Hid (wr.heap[w.heap.size + 1 + 1]? = some (.cells #[.slice a k c, .slice none 0 0, .slice none 0 0, .int .u32 0, .slice none 0 0] 61 (0, 0))) := hbk
    have hld := ltAt hbd
    have hlk := ltAt hbk
    have hlq := ltAt hbq
    have y0 : wr.cell? ⟨w.heap.size, 0, none⟩ = some (.slice ap d.packs.length cp) := (cellAt hbd 0).trans rfl
    clear hbd hbk hbq
    by_cases hlt : k < d.packs.length
    · obtain ⟨g, off, an, nn, cn, ac, nc, cc, ap', np', cp', rfl, hg, ⟨x0, x1, x2, x3, x4, x5⟩, hv⟩ := HR.out k hlt
      rw [← hb.cell (p := ⟨g, _, none⟩) hg] at x0 x1 x2 x3 x4 x5
      have HVP : Hid (∀ w', Below w.heap.size w w' → PkV w' d.packs[k] an nn cn ac nc cc ap' np' cp') := fun w' hb => hv.below hb
      have HD : Hid (rpL d.packs (k + 1) = rpL d.packs k ++ [(neM d.packs d.packs[k], foeM d.packs k d.packs[k])]) := rpL_step hlt
      have HBA : Hid (Below w.heap.size w (wr.alloc (.cells #[.int .u8 d.packs[k].n, .int .u8 d.packs[k].v, .int .i64 d.packs[k].m, .slice an nn cn, .slice ac nc cc, .slice ap' np' cp'] 91))) := hb.alloc hbs _
      have HDA : Hid _ := blk_old HBD.out (.cells #[.int .u8 d.packs[k].n, .int .u8 d.packs[k].v, .int .i64 d.packs[k].m, .slice an nn cn, .slice ac nc cc, .slice ap' np' cp'] 91)
      have HQA : Hid _ := blk_old HBQ.out (.cells #[.int .u8 d.packs[k].n, .int .u8 d.packs[k].v, .int .i64 d.packs[k].m, .slice an nn cn, .slice ac nc cc, .slice ap' np' cp'] 91)
      have HKA : Hid _ := blk_old HBK.out (.cells #[.int .u8 d.packs[k].n, .int .u8 d.packs[k].v, .int .i64 d.packs[k].m, .slice an nn cn, .slice ac nc cc, .slice ap' np' cp'] 91)
      have HPA : Hid _ := blk_new wr (.cells #[.int .u8 d.packs[k].n, .int .u8 d.packs[k].v, .int .i64 d.packs[k].m, .slice an nn cn, .slice ac nc cc, .slice ap' np' cp'] 91)
      have HOA : Hid (RO (w.heap.size + 3) (wr.alloc (.cells #[.int .u8 d.packs[k].n, .int .u8 d.packs[k].v, .int .i64 d.packs[k].m, .slice an nn cn, .slice ac nc cc, .slice ap' np' cp'] 91)) (.slice a k c) (rpL d.packs k)) := RO.alloc HO.out (.cells #[.int .u8 d.packs[k].n, .int .u8 d.packs[k].v, .int .i64 d.packs[k].m, .slice an nn cn, .slice ac nc cc, .slice ap' np' cp'] 91)
      clear hv HBD HBK HBQ HO
      have HF0 : Hid (foeM d.packs k d.packs[k] = adN (opF d.packs d.packs[k] d.packs.length) (oneN k)) := rfl
      have HNL : Hid ((neM d.packs d.packs[k]).length ≤ 801) := by
        have := (HSM.out.pack _ (List.getElem_mem hlt)).needs
        show _ ≤ _
        unfold neM
        simpa using this
      generalize d.packs[k] = p at *
      go_wp2_with fail
      refine (pk_needed _ cp d.packs p an nn cn ac nc cc ap' np' cp' _ (HV.out _ HBA.out).packs (HVP.out _ HBA.out)).mono ?_
      rintro e w1 ⟨r1, cr1, rfl, hb1, hso1⟩
      generalize neM d.packs p = NE at *
      have HB1 : Hid (Below w.heap.size w w1) := HBA.out.trans (hb1.mono (by simp; omega))
      have HD1 : Hid _ := blk_below hb1 HDA.out (by simp; omega)
      have HQ1 : Hid _ := blk_below hb1 HQA.out (by simp; omega)
      have HK1 : Hid _ := blk_below hb1 HKA.out (by simp; omega)
      have HP1 : Hid _ := blk_below hb1 HPA.out (by simp)
      have HO1 : Hid (RO (w.heap.size + 3) w1 (.slice a k c) (rpL d.packs k)) := RO.kept HOA.out hb1
      have HSO1 : Hid (SO (w.heap.size + 3) w1 (.slice r1 NE.length cr1) NE) := own_mono hso1 (by simp; omega)
      have y01 : w1.cell? ⟨w.heap.size, 0, none⟩ = some (.slice (some ⟨g, off, none⟩) d.packs.length cp) := (cellAt HD1.out 0).trans rfl
      have z0 : w1.cell? ⟨wr.heap.size, 0, none⟩ = some (.int .u8 p.n) := (cellAt HP1.out 0).trans rfl
      have z1 : w1.cell? ⟨wr.heap.size, 1, none⟩ = some (.int .u8 p.v) := (cellAt HP1.out 1).trans rfl
      have z2 : w1.cell? ⟨wr.heap.size, 2, none⟩ = some (.int .i64 p.m) := (cellAt HP1.out 2).trans rfl
      have z3 : w1.cell? ⟨wr.heap.size, 3, none⟩ = some (.slice an nn cn) := (cellAt HP1.out 3).trans rfl
      have z4 : w1.cell? ⟨wr.heap.size, 4, none⟩ = some (.slice ac nc cc) := (cellAt HP1.out 4).trans rfl
      have z5 : w1.cell? ⟨wr.heap.size, 5, none⟩ = some (.slice ap' np' cp') := (cellAt HP1.out 5).trans rfl
      have hl1 := ltAt HD1.out
      have hk1 := ltAt HK1.out
      have hq1 := ltAt HQ1.out
      have hp1 := ltAt HP1.out
      have hs1 := HB1.out.size
      clear hb1 hso1 HDA HQA HKA HPA HOA y0
      go_wp2_with fail
      refine (pk_opposed _ cp d.packs p an nn cn ac nc cc ap' np' cp' _ (HV.out _ HB1.out).packs (HVP.out _ HB1.out)).mono ?_
      rintro e w2 ⟨rfl, hb2⟩
      have l1 := opF_lt d.packs p d.packs.length
      generalize opF d.packs p d.packs.length = OP at *
      have HB2 : Hid (Below w.heap.size w w2) := HB1.out.trans (hb2.mono hs1)
      have HD2 : Hid _ := blk_below hb2 HD1.out hl1
      have HQ2 : Hid _ := blk_below hb2 HQ1.out hq1
      have HK2 : Hid _ := blk_below hb2 HK1.out hk1
      have HO2 : Hid (RO (w.heap.size + 3) w2 (.slice a k c) (rpL d.packs k)) := RO.kept HO1.out hb2
      have HSO2 : Hid (SO (w.heap.size + 3) w2 (.slice r1 NE.length cr1) NE) := SO.kept HSO1.out hb2
      have k0 : w2.cell? ⟨w.heap.size + 1 + 1, 0, none⟩ = some (.slice a k c) := (cellAt HK2.out 0).trans rfl
      have f0 := freeAt HK2.out 0
      have hk2 := ltAt HK2.out
      have hd2 := ltAt HD2.out
      have hq2 := ltAt HQ2.out
      have hs2 := HB2.out.size
      clear hb2 HD1 HQ1 HK1 HP1 HO1 HSO1 y01 z0 z1 z2 z3 z4 z5
      have l2 := oneN_lt k
      have o1 := andNot_u32 OP (oneN k) (by omega) (by omega)
      obtain ⟨F, hF⟩ : ∃ F, adN OP (oneN k) = F := ⟨_, rfl⟩
      have HFF : Hid (foeM d.packs k p = F) := by show _ = _; rw [HF0.out, hF]
      rw [hF] at o1
      clear hF HF0
      obtain ⟨css, hown, hal⟩ := HO2.out
      have HAL : Hid (All2 (RpC (w.heap.size + 3) w2) css (rpL d.packs k)) := hal
      have hrl : (rpL d.packs k).length = k := (rpL_at d.packs k hk).1
      rw [hrl] at hown
      clear hal HO2
      go_wp2_with fail
      refine (doc_One k _).mono ?_
      rintro e w3 ⟨rfl, rfl⟩
      go_wp2_with (at_builtin; refine wpList_append_own _ rfl _ _ 57 rfl (w.heap.size + 3) 95 i0 (.agg #[.slice none 0 0, .int .u32 0]) 2 32 Tryd.underlying57 hi0 hz0 hz1 hz2 rfl (by decide) _ _ _ rfl (hown.alloc _) ⟨w3.heap.size, 0, none⟩ 1 1 [.slice r1 NE.length cr1, .int .u32 F] rfl rfl ?c1 ?c2 ?c3 ?c4 ?c5 ?_)
      case c1 => exact cell_new w3 [.slice r1 NE.length cr1, .int .u32 F] 95
      case c2 => intro u hu; simp at hu; rcases hu with rfl | rfl <;> rfl
      case c3 => unfold maxLen; omega
      case c4 => omega
      case c5 => simp; omega
      intro v' w4 hown' hgrow _
      have HB4 : Hid (Below w.heap.size w w4) := (HB2.out.alloc (by omega) _).grown hgrow (by simp; omega) (fun j hj => Nat.le_trans (by omega) (hown.lt j hj).1)
      have HD4 : Hid _ := (hgrow.block _ (by simp; omega) (own_blk_ne hown HD2.out (by decide))).trans (blk_old HD2.out _)
      have HQ4 : Hid _ := (hgrow.block _ (by simp; omega) (own_blk_ne hown HQ2.out (by decide))).trans (blk_old HQ2.out _)
      have HK4 : Hid _ := (hgrow.block _ (by simp; omega) (own_blk_ne hown HK2.out (by decide))).trans (blk_old HK2.out _)
      have hso4 : ∀ (x : Value) (L : List Nat), SO (w.heap.size + 3) w3 x L → SO (w.heap.size + 3) w4 x L := fun x L h => World.ownsRow.kept (h.alloc _) hgrow (own_ne h hown (by decide))
      have HO4 : Hid (RO (w.heap.size + 3) w4 v' (rpL d.packs (k + 1))) := by
        show RO _ _ _ _
        rw [HD.out, HFF.out]
        refine ⟨css ++ [[.slice r1 NE.length cr1, .int .u32 F]], by simpa [hrl] using hown', All2.snoc ⟨_, rfl, hso4 _ _ HSO2.out⟩ (HAL.out.mono fun _ _ ⟨x, e, g⟩ => ⟨x, e, hso4 _ _ g⟩)⟩
      have f4 := freeAt HK4.out 0
      have k4 : w4.cell? ⟨w.heap.size + 1 + 1, 0, none⟩ = some (.slice a k c) := (cellAt HK4.out 0).trans rfl
      have hk4 := ltAt HK4.out
      obtain ⟨a', c', rfl⟩ := HO4.out.shape
      have hrl2 : (rpL d.packs (k + 1)).length = k + 1 := (rpL_at d.packs (k + 1) hlt).1
      rw [hrl2] at HO4 ⊢
      clear hown' hgrow hown hso4 hrl hrl2
      go_wp2
      go_roundw
      case rel => exact ⟨k + 1, a', c', by omega, by go_num, HO4.out.setT HK4.out (by decide) (by decide) 0 _, HB4.out.setCell (by show w.heap.size ≤ w.heap.size + 1 + 1; omega) _, blk_set HD4.out (by show w.heap.size ≠ w.heap.size + 1 + 1; omega) _, blk_set HQ4.out (by show w.heap.size + 1 ≠ w.heap.size + 1 + 1; omega) _, setAt HK4.out 0 _⟩
      case measure => simp [intOf]; omega
    · have hkl : k = d.packs.length := by omega
      subst hkl
      have d1 : wr.cell? ⟨w.heap.size, 1, none⟩ = some (.slice ai ni ci) := (cellAt HBD.out 1).trans rfl
      clear hlt HR
      have HB0 : Hid (Below w.heap.size w wr) := hb
      clear hb
      have HW0 : Hid (RO (w.heap.size + 3) wr (.slice a d.packs.length c) (rpL d.packs d.packs.length)) := HO.out
      go_wp2_with fail
      refine (pk_staying ap cp d.packs _ (HV.out _ HB0.out).packs).mono ?_
      rintro e w1 ⟨r1, c1, rfl, hb1, hso⟩
      have HBa1 : Hid (Below w.heap.size w w1) := HB0.out.trans (hb1.mono HB0.out.size)
      have HD1 : Hid (w1.heap[w.heap.size]? = some (.cells #[.slice ap d.packs.length cp, .slice ai ni ci, .slice ar nr cr, .slice au nu cu] 40 (0, 0))) := blk_below hb1 HBD.out (ltAt HBD.out)
      have HQ1 : Hid (w1.heap[w.heap.size + 1]? = some (.cells #[.slice none 0 0, .slice none 0 0, .slice none 0 0, .int .u32 0, .slice none 0 0] 61 (0, 0))) := blk_below hb1 HBQ.out (ltAt HBQ.out)
      have HK1 : Hid (w1.heap[w.heap.size + 1 + 1]? = some (.cells #[.slice a d.packs.length c, .slice none 0 0, .slice none 0 0, .int .u32 0, .slice none 0 0] 61 (0, 0))) := blk_below hb1 HBK.out (ltAt HBK.out)
      have HO1 : Hid (RO (w.heap.size + 3) w1 (.slice a d.packs.length c) (rpL d.packs d.packs.length)) := RO.kept HW0.out hb1
      have HS1 : Hid (SO w.heap.size w1 (.slice r1 (stL d.packs d.packs.length).length c1) (stL d.packs d.packs.length)) := own_mono hso (HB0.out.size)
      clear hb1 hso
      have hk1 := ltAt HK1.out
      have hd1 := ltAt HD1.out
      have hq1 := ltAt HQ1.out
      have fk1 := freeAt HK1.out 1
      have ck10 : w1.cell? ⟨w.heap.size + 1 + 1, 0, none⟩ = some (.slice a d.packs.length c) := (cellAt HK1.out 0).trans rfl
      have ck11 : w1.cell? ⟨w.heap.size + 1 + 1, 1, none⟩ = some (.slice none 0 0) := (cellAt HK1.out 1).trans rfl
      have ck12 : w1.cell? ⟨w.heap.size + 1 + 1, 2, none⟩ = some (.slice none 0 0) := (cellAt HK1.out 2).trans rfl
      have ck13 : w1.cell? ⟨w.heap.size + 1 + 1, 3, none⟩ = some (.int .u32 0) := (cellAt HK1.out 3).trans rfl
      have ck14 : w1.cell? ⟨w.heap.size + 1 + 1, 4, none⟩ = some (.slice none 0 0) := (cellAt HK1.out 4).trans rfl
      have cd10 : w1.cell? ⟨w.heap.size, 0, none⟩ = some (.slice ap d.packs.length cp) := (cellAt HD1.out 0).trans rfl
      have cd11 : w1.cell? ⟨w.heap.size, 1, none⟩ = some (.slice ai ni ci) := (cellAt HD1.out 1).trans rfl
      have cd12 : w1.cell? ⟨w.heap.size, 2, none⟩ = some (.slice ar nr cr) := (cellAt HD1.out 2).trans rfl
      have cd13 : w1.cell? ⟨w.heap.size, 3, none⟩ = some (.slice au nu cu) := (cellAt HD1.out 3).trans rfl
      have HBs1 : Hid (Below w.heap.size w (w1.setCell ⟨w.heap.size + 1 + 1, 1, none⟩ (.slice r1 (stL d.packs d.packs.length).length c1))) := HBa1.out.setCell (by show w.heap.size ≤ w.heap.size + 1 + 1; omega) _
      have HDs1 : Hid ((w1.setCell ⟨w.heap.size + 1 + 1, 1, none⟩ (.slice r1 (stL d.packs d.packs.length).length c1)).heap[w.heap.size]? = some (.cells #[.slice ap d.packs.length cp, .slice ai ni ci, .slice ar nr cr, .slice au nu cu] 40 (0, 0))) := blk_set HD1.out (by show w.heap.size ≠ w.heap.size + 1 + 1; omega) _
      have HQs1 : Hid ((w1.setCell ⟨w.heap.size + 1 + 1, 1, none⟩ (.slice r1 (stL d.packs d.packs.length).length c1)).heap[w.heap.size + 1]? = some (.cells #[.slice none 0 0, .slice none 0 0, .slice none 0 0, .int .u32 0, .slice none 0 0] 61 (0, 0))) := blk_set HQ1.out (by show w.heap.size + 1 ≠ w.heap.size + 1 + 1; omega) _
      have HKs1 : Hid ((w1.setCell ⟨w.heap.size + 1 + 1, 1, none⟩ (.slice r1 (stL d.packs d.packs.length).length c1)).heap[w.heap.size + 1 + 1]? = some (.cells #[.slice a d.packs.length c, .slice r1 (stL d.packs d.packs.length).length c1, .slice none 0 0, .int .u32 0, .slice none 0 0] 61 (0, 0))) := setAt HK1.out 1 _
      have HOs1 : Hid (RO (w.heap.size + 3) (w1.setCell ⟨w.heap.size + 1 + 1, 1, none⟩ (.slice r1 (stL d.packs d.packs.length).length c1)) (.slice a d.packs.length c) (rpL d.packs d.packs.length)) := RO.setT HO1.out HK1.out (by decide) (by decide) 1 _
      have HSs1 : Hid (SO w.heap.size (w1.setCell ⟨w.heap.size + 1 + 1, 1, none⟩ (.slice r1 (stL d.packs d.packs.length).length c1)) (.slice r1 (stL d.packs d.packs.length).length c1) (stL d.packs d.packs.length)) := SO.setT HS1.out HK1.out (by decide) 1 _
      go_wp2_with fail
      refine (pk_fitting ap cp d.packs ai ni ci d.ins _ (HV.out _ HBs1.out).packs (HV.out _ HBs1.out).ins).mono ?_
      rintro e w2 ⟨r2, c2, rfl, hb2, hso⟩
      have HBa2 : Hid (Below w.heap.size w w2) := HBs1.out.trans (hb2.mono HBs1.out.size)
      have HD2 : Hid (w2.heap[w.heap.size]? = some (.cells #[.slice ap d.packs.length cp, .slice ai ni ci, .slice ar nr cr, .slice au nu cu] 40 (0, 0))) := blk_below hb2 HDs1.out (ltAt HDs1.out)
      have HQ2 : Hid (w2.heap[w.heap.size + 1]? = some (.cells #[.slice none 0 0, .slice none 0 0, .slice none 0 0, .int .u32 0, .slice none 0 0] 61 (0, 0))) := blk_below hb2 HQs1.out (ltAt HQs1.out)
      have HK2 : Hid (w2.heap[w.heap.size + 1 + 1]? = some (.cells #[.slice a d.packs.length c, .slice r1 (stL d.packs d.packs.length).length c1, .slice none 0 0, .int .u32 0, .slice none 0 0] 61 (0, 0))) := blk_below hb2 HKs1.out (ltAt HKs1.out)
      have HO2 : Hid (RO (w.heap.size + 3) w2 (.slice a d.packs.length c) (rpL d.packs d.packs.length)) := RO.kept HOs1.out hb2
      have HS2 : Hid (SO w.heap.size w2 (.slice r1 (stL d.packs d.packs.length).length c1) (stL d.packs d.packs.length)) := SO.kept HSs1.out hb2
      have HI2 : Hid (SO w.heap.size w2 (.slice r2 d.ins.length c2) (d.ins.map (fitM d.packs))) := own_mono hso (HBs1.out.size)
      clear hb2 hso
      have hk2 := ltAt HK2.out
      have hd2 := ltAt HD2.out
      have hq2 := ltAt HQ2.out
      have fk2 := freeAt HK2.out 2
      have ck20 : w2.cell? ⟨w.heap.size + 1 + 1, 0, none⟩ = some (.slice a d.packs.length c) := (cellAt HK2.out 0).trans rfl
      have ck21 : w2.cell? ⟨w.heap.size + 1 + 1, 1, none⟩ = some (.slice r1 (stL d.packs d.packs.length).length c1) := (cellAt HK2.out 1).trans rfl
      have ck22 : w2.cell? ⟨w.heap.size + 1 + 1, 2, none⟩ = some (.slice none 0 0) := (cellAt HK2.out 2).trans rfl
      have ck23 : w2.cell? ⟨w.heap.size + 1 + 1, 3, none⟩ = some (.int .u32 0) := (cellAt HK2.out 3).trans rfl
      have ck24 : w2.cell? ⟨w.heap.size + 1 + 1, 4, none⟩ = some (.slice none 0 0) := (cellAt HK2.out 4).trans rfl
      have cd20 : w2.cell? ⟨w.heap.size, 0, none⟩ = some (.slice ap d.packs.length cp) := (cellAt HD2.out 0).trans rfl
      have cd21 : w2.cell? ⟨w.heap.size, 1, none⟩ = some (.slice ai ni ci) := (cellAt HD2.out 1).trans rfl
      have cd22 : w2.cell? ⟨w.heap.size, 2, none⟩ = some (.slice ar nr cr) := (cellAt HD2.out 2).trans rfl
      have cd23 : w2.cell? ⟨w.heap.size, 3, none⟩ = some (.slice au nu cu) := (cellAt HD2.out 3).trans rfl
      have HBs2 : Hid (Below w.heap.size w (w2.setCell ⟨w.heap.size + 1 + 1, 2, none⟩ (.slice r2 d.ins.length c2))) := HBa2.out.setCell (by show w.heap.size ≤ w.heap.size + 1 + 1; omega) _
      have HDs2 : Hid ((w2.setCell ⟨w.heap.size + 1 + 1, 2, none⟩ (.slice r2 d.ins.length c2)).heap[w.heap.size]? = some (.cells #[.slice ap d.packs.length cp, .slice ai ni ci, .slice ar nr cr, .slice au nu cu] 40 (0, 0))) := blk_set HD2.out (by show w.heap.size ≠ w.heap.size + 1 + 1; omega) _
      have HQs2 : Hid ((w2.setCell ⟨w.heap.size + 1 + 1, 2, none⟩ (.slice r2 d.ins.length c2)).heap[w.heap.size + 1]? = some (.cells #[.slice none 0 0, .slice none 0 0, .slice none 0 0, .int .u32 0, .slice none 0 0] 61 (0, 0))) := blk_set HQ2.out (by show w.heap.size + 1 ≠ w.heap.size + 1 + 1; omega) _
      have HKs2 : Hid ((w2.setCell ⟨w.heap.size + 1 + 1, 2, none⟩ (.slice r2 d.ins.length c2)).heap[w.heap.size + 1 + 1]? = some (.cells #[.slice a d.packs.length c, .slice r1 (stL d.packs d.packs.length).length c1, .slice r2 d.ins.length c2, .int .u32 0, .slice none 0 0] 61 (0, 0))) := setAt HK2.out 2 _
      have HOs2 : Hid (RO (w.heap.size + 3) (w2.setCell ⟨w.heap.size + 1 + 1, 2, none⟩ (.slice r2 d.ins.length c2)) (.slice a d.packs.length c) (rpL d.packs d.packs.length)) := RO.setT HO2.out HK2.out (by decide) (by decide) 2 _
      have HSs2 : Hid (SO w.heap.size (w2.setCell ⟨w.heap.size + 1 + 1, 2, none⟩ (.slice r2 d.ins.length c2)) (.slice r1 (stL d.packs d.packs.length).length c1) (stL d.packs d.packs.length)) := SO.setT HS2.out HK2.out (by decide) 2 _
      have HIs2 : Hid (SO w.heap.size (w2.setCell ⟨w.heap.size + 1 + 1, 2, none⟩ (.slice r2 d.ins.length c2)) (.slice r2 d.ins.length c2) (d.ins.map (fitM d.packs))) := SO.setT HI2.out HK2.out (by decide) 2 _
      go_wp2_with fail
      refine (pk_fittingAny ap cp d.packs ar nr cr d.rem _ (HV.out _ HBs2.out).packs (HV.out _ HBs2.out).rem).mono ?_
      rintro e w3 ⟨rfl, hb3⟩
      have HBa3 : Hid (Below w.heap.size w w3) := HBs2.out.trans (hb3.mono HBs2.out.size)
      have HD3 : Hid (w3.heap[w.heap.size]? = some (.cells #[.slice ap d.packs.length cp, .slice ai ni ci, .slice ar nr cr, .slice au nu cu] 40 (0, 0))) := blk_below hb3 HDs2.out (ltAt HDs2.out)
      have HQ3 : Hid (w3.heap[w.heap.size + 1]? = some (.cells #[.slice none 0 0, .slice none 0 0, .slice none 0 0, .int .u32 0, .slice none 0 0] 61 (0, 0))) := blk_below hb3 HQs2.out (ltAt HQs2.out)
      have HK3 : Hid (w3.heap[w.heap.size + 1 + 1]? = some (.cells #[.slice a d.packs.length c, .slice r1 (stL d.packs d.packs.length).length c1, .slice r2 d.ins.length c2, .int .u32 0, .slice none 0 0] 61 (0, 0))) := blk_below hb3 HKs2.out (ltAt HKs2.out)
      have HO3 : Hid (RO (w.heap.size + 3) w3 (.slice a d.packs.length c) (rpL d.packs d.packs.length)) := RO.kept HOs2.out hb3
      have HS3 : Hid (SO w.heap.size w3 (.slice r1 (stL d.packs d.packs.length).length c1) (stL d.packs d.packs.length)) := SO.kept HSs2.out hb3
      have HI3 : Hid (SO w.heap.size w3 (.slice r2 d.ins.length c2) (d.ins.map (fitM d.packs))) := SO.kept HIs2.out hb3
      clear hb3
      have hk3 := ltAt HK3.out
      have hd3 := ltAt HD3.out
      have hq3 := ltAt HQ3.out
      have fk3 := freeAt HK3.out 3
      have ck30 : w3.cell? ⟨w.heap.size + 1 + 1, 0, none⟩ = some (.slice a d.packs.length c) := (cellAt HK3.out 0).trans rfl
      have ck31 : w3.cell? ⟨w.heap.size + 1 + 1, 1, none⟩ = some (.slice r1 (stL d.packs d.packs.length).length c1) := (cellAt HK3.out 1).trans rfl
      have ck32 : w3.cell? ⟨w.heap.size + 1 + 1, 2, none⟩ = some (.slice r2 d.ins.length c2) := (cellAt HK3.out 2).trans rfl
      have ck33 : w3.cell? ⟨w.heap.size + 1 + 1, 3, none⟩ = some (.int .u32 0) := (cellAt HK3.out 3).trans rfl
      have ck34 : w3.cell? ⟨w.heap.size + 1 + 1, 4, none⟩ = some (.slice none 0 0) := (cellAt HK3.out 4).trans rfl
      have cd30 : w3.cell? ⟨w.heap.size, 0, none⟩ = some (.slice ap d.packs.length cp) := (cellAt HD3.out 0).trans rfl
      have cd31 : w3.cell? ⟨w.heap.size, 1, none⟩ = some (.slice ai ni ci) := (cellAt HD3.out 1).trans rfl
      have cd32 : w3.cell? ⟨w.heap.size, 2, none⟩ = some (.slice ar nr cr) := (cellAt HD3.out 2).trans rfl
      have cd33 : w3.cell? ⟨w.heap.size, 3, none⟩ = some (.slice au nu cu) := (cellAt HD3.out 3).trans rfl
      have HBs3 : Hid (Below w.heap.size w (w3.setCell ⟨w.heap.size + 1 + 1, 3, none⟩ (.int .u32 (faM d.packs d.rem : Nat)))) := HBa3.out.setCell (by show w.heap.size ≤ w.heap.size + 1 + 1; omega) _
      have HDs3 : Hid ((w3.setCell ⟨w.heap.size + 1 + 1, 3, none⟩ (.int .u32 (faM d.packs d.rem : Nat))).heap[w.heap.size]? = some (.cells #[.slice ap d.packs.length cp, .slice ai ni ci, .slice ar nr cr, .slice au nu cu] 40 (0, 0))) := blk_set HD3.out (by show w.heap.size ≠ w.heap.size + 1 + 1; omega) _
      have HQs3 : Hid ((w3.setCell ⟨w.heap.size + 1 + 1, 3, none⟩ (.int .u32 (faM d.packs d.rem : Nat))).heap[w.heap.size + 1]? = some (.cells #[.slice none 0 0, .slice none 0 0, .slice none 0 0, .int .u32 0, .slice none 0 0] 61 (0, 0))) := blk_set HQ3.out (by show w.heap.size + 1 ≠ w.heap.size + 1 + 1; omega) _
      have HKs3 : Hid ((w3.setCell ⟨w.heap.size + 1 + 1, 3, none⟩ (.int .u32 (faM d.packs d.rem : Nat))).heap[w.heap.size + 1 + 1]? = some (.cells #[.slice a d.packs.length c, .slice r1 (stL d.packs d.packs.length).length c1, .slice r2 d.ins.length c2, .int .u32 (faM d.packs d.rem : Nat), .slice none 0 0] 61 (0, 0))) := setAt HK3.out 3 _
      have HOs3 : Hid (RO (w.heap.size + 3) (w3.setCell ⟨w.heap.size + 1 + 1, 3, none⟩ (.int .u32 (faM d.packs d.rem : Nat))) (.slice a d.packs.length c) (rpL d.packs d.packs.length)) := RO.setT HO3.out HK3.out (by decide) (by decide) 3 _
      have HSs3 : Hid (SO w.heap.size (w3.setCell ⟨w.heap.size + 1 + 1, 3, none⟩ (.int .u32 (faM d.packs d.rem : Nat))) (.slice r1 (stL d.packs d.packs.length).length c1) (stL d.packs d.packs.length)) := SO.setT HS3.out HK3.out (by decide) 3 _
      have HIs3 : Hid (SO w.heap.size (w3.setCell ⟨w.heap.size + 1 + 1, 3, none⟩ (.int .u32 (faM d.packs d.rem : Nat))) (.slice r2 d.ins.length c2) (d.ins.map (fitM d.packs))) := SO.setT HI3.out HK3.out (by decide) 3 _
      go_wp2_with fail
      refine (pk_upgrades ap cp d.packs ai ni ci ar nr cr au nu cu d.upg _ (HV.out _ HBs3.out).packs (HV.out _ HBs3.out).upg).mono ?_
      rintro e w4 ⟨r4, c4, rfl, hb4, hso⟩
      have HBa4 : Hid (Below w.heap.size w w4) := HBs3.out.trans (hb4.mono HBs3.out.size)
      have HD4 : Hid (w4.heap[w.heap.size]? = some (.cells #[.slice ap d.packs.length cp, .slice ai ni ci, .slice ar nr cr, .slice au nu cu] 40 (0, 0))) := blk_below hb4 HDs3.out (ltAt HDs3.out)
      have HQ4 : Hid (w4.heap[w.heap.size + 1]? = some (.cells #[.slice none 0 0, .slice none 0 0, .slice none 0 0, .int .u32 0, .slice none 0 0] 61 (0, 0))) := blk_below hb4 HQs3.out (ltAt HQs3.out)
      have HK4 : Hid (w4.heap[w.heap.size + 1 + 1]? = some (.cells #[.slice a d.packs.length c, .slice r1 (stL d.packs d.packs.length).length c1, .slice r2 d.ins.length c2, .int .u32 (faM d.packs d.rem : Nat), .slice none 0 0] 61 (0, 0))) := blk_below hb4 HKs3.out (ltAt HKs3.out)
      have HO4 : Hid (RO (w.heap.size + 3) w4 (.slice a d.packs.length c) (rpL d.packs d.packs.length)) := RO.kept HOs3.out hb4
      have HS4 : Hid (SO w.heap.size w4 (.slice r1 (stL d.packs d.packs.length).length c1) (stL d.packs d.packs.length)) := SO.kept HSs3.out hb4
      have HI4 : Hid (SO w.heap.size w4 (.slice r2 d.ins.length c2) (d.ins.map (fitM d.packs))) := SO.kept HIs3.out hb4
      have HU4 : Hid (UpO w.heap.size w4 (.slice r4 d.upg.length c4) (d.upg.map (upP d.packs))) := own_mono hso (HBs3.out.size)
      clear hb4 hso
      have hk4 := ltAt HK4.out
      have hd4 := ltAt HD4.out
      have hq4 := ltAt HQ4.out
      have fk4 := freeAt HK4.out 4
      have ck40 : w4.cell? ⟨w.heap.size + 1 + 1, 0, none⟩ = some (.slice a d.packs.length c) := (cellAt HK4.out 0).trans rfl
      have ck41 : w4.cell? ⟨w.heap.size + 1 + 1, 1, none⟩ = some (.slice r1 (stL d.packs d.packs.length).length c1) := (cellAt HK4.out 1).trans rfl
      have ck42 : w4.cell? ⟨w.heap.size + 1 + 1, 2, none⟩ = some (.slice r2 d.ins.length c2) := (cellAt HK4.out 2).trans rfl
      have ck43 : w4.cell? ⟨w.heap.size + 1 + 1, 3, none⟩ = some (.int .u32 (faM d.packs d.rem : Nat)) := (cellAt HK4.out 3).trans rfl
      have ck44 : w4.cell? ⟨w.heap.size + 1 + 1, 4, none⟩ = some (.slice none 0 0) := (cellAt HK4.out 4).trans rfl
      have cd40 : w4.cell? ⟨w.heap.size, 0, none⟩ = some (.slice ap d.packs.length cp) := (cellAt HD4.out 0).trans rfl
      have cd41 : w4.cell? ⟨w.heap.size, 1, none⟩ = some (.slice ai ni ci) := (cellAt HD4.out 1).trans rfl
      have cd42 : w4.cell? ⟨w.heap.size, 2, none⟩ = some (.slice ar nr cr) := (cellAt HD4.out 2).trans rfl
      have cd43 : w4.cell? ⟨w.heap.size, 3, none⟩ = some (.slice au nu cu) := (cellAt HD4.out 3).trans rfl
      have fq0 := freeAt HQ4.out 0
      have fq1 := freeAt HQ4.out 1
      have fq2 := freeAt HQ4.out 2
      have fq3 := freeAt HQ4.out 3
      have fq4 := freeAt HQ4.out 4
      have cq0 : w4.cell? ⟨w.heap.size + 1, 0, none⟩ = some (.slice none 0 0) := (cellAt HQ4.out 0).trans rfl
      have cq1 : w4.cell? ⟨w.heap.size + 1, 1, none⟩ = some (.slice none 0 0) := (cellAt HQ4.out 1).trans rfl
      have cq2 : w4.cell? ⟨w.heap.size + 1, 2, none⟩ = some (.slice none 0 0) := (cellAt HQ4.out 2).trans rfl
      have cq3 : w4.cell? ⟨w.heap.size + 1, 3, none⟩ = some (.int .u32 0) := (cellAt HQ4.out 3).trans rfl
      have cq4 : w4.cell? ⟨w.heap.size + 1, 4, none⟩ = some (.slice none 0 0) := (cellAt HQ4.out 4).trans rfl
      have HBs4 : Hid (Below w.heap.size w (w4.setCell ⟨w.heap.size + 1 + 1, 4, none⟩ (.slice r4 d.upg.length c4))) := HBa4.out.setCell (by show w.heap.size ≤ w.heap.size + 1 + 1; omega) _
      have HDs4 : Hid ((w4.setCell ⟨w.heap.size + 1 + 1, 4, none⟩ (.slice r4 d.upg.length c4)).heap[w.heap.size]? = some (.cells #[.slice ap d.packs.length cp, .slice ai ni ci, .slice ar nr cr, .slice au nu cu] 40 (0, 0))) := blk_set HD4.out (by show w.heap.size ≠ w.heap.size + 1 + 1; omega) _
      have HQs4 : Hid ((w4.setCell ⟨w.heap.size + 1 + 1, 4, none⟩ (.slice r4 d.upg.length c4)).heap[w.heap.size + 1]? = some (.cells #[.slice none 0 0, .slice none 0 0, .slice none 0 0, .int .u32 0, .slice none 0 0] 61 (0, 0))) := blk_set HQ4.out (by show w.heap.size + 1 ≠ w.heap.size + 1 + 1; omega) _
      have HKs4 : Hid ((w4.setCell ⟨w.heap.size + 1 + 1, 4, none⟩ (.slice r4 d.upg.length c4)).heap[w.heap.size + 1 + 1]? = some (.cells #[.slice a d.packs.length c, .slice r1 (stL d.packs d.packs.length).length c1, .slice r2 d.ins.length c2, .int .u32 (faM d.packs d.rem : Nat), .slice r4 d.upg.length c4] 61 (0, 0))) := setAt HK4.out 4 _
      have HOs4 : Hid (RO (w.heap.size + 3) (w4.setCell ⟨w.heap.size + 1 + 1, 4, none⟩ (.slice r4 d.upg.length c4)) (.slice a d.packs.length c) (rpL d.packs d.packs.length)) := RO.setT HO4.out HK4.out (by decide) (by decide) 4 _
      have HSs4 : Hid (SO w.heap.size (w4.setCell ⟨w.heap.size + 1 + 1, 4, none⟩ (.slice r4 d.upg.length c4)) (.slice r1 (stL d.packs d.packs.length).length c1) (stL d.packs d.packs.length)) := SO.setT HS4.out HK4.out (by decide) 4 _
      have HIs4 : Hid (SO w.heap.size (w4.setCell ⟨w.heap.size + 1 + 1, 4, none⟩ (.slice r4 d.upg.length c4)) (.slice r2 d.ins.length c2) (d.ins.map (fitM d.packs))) := SO.setT HI4.out HK4.out (by decide) 4 _
      have HUs4 : Hid (UpO w.heap.size (w4.setCell ⟨w.heap.size + 1 + 1, 4, none⟩ (.slice r4 d.upg.length c4)) (.slice r4 d.upg.length c4) (d.upg.map (upP d.packs))) := UpO.setT HU4.out HK4.out (by decide) 4 _
      go_wp2
      refine bodyPost_ret (v := .agg #[.slice a d.packs.length c, .slice r1 (stL d.packs d.packs.length).length c1, .slice r2 d.ins.length c2, .int .u32 (faM d.packs d.rem : Nat), .slice r4 d.upg.length c4]) ?_ rfl ⟨a, c, r1, _, c1, r2, _, c2, r4, _, c4, rfl, below_set5 HBs4.out (by omega) _ _ _ _ _, ?_⟩
      · obtain ⟨q0, q1, q2, q3, q4⟩ := cell_set5 HQs4.out (.slice a d.packs.length c) (.slice r1 (stL d.packs d.packs.length).length c1) (.slice r2 d.ins.length c2) (.int .u32 (faM d.packs d.rem : Nat)) (.slice r4 d.upg.length c4)
        simp [results, Tryd.results20, go_sem, q0, q1, q2, q3, q4]
      · refine ⟨(rpL_at d.packs d.packs.length (Nat.le_refl _)).1.symm, RO.rpv (RO.set5 HOs4.out HQs4.out (by decide) (by decide) _ _ _ _ _) (by have := (rpL_at d.packs d.packs.length (Nat.le_refl _)).1; show (rpL d.packs d.packs.length).length ≤ 801; omega) (ne_small HSM.out), ?_, ?_, ?_⟩
        · exact SO.sv (own_set5 HSs4.out HQs4.out (by decide) _ _ _ _ _) (by have := stL_len d.packs d.packs.length; show (stL d.packs d.packs.length).length ≤ 801; omega)
        · exact SO.sv (l := d.ins.map (fitM d.packs)) (own_set5 HIs4.out HQs4.out (by decide) _ _ _ _ _) (by have := HSM.out.ins; simpa using this)
        · exact UpO.uv (l := d.upg.map (upP d.packs)) (own_set5 HUs4.out HQs4.out (by decide) _ _ _ _ _) (by have := HSM.out.upg; simpa using this)

end Go.Proofs.YtenbnmbbfeekpaaDoor

namespace Go.Proofs.YtenbnmbbfeekpaaDoor
open Go.RowKit

set_option maxHeartbeats 6400000 in
set_option maxRecDepth 100000 in
theorem pk_FirstBroken (R : Ru) (s p : Nat) (ap : Option Addr) (np cp : Nat) (az : Option Addr) (nz cz : Nat) (ai : Option Addr) (ni ci : Nat) (au : Option Addr) (nu cu : Nat) (w : World) (hR : RuV w R ap np cp az nz cz ai ni ci au nu cu) (hm : RuSm R) (hs : s < 2 ^ 20) (hp : p < 2 ^ 20) :
    Calls Tryd.prog 22 #[.agg #[.slice ap np cp, .slice az nz cz, .slice ai ni ci, .int .u32 R.rem, .slice au nu cu], .agg #[.int .u32 s, .int .u32 p]] w fun e w' => e = .returned (.int .i64 (fbM R s p : Nat)) ∧ Below w.heap.size w w' := by
  have hlen := hR.len
  subst hlen
  have HV : Hid (∀ w', Below w.heap.size w w' → RuV w' R ap R.packs.length cp az nz cz ai ni ci au nu cu) := fun w' hb => hR.below hb
  have HM : Hid (RuSm R) := hm
  have hr := hm.rem
  have a5 := and_u32 R.rem s (by omega) (by omega)
  clear hR hm
  have HB0 : Hid (Below w.heap.size w ((w.alloc (.cells #[.slice ap R.packs.length cp, .slice az nz cz, .slice ai ni ci, .int .u32 R.rem, .slice au nu cu] 61)).alloc (.cells #[.int .u32 s, .int .u32 p] 64))) := ((Below.refl _ _).alloc (Nat.le_refl _) _).alloc (by simp) _
  have HR0 : Hid (((w.alloc (.cells #[.slice ap R.packs.length cp, .slice az nz cz, .slice ai ni ci, .int .u32 R.rem, .slice au nu cu] 61)).alloc (.cells #[.int .u32 s, .int .u32 p] 64)).heap[w.heap.size]? = some (.cells #[.slice ap R.packs.length cp, .slice az nz cz, .slice ai ni ci, .int .u32 R.rem, .slice au nu cu] 61 (0, 0))) := blk_old (blk_new _ _) _
  have HS0 : Hid (((w.alloc (.cells #[.slice ap R.packs.length cp, .slice az nz cz, .slice ai ni ci, .int .u32 R.rem, .slice au nu cu] 61)).alloc (.cells #[.int .u32 s, .int .u32 p] 64)).heap[w.heap.size + 1]? = some (.cells #[.int .u32 s, .int .u32 p] 64 (0, 0))) := by
    have := blk_new (w.alloc (.cells #[.slice ap R.packs.length cp, .slice az nz cz, .slice ai ni ci, .int .u32 R.rem, .slice au nu cu] 61)) (.cells #[.int .u32 s, .int .u32 p] 64)
    rwa [World.size_alloc] at this
  cases h1 : nmM R.packs s p with
  | false =>
    have HE1 : Hid (nmM R.packs s p = false) := h1
    have HF : Hid (fbM R s p = 1) := by show _ = _; unfold fbM fm2 fm3 fm4 fm5 fm6; simp [h1]
    clear h1
    go_enter Tryd.func22, Tryd.ntmps22
    go_wp2_with fail
    refine (pk_needsMet ap cp R.packs s p _ (HV.out _ HB0.out).packs HM.out.packs hs hp).mono ?_
    rintro e w1 ⟨rfl, hb1⟩
    rw [HE1.out]
    have HB1 : Hid (Below w.heap.size w w1) := HB0.out.trans (hb1.mono (by simp; omega))
    clear hb1
    go_wp2
    go_ret
    exact ⟨ret_int (by rw [HF.out]; rfl), HB1.out⟩
  | true =>
    have HE1 : Hid (nmM R.packs s p = true) := h1
    cases h2 : ncM R.packs s with
    | false =>
      have HE2 : Hid (ncM R.packs s = false) := h2
      have HF : Hid (fbM R s p = 2) := by show _ = _; unfold fbM fm2 fm3 fm4 fm5 fm6; simp [h1, h2]
      clear h1 h2
      go_enter Tryd.func22, Tryd.ntmps22
      go_wp2_with fail
      refine (pk_needsMet ap cp R.packs s p _ (HV.out _ HB0.out).packs HM.out.packs hs hp).mono ?_
      rintro e w1 ⟨rfl, hb1⟩
      rw [HE1.out]
      have HB1 : Hid (Below w.heap.size w w1) := HB0.out.trans (hb1.mono (by simp; omega))
      have HR1 : Hid (w1.heap[w.heap.size]? = some (.cells #[.slice ap R.packs.length cp, .slice az nz cz, .slice ai ni ci, .int .u32 R.rem, .slice au nu cu] 61 (0, 0))) := blk_below hb1 HR0.out (ltAt HR0.out)
      have HS1 : Hid (w1.heap[w.heap.size + 1]? = some (.cells #[.int .u32 s, .int .u32 p] 64 (0, 0))) := blk_below hb1 HS0.out (ltAt HS0.out)
      have hlr1 := ltAt HR1.out
      have hls1 := ltAt HS1.out
      have r10 : w1.cell? ⟨w.heap.size, 0, none⟩ = some (.slice ap R.packs.length cp) := (cellAt HR1.out 0).trans rfl
      have r11 : w1.cell? ⟨w.heap.size, 1, none⟩ = some (.slice az nz cz) := (cellAt HR1.out 1).trans rfl
      have r12 : w1.cell? ⟨w.heap.size, 2, none⟩ = some (.slice ai ni ci) := (cellAt HR1.out 2).trans rfl
      have r13 : w1.cell? ⟨w.heap.size, 3, none⟩ = some (.int .u32 R.rem) := (cellAt HR1.out 3).trans rfl
      have r14 : w1.cell? ⟨w.heap.size, 4, none⟩ = some (.slice au nu cu) := (cellAt HR1.out 4).trans rfl
      have s10 : w1.cell? ⟨w.heap.size + 1, 0, none⟩ = some (.int .u32 s) := (cellAt HS1.out 0).trans rfl
      have s11 : w1.cell? ⟨w.heap.size + 1, 1, none⟩ = some (.int .u32 p) := (cellAt HS1.out 1).trans rfl
      clear hb1
      go_wp2_with fail
      refine (pk_noConflict ap cp R.packs s _ (HV.out _ HB1.out).packs HM.out.packs hs).mono ?_
      rintro e w2 ⟨rfl, hb2⟩
      rw [HE2.out]
      have HB2 : Hid (Below w.heap.size w w2) := HB1.out.trans (hb2.mono HB1.out.size)
      clear hb2
      go_wp2
      go_ret
      exact ⟨ret_int (by rw [HF.out]; rfl), HB2.out⟩
    | true =>
      have HE2 : Hid (ncM R.packs s = true) := h2
      cases h3 : emB R.stay p with
      | false =>
        have HE3 : Hid (emB R.stay p = false) := h3
        have HF : Hid (fbM R s p = 3) := by show _ = _; unfold fbM fm2 fm3 fm4 fm5 fm6; simp [h1, h2, h3]
        clear h1 h2 h3
        go_enter Tryd.func22, Tryd.ntmps22
        go_wp2_with fail
        refine (pk_needsMet ap cp R.packs s p _ (HV.out _ HB0.out).packs HM.out.packs hs hp).mono ?_
        rintro e w1 ⟨rfl, hb1⟩
        rw [HE1.out]
        have HB1 : Hid (Below w.heap.size w w1) := HB0.out.trans (hb1.mono (by simp; omega))
        have HR1 : Hid (w1.heap[w.heap.size]? = some (.cells #[.slice ap R.packs.length cp, .slice az nz cz, .slice ai ni ci, .int .u32 R.rem, .slice au nu cu] 61 (0, 0))) := blk_below hb1 HR0.out (ltAt HR0.out)
        have HS1 : Hid (w1.heap[w.heap.size + 1]? = some (.cells #[.int .u32 s, .int .u32 p] 64 (0, 0))) := blk_below hb1 HS0.out (ltAt HS0.out)
        have hlr1 := ltAt HR1.out
        have hls1 := ltAt HS1.out
        have r10 : w1.cell? ⟨w.heap.size, 0, none⟩ = some (.slice ap R.packs.length cp) := (cellAt HR1.out 0).trans rfl
        have r11 : w1.cell? ⟨w.heap.size, 1, none⟩ = some (.slice az nz cz) := (cellAt HR1.out 1).trans rfl
        have r12 : w1.cell? ⟨w.heap.size, 2, none⟩ = some (.slice ai ni ci) := (cellAt HR1.out 2).trans rfl
        have r13 : w1.cell? ⟨w.heap.size, 3, none⟩ = some (.int .u32 R.rem) := (cellAt HR1.out 3).trans rfl
        have r14 : w1.cell? ⟨w.heap.size, 4, none⟩ = some (.slice au nu cu) := (cellAt HR1.out 4).trans rfl
        have s10 : w1.cell? ⟨w.heap.size + 1, 0, none⟩ = some (.int .u32 s) := (cellAt HS1.out 0).trans rfl
        have s11 : w1.cell? ⟨w.heap.size + 1, 1, none⟩ = some (.int .u32 p) := (cellAt HS1.out 1).trans rfl
        clear hb1
        go_wp2_with fail
        refine (pk_noConflict ap cp R.packs s _ (HV.out _ HB1.out).packs HM.out.packs hs).mono ?_
        rintro e w2 ⟨rfl, hb2⟩
        rw [HE2.out]
        have HB2 : Hid (Below w.heap.size w w2) := HB1.out.trans (hb2.mono HB1.out.size)
        have HR2 : Hid (w2.heap[w.heap.size]? = some (.cells #[.slice ap R.packs.length cp, .slice az nz cz, .slice ai ni ci, .int .u32 R.rem, .slice au nu cu] 61 (0, 0))) := blk_below hb2 HR1.out (ltAt HR1.out)
        have HS2 : Hid (w2.heap[w.heap.size + 1]? = some (.cells #[.int .u32 s, .int .u32 p] 64 (0, 0))) := blk_below hb2 HS1.out (ltAt HS1.out)
        have hlr2 := ltAt HR2.out
        have hls2 := ltAt HS2.out
        have r20 : w2.cell? ⟨w.heap.size, 0, none⟩ = some (.slice ap R.packs.length cp) := (cellAt HR2.out 0).trans rfl
        have r21 : w2.cell? ⟨w.heap.size, 1, none⟩ = some (.slice az nz cz) := (cellAt HR2.out 1).trans rfl
        have r22 : w2.cell? ⟨w.heap.size, 2, none⟩ = some (.slice ai ni ci) := (cellAt HR2.out 2).trans rfl
        have r23 : w2.cell? ⟨w.heap.size, 3, none⟩ = some (.int .u32 R.rem) := (cellAt HR2.out 3).trans rfl
        have r24 : w2.cell? ⟨w.heap.size, 4, none⟩ = some (.slice au nu cu) := (cellAt HR2.out 4).trans rfl
        have s20 : w2.cell? ⟨w.heap.size + 1, 0, none⟩ = some (.int .u32 s) := (cellAt HS2.out 0).trans rfl
        have s21 : w2.cell? ⟨w.heap.size + 1, 1, none⟩ = some (.int .u32 p) := (cellAt HS2.out 1).trans rfl
        clear hb2
        go_wp2_with fail
        refine (pk_eachMet _ R.stay p _ (HV.out _ HB2.out).stay HM.out.stay hp).mono ?_
        rintro e w3 ⟨rfl, hb3⟩
        rw [HE3.out]
        have HB3 : Hid (Below w.heap.size w w3) := HB2.out.trans (hb3.mono HB2.out.size)
        clear hb3
        go_wp2
        go_ret
        exact ⟨ret_int (by rw [HF.out]; rfl), HB3.out⟩
      | true =>
        have HE3 : Hid (emB R.stay p = true) := h3
        cases h4 : emB R.ins p with
        | false =>
          have HE4 : Hid (emB R.ins p = false) := h4
          have HF : Hid (fbM R s p = 4) := by show _ = _; unfold fbM fm2 fm3 fm4 fm5 fm6; simp [h1, h2, h3, h4]
          clear h1 h2 h3 h4
          go_enter Tryd.func22, Tryd.ntmps22
          go_wp2_with fail
          refine (pk_needsMet ap cp R.packs s p _ (HV.out _ HB0.out).packs HM.out.packs hs hp).mono ?_
          rintro e w1 ⟨rfl, hb1⟩
          rw [HE1.out]
          have HB1 : Hid (Below w.heap.size w w1) := HB0.out.trans (hb1.mono (by simp; omega))
          have HR1 : Hid (w1.heap[w.heap.size]? = some (.cells #[.slice ap R.packs.length cp, .slice az nz cz, .slice ai ni ci, .int .u32 R.rem, .slice au nu cu] 61 (0, 0))) := blk_below hb1 HR0.out (ltAt HR0.out)
          have HS1 : Hid (w1.heap[w.heap.size + 1]? = some (.cells #[.int .u32 s, .int .u32 p] 64 (0, 0))) := blk_below hb1 HS0.out (ltAt HS0.out)
          have hlr1 := ltAt HR1.out
          have hls1 := ltAt HS1.out
          have r10 : w1.cell? ⟨w.heap.size, 0, none⟩ = some (.slice ap R.packs.length cp) := (cellAt HR1.out 0).trans rfl
          have r11 : w1.cell? ⟨w.heap.size, 1, none⟩ = some (.slice az nz cz) := (cellAt HR1.out 1).trans rfl
          have r12 : w1.cell? ⟨w.heap.size, 2, none⟩ = some (.slice ai ni ci) := (cellAt HR1.out 2).trans rfl
          have r13 : w1.cell? ⟨w.heap.size, 3, none⟩ = some (.int .u32 R.rem) := (cellAt HR1.out 3).trans rfl
          have r14 : w1.cell? ⟨w.heap.size, 4, none⟩ = some (.slice au nu cu) := (cellAt HR1.out 4).trans rfl
          have s10 : w1.cell? ⟨w.heap.size + 1, 0, none⟩ = some (.int .u32 s) := (cellAt HS1.out 0).trans rfl
          have s11 : w1.cell? ⟨w.heap.size + 1, 1, none⟩ = some (.int .u32 p) := (cellAt HS1.out 1).trans rfl
          clear hb1
          go_wp2_with fail
          refine (pk_noConflict ap cp R.packs s _ (HV.out _ HB1.out).packs HM.out.packs hs).mono ?_
          rintro e w2 ⟨rfl, hb2⟩
          rw [HE2.out]
          have HB2 : Hid (Below w.heap.size w w2) := HB1.out.trans (hb2.mono HB1.out.size)
          have HR2 : Hid (w2.heap[w.heap.size]? = some (.cells #[.slice ap R.packs.length cp, .slice az nz cz, .slice ai ni ci, .int .u32 R.rem, .slice au nu cu] 61 (0, 0))) := blk_below hb2 HR1.out (ltAt HR1.out)
          have HS2 : Hid (w2.heap[w.heap.size + 1]? = some (.cells #[.int .u32 s, .int .u32 p] 64 (0, 0))) := blk_below hb2 HS1.out (ltAt HS1.out)
          have hlr2 := ltAt HR2.out
          have hls2 := ltAt HS2.out
          have r20 : w2.cell? ⟨w.heap.size, 0, none⟩ = some (.slice ap R.packs.length cp) := (cellAt HR2.out 0).trans rfl
          have r21 : w2.cell? ⟨w.heap.size, 1, none⟩ = some (.slice az nz cz) := (cellAt HR2.out 1).trans rfl
          have r22 : w2.cell? ⟨w.heap.size, 2, none⟩ = some (.slice ai ni ci) := (cellAt HR2.out 2).trans rfl
          have r23 : w2.cell? ⟨w.heap.size, 3, none⟩ = some (.int .u32 R.rem) := (cellAt HR2.out 3).trans rfl
          have r24 : w2.cell? ⟨w.heap.size, 4, none⟩ = some (.slice au nu cu) := (cellAt HR2.out 4).trans rfl
          have s20 : w2.cell? ⟨w.heap.size + 1, 0, none⟩ = some (.int .u32 s) := (cellAt HS2.out 0).trans rfl
          have s21 : w2.cell? ⟨w.heap.size + 1, 1, none⟩ = some (.int .u32 p) := (cellAt HS2.out 1).trans rfl
          clear hb2
          go_wp2_with fail
          refine (pk_eachMet _ R.stay p _ (HV.out _ HB2.out).stay HM.out.stay hp).mono ?_
          rintro e w3 ⟨rfl, hb3⟩
          rw [HE3.out]
          have HB3 : Hid (Below w.heap.size w w3) := HB2.out.trans (hb3.mono HB2.out.size)
          have HR3 : Hid (w3.heap[w.heap.size]? = some (.cells #[.slice ap R.packs.length cp, .slice az nz cz, .slice ai ni ci, .int .u32 R.rem, .slice au nu cu] 61 (0, 0))) := blk_below hb3 HR2.out (ltAt HR2.out)
          have HS3 : Hid (w3.heap[w.heap.size + 1]? = some (.cells #[.int .u32 s, .int .u32 p] 64 (0, 0))) := blk_below hb3 HS2.out (ltAt HS2.out)
          have hlr3 := ltAt HR3.out
          have hls3 := ltAt HS3.out
          have r30 : w3.cell? ⟨w.heap.size, 0, none⟩ = some (.slice ap R.packs.length cp) := (cellAt HR3.out 0).trans rfl
          have r31 : w3.cell? ⟨w.heap.size, 1, none⟩ = some (.slice az nz cz) := (cellAt HR3.out 1).trans rfl
          have r32 : w3.cell? ⟨w.heap.size, 2, none⟩ = some (.slice ai ni ci) := (cellAt HR3.out 2).trans rfl
          have r33 : w3.cell? ⟨w.heap.size, 3, none⟩ = some (.int .u32 R.rem) := (cellAt HR3.out 3).trans rfl
          have r34 : w3.cell? ⟨w.heap.size, 4, none⟩ = some (.slice au nu cu) := (cellAt HR3.out 4).trans rfl
          have s30 : w3.cell? ⟨w.heap.size + 1, 0, none⟩ = some (.int .u32 s) := (cellAt HS3.out 0).trans rfl
          have s31 : w3.cell? ⟨w.heap.size + 1, 1, none⟩ = some (.int .u32 p) := (cellAt HS3.out 1).trans rfl
          clear hb3
          go_wp2_with fail
          refine (pk_eachMet _ R.ins p _ (HV.out _ HB3.out).ins HM.out.ins hp).mono ?_
          rintro e w4 ⟨rfl, hb4⟩
          rw [HE4.out]
          have HB4 : Hid (Below w.heap.size w w4) := HB3.out.trans (hb4.mono HB3.out.size)
          clear hb4
          go_wp2
          go_ret
          exact ⟨ret_int (by rw [HF.out]; rfl), HB4.out⟩
        | true =>
          have HE4 : Hid (emB R.ins p = true) := h4
          by_cases h5 : R.rem &&& s = 0
          rotate_left
          · have e5 : (((R.rem &&& s : Nat) : Int) != 0) = true := by rw [bne_iff_ne]; omega
            have HF : Hid (fbM R s p = 5) := by show _ = _; unfold fbM fm2 fm3 fm4 fm5 fm6; simp [h1, h2, h3, h4, h5]
            clear h1 h2 h3 h4 h5
            go_enter Tryd.func22, Tryd.ntmps22
            go_wp2_with fail
            refine (pk_needsMet ap cp R.packs s p _ (HV.out _ HB0.out).packs HM.out.packs hs hp).mono ?_
            rintro e w1 ⟨rfl, hb1⟩
            rw [HE1.out]
            have HB1 : Hid (Below w.heap.size w w1) := HB0.out.trans (hb1.mono (by simp; omega))
            have HR1 : Hid (w1.heap[w.heap.size]? = some (.cells #[.slice ap R.packs.length cp, .slice az nz cz, .slice ai ni ci, .int .u32 R.rem, .slice au nu cu] 61 (0, 0))) := blk_below hb1 HR0.out (ltAt HR0.out)
            have HS1 : Hid (w1.heap[w.heap.size + 1]? = some (.cells #[.int .u32 s, .int .u32 p] 64 (0, 0))) := blk_below hb1 HS0.out (ltAt HS0.out)
            have hlr1 := ltAt HR1.out
            have hls1 := ltAt HS1.out
            have r10 : w1.cell? ⟨w.heap.size, 0, none⟩ = some (.slice ap R.packs.length cp) := (cellAt HR1.out 0).trans rfl
            have r11 : w1.cell? ⟨w.heap.size, 1, none⟩ = some (.slice az nz cz) := (cellAt HR1.out 1).trans rfl
            have r12 : w1.cell? ⟨w.heap.size, 2, none⟩ = some (.slice ai ni ci) := (cellAt HR1.out 2).trans rfl
            have r13 : w1.cell? ⟨w.heap.size, 3, none⟩ = some (.int .u32 R.rem) := (cellAt HR1.out 3).trans rfl
            have r14 : w1.cell? ⟨w.heap.size, 4, none⟩ = some (.slice au nu cu) := (cellAt HR1.out 4).trans rfl
            have s10 : w1.cell? ⟨w.heap.size + 1, 0, none⟩ = some (.int .u32 s) := (cellAt HS1.out 0).trans rfl
            have s11 : w1.cell? ⟨w.heap.size + 1, 1, none⟩ = some (.int .u32 p) := (cellAt HS1.out 1).trans rfl
            clear hb1
            go_wp2_with fail
            refine (pk_noConflict ap cp R.packs s _ (HV.out _ HB1.out).packs HM.out.packs hs).mono ?_
            rintro e w2 ⟨rfl, hb2⟩
            rw [HE2.out]
            have HB2 : Hid (Below w.heap.size w w2) := HB1.out.trans (hb2.mono HB1.out.size)
            have HR2 : Hid (w2.heap[w.heap.size]? = some (.cells #[.slice ap R.packs.length cp, .slice az nz cz, .slice ai ni ci, .int .u32 R.rem, .slice au nu cu] 61 (0, 0))) := blk_below hb2 HR1.out (ltAt HR1.out)
            have HS2 : Hid (w2.heap[w.heap.size + 1]? = some (.cells #[.int .u32 s, .int .u32 p] 64 (0, 0))) := blk_below hb2 HS1.out (ltAt HS1.out)
            have hlr2 := ltAt HR2.out
            have hls2 := ltAt HS2.out
            have r20 : w2.cell? ⟨w.heap.size, 0, none⟩ = some (.slice ap R.packs.length cp) := (cellAt HR2.out 0).trans rfl
            have r21 : w2.cell? ⟨w.heap.size, 1, none⟩ = some (.slice az nz cz) := (cellAt HR2.out 1).trans rfl
            have r22 : w2.cell? ⟨w.heap.size, 2, none⟩ = some (.slice ai ni ci) := (cellAt HR2.out 2).trans rfl
            have r23 : w2.cell? ⟨w.heap.size, 3, none⟩ = some (.int .u32 R.rem) := (cellAt HR2.out 3).trans rfl
            have r24 : w2.cell? ⟨w.heap.size, 4, none⟩ = some (.slice au nu cu) := (cellAt HR2.out 4).trans rfl
            have s20 : w2.cell? ⟨w.heap.size + 1, 0, none⟩ = some (.int .u32 s) := (cellAt HS2.out 0).trans rfl
            have s21 : w2.cell? ⟨w.heap.size + 1, 1, none⟩ = some (.int .u32 p) := (cellAt HS2.out 1).trans rfl
            clear hb2
            go_wp2_with fail
            refine (pk_eachMet _ R.stay p _ (HV.out _ HB2.out).stay HM.out.stay hp).mono ?_
            rintro e w3 ⟨rfl, hb3⟩
            rw [HE3.out]
            have HB3 : Hid (Below w.heap.size w w3) := HB2.out.trans (hb3.mono HB2.out.size)
            have HR3 : Hid (w3.heap[w.heap.size]? = some (.cells #[.slice ap R.packs.length cp, .slice az nz cz, .slice ai ni ci, .int .u32 R.rem, .slice au nu cu] 61 (0, 0))) := blk_below hb3 HR2.out (ltAt HR2.out)
            have HS3 : Hid (w3.heap[w.heap.size + 1]? = some (.cells #[.int .u32 s, .int .u32 p] 64 (0, 0))) := blk_below hb3 HS2.out (ltAt HS2.out)
            have hlr3 := ltAt HR3.out
            have hls3 := ltAt HS3.out
            have r30 : w3.cell? ⟨w.heap.size, 0, none⟩ = some (.slice ap R.packs.length cp) := (cellAt HR3.out 0).trans rfl
            have r31 : w3.cell? ⟨w.heap.size, 1, none⟩ = some (.slice az nz cz) := (cellAt HR3.out 1).trans rfl
            have r32 : w3.cell? ⟨w.heap.size, 2, none⟩ = some (.slice ai ni ci) := (cellAt HR3.out 2).trans rfl
            have r33 : w3.cell? ⟨w.heap.size, 3, none⟩ = some (.int .u32 R.rem) := (cellAt HR3.out 3).trans rfl
            have r34 : w3.cell? ⟨w.heap.size, 4, none⟩ = some (.slice au nu cu) := (cellAt HR3.out 4).trans rfl
            have s30 : w3.cell? ⟨w.heap.size + 1, 0, none⟩ = some (.int .u32 s) := (cellAt HS3.out 0).trans rfl
            have s31 : w3.cell? ⟨w.heap.size + 1, 1, none⟩ = some (.int .u32 p) := (cellAt HS3.out 1).trans rfl
            clear hb3
            go_wp2_with fail
            refine (pk_eachMet _ R.ins p _ (HV.out _ HB3.out).ins HM.out.ins hp).mono ?_
            rintro e w4 ⟨rfl, hb4⟩
            rw [HE4.out]
            have HB4 : Hid (Below w.heap.size w w4) := HB3.out.trans (hb4.mono HB3.out.size)
            have HR4 : Hid (w4.heap[w.heap.size]? = some (.cells #[.slice ap R.packs.length cp, .slice az nz cz, .slice ai ni ci, .int .u32 R.rem, .slice au nu cu] 61 (0, 0))) := blk_below hb4 HR3.out (ltAt HR3.out)
            have HS4 : Hid (w4.heap[w.heap.size + 1]? = some (.cells #[.int .u32 s, .int .u32 p] 64 (0, 0))) := blk_below hb4 HS3.out (ltAt HS3.out)
            have hlr4 := ltAt HR4.out
            have hls4 := ltAt HS4.out
            have r40 : w4.cell? ⟨w.heap.size, 0, none⟩ = some (.slice ap R.packs.length cp) := (cellAt HR4.out 0).trans rfl
            have r41 : w4.cell? ⟨w.heap.size, 1, none⟩ = some (.slice az nz cz) := (cellAt HR4.out 1).trans rfl
            have r42 : w4.cell? ⟨w.heap.size, 2, none⟩ = some (.slice ai ni ci) := (cellAt HR4.out 2).trans rfl
            have r43 : w4.cell? ⟨w.heap.size, 3, none⟩ = some (.int .u32 R.rem) := (cellAt HR4.out 3).trans rfl
            have r44 : w4.cell? ⟨w.heap.size, 4, none⟩ = some (.slice au nu cu) := (cellAt HR4.out 4).trans rfl
            have s40 : w4.cell? ⟨w.heap.size + 1, 0, none⟩ = some (.int .u32 s) := (cellAt HS4.out 0).trans rfl
            have s41 : w4.cell? ⟨w.heap.size + 1, 1, none⟩ = some (.int .u32 p) := (cellAt HS4.out 1).trans rfl
            clear hb4
            go_wp2
            go_ret
            exact ⟨ret_int (by rw [HF.out]; rfl), HB4.out⟩
          have e5 : (((R.rem &&& s : Nat) : Int) != 0) = false := by rw [bne_eq_false_iff_eq]; omega
          cases h6 : R.upg.all (ug1 s p) with
          | false =>
            have HE6 : Hid (R.upg.all (ug1 s p) = false) := h6
            have HF : Hid (fbM R s p = 6) := by show _ = _; unfold fbM fm2 fm3 fm4 fm5 fm6; simp [h1, h2, h3, h4, h5, h6]
            clear h1 h2 h3 h4 h5 h6
            go_enter Tryd.func22, Tryd.ntmps22
            go_wp2_with fail
            refine (pk_needsMet ap cp R.packs s p _ (HV.out _ HB0.out).packs HM.out.packs hs hp).mono ?_
            rintro e w1 ⟨rfl, hb1⟩
            rw [HE1.out]
            have HB1 : Hid (Below w.heap.size w w1) := HB0.out.trans (hb1.mono (by simp; omega))
            have HR1 : Hid (w1.heap[w.heap.size]? = some (.cells #[.slice ap R.packs.length cp, .slice az nz cz, .slice ai ni ci, .int .u32 R.rem, .slice au nu cu] 61 (0, 0))) := blk_below hb1 HR0.out (ltAt HR0.out)
            have HS1 : Hid (w1.heap[w.heap.size + 1]? = some (.cells #[.int .u32 s, .int .u32 p] 64 (0, 0))) := blk_below hb1 HS0.out (ltAt HS0.out)
            have hlr1 := ltAt HR1.out
            have hls1 := ltAt HS1.out
            have r10 : w1.cell? ⟨w.heap.size, 0, none⟩ = some (.slice ap R.packs.length cp) := (cellAt HR1.out 0).trans rfl
            have r11 : w1.cell? ⟨w.heap.size, 1, none⟩ = some (.slice az nz cz) := (cellAt HR1.out 1).trans rfl
            have r12 : w1.cell? ⟨w.heap.size, 2, none⟩ = some (.slice ai ni ci) := (cellAt HR1.out 2).trans rfl
            have r13 : w1.cell? ⟨w.heap.size, 3, none⟩ = some (.int .u32 R.rem) := (cellAt HR1.out 3).trans rfl
            have r14 : w1.cell? ⟨w.heap.size, 4, none⟩ = some (.slice au nu cu) := (cellAt HR1.out 4).trans rfl
            have s10 : w1.cell? ⟨w.heap.size + 1, 0, none⟩ = some (.int .u32 s) := (cellAt HS1.out 0).trans rfl
            have s11 : w1.cell? ⟨w.heap.size + 1, 1, none⟩ = some (.int .u32 p) := (cellAt HS1.out 1).trans rfl
            clear hb1
            go_wp2_with fail
            refine (pk_noConflict ap cp R.packs s _ (HV.out _ HB1.out).packs HM.out.packs hs).mono ?_
            rintro e w2 ⟨rfl, hb2⟩
            rw [HE2.out]
            have HB2 : Hid (Below w.heap.size w w2) := HB1.out.trans (hb2.mono HB1.out.size)
            have HR2 : Hid (w2.heap[w.heap.size]? = some (.cells #[.slice ap R.packs.length cp, .slice az nz cz, .slice ai ni ci, .int .u32 R.rem, .slice au nu cu] 61 (0, 0))) := blk_below hb2 HR1.out (ltAt HR1.out)
            have HS2 : Hid (w2.heap[w.heap.size + 1]? = some (.cells #[.int .u32 s, .int .u32 p] 64 (0, 0))) := blk_below hb2 HS1.out (ltAt HS1.out)
            have hlr2 := ltAt HR2.out
            have hls2 := ltAt HS2.out
            have r20 : w2.cell? ⟨w.heap.size, 0, none⟩ = some (.slice ap R.packs.length cp) := (cellAt HR2.out 0).trans rfl
            have r21 : w2.cell? ⟨w.heap.size, 1, none⟩ = some (.slice az nz cz) := (cellAt HR2.out 1).trans rfl
            have r22 : w2.cell? ⟨w.heap.size, 2, none⟩ = some (.slice ai ni ci) := (cellAt HR2.out 2).trans rfl
            have r23 : w2.cell? ⟨w.heap.size, 3, none⟩ = some (.int .u32 R.rem) := (cellAt HR2.out 3).trans rfl
            have r24 : w2.cell? ⟨w.heap.size, 4, none⟩ = some (.slice au nu cu) := (cellAt HR2.out 4).trans rfl
            have s20 : w2.cell? ⟨w.heap.size + 1, 0, none⟩ = some (.int .u32 s) := (cellAt HS2.out 0).trans rfl
            have s21 : w2.cell? ⟨w.heap.size + 1, 1, none⟩ = some (.int .u32 p) := (cellAt HS2.out 1).trans rfl
            clear hb2
            go_wp2_with fail
            refine (pk_eachMet _ R.stay p _ (HV.out _ HB2.out).stay HM.out.stay hp).mono ?_
            rintro e w3 ⟨rfl, hb3⟩
            rw [HE3.out]
            have HB3 : Hid (Below w.heap.size w w3) := HB2.out.trans (hb3.mono HB2.out.size)
            have HR3 : Hid (w3.heap[w.heap.size]? = some (.cells #[.slice ap R.packs.length cp, .slice az nz cz, .slice ai ni ci, .int .u32 R.rem, .slice au nu cu] 61 (0, 0))) := blk_below hb3 HR2.out (ltAt HR2.out)
            have HS3 : Hid (w3.heap[w.heap.size + 1]? = some (.cells #[.int .u32 s, .int .u32 p] 64 (0, 0))) := blk_below hb3 HS2.out (ltAt HS2.out)
            have hlr3 := ltAt HR3.out
            have hls3 := ltAt HS3.out
            have r30 : w3.cell? ⟨w.heap.size, 0, none⟩ = some (.slice ap R.packs.length cp) := (cellAt HR3.out 0).trans rfl
            have r31 : w3.cell? ⟨w.heap.size, 1, none⟩ = some (.slice az nz cz) := (cellAt HR3.out 1).trans rfl
            have r32 : w3.cell? ⟨w.heap.size, 2, none⟩ = some (.slice ai ni ci) := (cellAt HR3.out 2).trans rfl
            have r33 : w3.cell? ⟨w.heap.size, 3, none⟩ = some (.int .u32 R.rem) := (cellAt HR3.out 3).trans rfl
            have r34 : w3.cell? ⟨w.heap.size, 4, none⟩ = some (.slice au nu cu) := (cellAt HR3.out 4).trans rfl
            have s30 : w3.cell? ⟨w.heap.size + 1, 0, none⟩ = some (.int .u32 s) := (cellAt HS3.out 0).trans rfl
            have s31 : w3.cell? ⟨w.heap.size + 1, 1, none⟩ = some (.int .u32 p) := (cellAt HS3.out 1).trans rfl
            clear hb3
            go_wp2_with fail
            refine (pk_eachMet _ R.ins p _ (HV.out _ HB3.out).ins HM.out.ins hp).mono ?_
            rintro e w4 ⟨rfl, hb4⟩
            rw [HE4.out]
            have HB4 : Hid (Below w.heap.size w w4) := HB3.out.trans (hb4.mono HB3.out.size)
            have HR4 : Hid (w4.heap[w.heap.size]? = some (.cells #[.slice ap R.packs.length cp, .slice az nz cz, .slice ai ni ci, .int .u32 R.rem, .slice au nu cu] 61 (0, 0))) := blk_below hb4 HR3.out (ltAt HR3.out)
            have HS4 : Hid (w4.heap[w.heap.size + 1]? = some (.cells #[.int .u32 s, .int .u32 p] 64 (0, 0))) := blk_below hb4 HS3.out (ltAt HS3.out)
            have hlr4 := ltAt HR4.out
            have hls4 := ltAt HS4.out
            have r40 : w4.cell? ⟨w.heap.size, 0, none⟩ = some (.slice ap R.packs.length cp) := (cellAt HR4.out 0).trans rfl
            have r41 : w4.cell? ⟨w.heap.size, 1, none⟩ = some (.slice az nz cz) := (cellAt HR4.out 1).trans rfl
            have r42 : w4.cell? ⟨w.heap.size, 2, none⟩ = some (.slice ai ni ci) := (cellAt HR4.out 2).trans rfl
            have r43 : w4.cell? ⟨w.heap.size, 3, none⟩ = some (.int .u32 R.rem) := (cellAt HR4.out 3).trans rfl
            have r44 : w4.cell? ⟨w.heap.size, 4, none⟩ = some (.slice au nu cu) := (cellAt HR4.out 4).trans rfl
            have s40 : w4.cell? ⟨w.heap.size + 1, 0, none⟩ = some (.int .u32 s) := (cellAt HS4.out 0).trans rfl
            have s41 : w4.cell? ⟨w.heap.size + 1, 1, none⟩ = some (.int .u32 p) := (cellAt HS4.out 1).trans rfl
            clear hb4
            go_wp2_with fail
            refine (pk_upgraded _ R.upg s p _ (HV.out _ HB4.out).upg HM.out.upg hs hp).mono ?_
            rintro e w5 ⟨rfl, hb5⟩
            rw [HE6.out]
            have HB5 : Hid (Below w.heap.size w w5) := HB4.out.trans (hb5.mono HB4.out.size)
            clear hb5
            go_wp2
            go_ret
            exact ⟨ret_int (by rw [HF.out]; rfl), HB5.out⟩
          | true =>
            have HE6 : Hid (R.upg.all (ug1 s p) = true) := h6
            have HF : Hid (fbM R s p = 0) := by show _ = _; unfold fbM fm2 fm3 fm4 fm5 fm6; simp [h1, h2, h3, h4, h5, h6]
            clear h1 h2 h3 h4 h5 h6
            go_enter Tryd.func22, Tryd.ntmps22
            go_wp2_with fail
            refine (pk_needsMet ap cp R.packs s p _ (HV.out _ HB0.out).packs HM.out.packs hs hp).mono ?_
            rintro e w1 ⟨rfl, hb1⟩
            rw [HE1.out]
            have HB1 : Hid (Below w.heap.size w w1) := HB0.out.trans (hb1.mono (by simp; omega))
            have HR1 : Hid (w1.heap[w.heap.size]? = some (.cells #[.slice ap R.packs.length cp, .slice az nz cz, .slice ai ni ci, .int .u32 R.rem, .slice au nu cu] 61 (0, 0))) := blk_below hb1 HR0.out (ltAt HR0.out)
            have HS1 : Hid (w1.heap[w.heap.size + 1]? = some (.cells #[.int .u32 s, .int .u32 p] 64 (0, 0))) := blk_below hb1 HS0.out (ltAt HS0.out)
            have hlr1 := ltAt HR1.out
            have hls1 := ltAt HS1.out
            have r10 : w1.cell? ⟨w.heap.size, 0, none⟩ = some (.slice ap R.packs.length cp) := (cellAt HR1.out 0).trans rfl
            have r11 : w1.cell? ⟨w.heap.size, 1, none⟩ = some (.slice az nz cz) := (cellAt HR1.out 1).trans rfl
            have r12 : w1.cell? ⟨w.heap.size, 2, none⟩ = some (.slice ai ni ci) := (cellAt HR1.out 2).trans rfl
            have r13 : w1.cell? ⟨w.heap.size, 3, none⟩ = some (.int .u32 R.rem) := (cellAt HR1.out 3).trans rfl
            have r14 : w1.cell? ⟨w.heap.size, 4, none⟩ = some (.slice au nu cu) := (cellAt HR1.out 4).trans rfl
            have s10 : w1.cell? ⟨w.heap.size + 1, 0, none⟩ = some (.int .u32 s) := (cellAt HS1.out 0).trans rfl
            have s11 : w1.cell? ⟨w.heap.size + 1, 1, none⟩ = some (.int .u32 p) := (cellAt HS1.out 1).trans rfl
            clear hb1
            go_wp2_with fail
            refine (pk_noConflict ap cp R.packs s _ (HV.out _ HB1.out).packs HM.out.packs hs).mono ?_
            rintro e w2 ⟨rfl, hb2⟩
            rw [HE2.out]
            have HB2 : Hid (Below w.heap.size w w2) := HB1.out.trans (hb2.mono HB1.out.size)
            have HR2 : Hid (w2.heap[w.heap.size]? = some (.cells #[.slice ap R.packs.length cp, .slice az nz cz, .slice ai ni ci, .int .u32 R.rem, .slice au nu cu] 61 (0, 0))) := blk_below hb2 HR1.out (ltAt HR1.out)
            have HS2 : Hid (w2.heap[w.heap.size + 1]? = some (.cells #[.int .u32 s, .int .u32 p] 64 (0, 0))) := blk_below hb2 HS1.out (ltAt HS1.out)
            have hlr2 := ltAt HR2.out
            have hls2 := ltAt HS2.out
            have r20 : w2.cell? ⟨w.heap.size, 0, none⟩ = some (.slice ap R.packs.length cp) := (cellAt HR2.out 0).trans rfl
            have r21 : w2.cell? ⟨w.heap.size, 1, none⟩ = some (.slice az nz cz) := (cellAt HR2.out 1).trans rfl
            have r22 : w2.cell? ⟨w.heap.size, 2, none⟩ = some (.slice ai ni ci) := (cellAt HR2.out 2).trans rfl
            have r23 : w2.cell? ⟨w.heap.size, 3, none⟩ = some (.int .u32 R.rem) := (cellAt HR2.out 3).trans rfl
            have r24 : w2.cell? ⟨w.heap.size, 4, none⟩ = some (.slice au nu cu) := (cellAt HR2.out 4).trans rfl
            have s20 : w2.cell? ⟨w.heap.size + 1, 0, none⟩ = some (.int .u32 s) := (cellAt HS2.out 0).trans rfl
            have s21 : w2.cell? ⟨w.heap.size + 1, 1, none⟩ = some (.int .u32 p) := (cellAt HS2.out 1).trans rfl
            clear hb2
            go_wp2_with fail
            refine (pk_eachMet _ R.stay p _ (HV.out _ HB2.out).stay HM.out.stay hp).mono ?_
            rintro e w3 ⟨rfl, hb3⟩
            rw [HE3.out]
            have HB3 : Hid (Below w.heap.size w w3) := HB2.out.trans (hb3.mono HB2.out.size)
            have HR3 : Hid (w3.heap[w.heap.size]? = some (.cells #[.slice ap R.packs.length cp, .slice az nz cz, .slice ai ni ci, .int .u32 R.rem, .slice au nu cu] 61 (0, 0))) := blk_below hb3 HR2.out (ltAt HR2.out)
            have HS3 : Hid (w3.heap[w.heap.size + 1]? = some (.cells #[.int .u32 s, .int .u32 p] 64 (0, 0))) := blk_below hb3 HS2.out (ltAt HS2.out)
            have hlr3 := ltAt HR3.out
            have hls3 := ltAt HS3.out
            have r30 : w3.cell? ⟨w.heap.size, 0, none⟩ = some (.slice ap R.packs.length cp) := (cellAt HR3.out 0).trans rfl
            have r31 : w3.cell? ⟨w.heap.size, 1, none⟩ = some (.slice az nz cz) := (cellAt HR3.out 1).trans rfl
            have r32 : w3.cell? ⟨w.heap.size, 2, none⟩ = some (.slice ai ni ci) := (cellAt HR3.out 2).trans rfl
            have r33 : w3.cell? ⟨w.heap.size, 3, none⟩ = some (.int .u32 R.rem) := (cellAt HR3.out 3).trans rfl
            have r34 : w3.cell? ⟨w.heap.size, 4, none⟩ = some (.slice au nu cu) := (cellAt HR3.out 4).trans rfl
            have s30 : w3.cell? ⟨w.heap.size + 1, 0, none⟩ = some (.int .u32 s) := (cellAt HS3.out 0).trans rfl
            have s31 : w3.cell? ⟨w.heap.size + 1, 1, none⟩ = some (.int .u32 p) := (cellAt HS3.out 1).trans rfl
            clear hb3
            go_wp2_with fail
            refine (pk_eachMet _ R.ins p _ (HV.out _ HB3.out).ins HM.out.ins hp).mono ?_
            rintro e w4 ⟨rfl, hb4⟩
            rw [HE4.out]
            have HB4 : Hid (Below w.heap.size w w4) := HB3.out.trans (hb4.mono HB3.out.size)
            have HR4 : Hid (w4.heap[w.heap.size]? = some (.cells #[.slice ap R.packs.length cp, .slice az nz cz, .slice ai ni ci, .int .u32 R.rem, .slice au nu cu] 61 (0, 0))) := blk_below hb4 HR3.out (ltAt HR3.out)
            have HS4 : Hid (w4.heap[w.heap.size + 1]? = some (.cells #[.int .u32 s, .int .u32 p] 64 (0, 0))) := blk_below hb4 HS3.out (ltAt HS3.out)
            have hlr4 := ltAt HR4.out
            have hls4 := ltAt HS4.out
            have r40 : w4.cell? ⟨w.heap.size, 0, none⟩ = some (.slice ap R.packs.length cp) := (cellAt HR4.out 0).trans rfl
            have r41 : w4.cell? ⟨w.heap.size, 1, none⟩ = some (.slice az nz cz) := (cellAt HR4.out 1).trans rfl
            have r42 : w4.cell? ⟨w.heap.size, 2, none⟩ = some (.slice ai ni ci) := (cellAt HR4.out 2).trans rfl
            have r43 : w4.cell? ⟨w.heap.size, 3, none⟩ = some (.int .u32 R.rem) := (cellAt HR4.out 3).trans rfl
            have r44 : w4.cell? ⟨w.heap.size, 4, none⟩ = some (.slice au nu cu) := (cellAt HR4.out 4).trans rfl
            have s40 : w4.cell? ⟨w.heap.size + 1, 0, none⟩ = some (.int .u32 s) := (cellAt HS4.out 0).trans rfl
            have s41 : w4.cell? ⟨w.heap.size + 1, 1, none⟩ = some (.int .u32 p) := (cellAt HS4.out 1).trans rfl
            clear hb4
            go_wp2_with fail
            refine (pk_upgraded _ R.upg s p _ (HV.out _ HB4.out).upg HM.out.upg hs hp).mono ?_
            rintro e w5 ⟨rfl, hb5⟩
            rw [HE6.out]
            have HB5 : Hid (Below w.heap.size w w5) := HB4.out.trans (hb5.mono HB4.out.size)
            clear hb5
            go_wp2
            go_ret
            exact ⟨ret_int (by rw [HF.out]; rfl), HB5.out⟩

end Go.Proofs.YtenbnmbbfeekpaaDoor
