import Derived.Test.YtdfnnpakdbhhpaaGreatDoorRfC
namespace Go.Proofs.YtdfnnpakdbhhpaaGreatDoor
open Go.RowKit

theorem ref_usual44 (v : Value) (l : List (List UInt8)) (w : World) (hl : l.length ≤ 2000) (hM : ∀ a ∈ l, a.length ≤ 3000000) (hst : StAt w v l) :
    Calls Tryz.prog 59 #[v, .int .u8 44] w fun e w' => e = .returned (.string (bs (ordT [44] l))) ∧ Below w.heap.size w w' := ref_usual v l 44 44 rfl (by omega) w hl hM hst

theorem threeV {g : Nat} {W w' : World} (hb : Below W.heap.size W w') {a b c : Value} (h : W.cell? ⟨g, 1, none⟩ = some a ∧ W.cell? ⟨g, 2, none⟩ = some b ∧ W.cell? ⟨g, 3, none⟩ = some c) : w'.cell? ⟨g, 1, none⟩ = some a ∧ w'.cell? ⟨g, 2, none⟩ = some b ∧ w'.cell? ⟨g, 3, none⟩ = some c := by
  have hl : g < W.heap.size := World.block_lt_of_cell? _ _ h.1
  exact ⟨(hb.cell (p := ⟨g, 1, none⟩) hl).trans h.1, (hb.cell (p := ⟨g, 2, none⟩) hl).trans h.2.1, (hb.cell (p := ⟨g, 3, none⟩) hl).trans h.2.2⟩

set_option maxHeartbeats 6400000 in
set_option maxRecDepth 100000 in
theorem ref_Show (s : ByteArray) (w : World) (hs : s.size ≤ maxLen) : Calls Tryz.prog 29 #[.string s] w fun e w' => e = .returned (.tuple #[.string (bs (rshT s.data.toList)), .int .i64 (rdE s.data.toList)]) ∧ Below w.heap.size w w' := by
  by_cases h : rdE s.data.toList = 0
  · obtain ⟨r1, r2, r3, r4, _⟩ := rd_ok h
    have hsm := dc_small r2 (by rw [← r1]; exact r3)
    have HT : Hid (rshT s.data.toList = rdcS (dcV s.data.toList)) := by show _ = _; unfold rshT; rw [if_pos h]
    have HE : Hid (rdE s.data.toList = 0) := h
    have hs8 : s.size ≤ 800 := by rw [← sz]; exact r3
    have hnd : ∀ p ∈ (dcV s.data.toList).packs, ∀ n ∈ p.needs, (ndT n).length ≤ 800 := by
      intro p hp n hn
      have e : dcT (dcV s.data.toList) = joinT 47 [pksT (dcV s.data.toList).packs, lsT (dcV s.data.toList).ins, lsT (dcV s.data.toList).rem, lsT (dcV s.data.toList).upg] := by simp [dcT, joinT]
      have h0 := join_len (c := 47) (l := [pksT (dcV s.data.toList).packs, lsT (dcV s.data.toList).ins, lsT (dcV s.data.toList).rem, lsT (dcV s.data.toList).upg]) (a := pksT (dcV s.data.toList).packs) (by simp)
      rw [← e, ← r1] at h0
      have h4 : (pkB p).length ≤ (pksT (dcV s.data.toList).packs).length := by rw [pks_join]; exact join_len (by simp; left; exact ⟨p, hp, rfl⟩)
      have h5 := join_len (c := 58) (l := [pkH p, nsT p.needs, lsT p.conf, nmT p.prov]) (a := nsT p.needs) (by simp)
      have c5 : (ndT n).length ≤ (nsT p.needs).length := join_len (by simp; exact ⟨n, hn, rfl⟩)
      unfold pkB at h4
      omega
    have HOK : Hid (DcOk (dcV s.data.toList)) := r2
    have HR1 : Hid (s.data.toList = dcT (dcV s.data.toList)) := r1
    clear r1 r2 r3 h
    generalize hd : dcV s.data.toList = d at *
    have HSM : Hid (DcSm d) := hsm
    have HND : Hid _ := hnd
    have hpl := hsm.packs
    clear hd hsm hnd
    go_enter Tryz.func29, Tryz.ntmps29
    go_wp2_with fail
    refine (ref_Check s _ hs).mono ?_
    rintro e w1 ⟨rfl, hb1⟩
    have HB1 : Hid (Below w.heap.size w w1) := hb1
    have hz : ((rdE s.data.toList : Int) != 0) = false := by rw [HE.out]; rfl
    clear hb1
    go_wp2_with fail
    refine (ref_read d HOK.out s HR1.out _ hs8).mono ?_
    rintro e w2 ⟨ap, np, cp, ai, ni, ci, ar, nr, cr, au, nu, cu, rfl, hd, hb2⟩
    have hnp : np = d.packs.length := by
      rcases rpks_row2 hd.1 with ⟨h, h0⟩ | ⟨g, cap, h, _⟩
      · injection h with _ h _; rw [h0]; exact h
      · injection h with _ h _
    subst hnp
    have hrow : ∀ j (h : j < d.packs.length), ∃ g, ap = some ⟨g, 0, none⟩ ∧ g < w2.heap.size ∧ ∃ an nn cn ac nc cc ap np cp, (w2.cell? ⟨g, j * 5, none⟩ = some (.string (bs [b8 d.packs[j].n, b8 d.packs[j].v])) ∧ w2.cell? ⟨g, j * 5 + 1, none⟩ = some (.string (bs (mkT d.packs[j].m))) ∧
      w2.cell? ⟨g, j * 5 + 2, none⟩ = some (.slice an nn cn) ∧ w2.cell? ⟨g, j * 5 + 3, none⟩ = some (.slice ac nc cc) ∧ w2.cell? ⟨g, j * 5 + 4, none⟩ = some (.slice ap np cp)) ∧ RPkAt w2 d.packs[j] (.slice an nn cn) (.slice ac nc cc) (.slice ap np cp) := by
      intro j hj
      rcases rpks_row2 hd.1 with ⟨_, h0⟩ | ⟨g, cap, h, hg, hx⟩
      · rw [h0] at hj; simp at hj
      · injection h with h _ _
        exact ⟨g, h, hg, hx j hj⟩
    have HR : Hid _ := hrow
    have HD : Hid (RDcAt w2 d (.slice ap d.packs.length cp) (.slice ai ni ci) (.slice ar nr cr) (.slice au nu cu)) := hd
    have HB2 : Hid (Below w.heap.size w w2) := HB1.out.trans (hb2.mono HB1.out.size)
    have hw2 : w.heap.size ≤ w2.heap.size := HB2.out.size
    clear hrow hd hb2 HB1 HR1
    generalize hps : d.packs = ps at *
    have HPS : Hid (d.packs = ps) := hps
    clear hps
    obtain ⟨i0, hi, hz0, hz1, hz2⟩ := info_parts Tryz.infoStr
    go_wp2
    go_loopw [7, 8] (fun o i wr => ∃ k : Nat, k ≤ ps.length ∧ i = .int .i64 k ∧ wr.ownsRow (w2.heap.size + 1) 9 1 o k ((ps.map fun c => strV (pkS0 c)).take k) ∧ Below w2.heap.size w2 wr ∧ wr.heap[w2.heap.size]? = some (.cells #[.slice ap ps.length cp, .slice ai ni ci, .slice ar nr cr, .slice au nu cu] 69 (0, 0))) (fun _ i _ => ps.length - (intOf i).toNat)
    case atStart => exact ⟨0, by omega, rfl, World.ownsRow_nil _ _ _ _, (Below.refl _ _).alloc (Nat.le_refl _) _, blk_new _ _⟩
    case round =>
      obtain ⟨k, hk, rfl, hown, hb, hblk⟩ := hrel
      have hbs := hb.size
      have hHlt := ltAt hblk
      by_cases hlt : k < ps.length
      · obtain ⟨g, rfl, hg, an, nn, cn, ac, nc, cc, ap', np, cp', ⟨x0, x1, x2, x3, x4⟩, hpk⟩ := HR.out k hlt
        rw [← hb.cell (p := ⟨g, _, none⟩) hg] at x0 x1 x2 x3 x4
        have hmem : ps[k] ∈ d.packs := by rw [HPS.out]; exact List.getElem_mem _
        have hpo : PkOk ps[k] := HOK.out.packs _ hmem
        have hpsm : PkSm ps[k] := HSM.out.pack _ hmem
        have hnd2 : ∀ n ∈ ps[k].needs, n.length ≤ 801 ∧ (ndT n).length ≤ 800 := fun n hn => ⟨hpsm.need n hn, HND.out _ (List.getElem_mem _) n hn⟩
        have HS : Hid ((ps.map (fun c => strV (pkS0 c))).take (k + 1) = (ps.map (fun c => strV (pkS0 c))).take k ++ [strV (pkS0 ps[k])]) := by show _ = _; rw [List.take_succ_eq_append_getElem (by simpa using hlt), List.getElem_map]
        have m0 : wr.cell? ⟨w2.heap.size, 0, none⟩ = some (.slice (some ⟨g, 0, none⟩) ps.length cp) := by rw [cellAt hblk]; rfl
        have hpk1 := hpk.1.below hb
        have hpk2 := hpk.2.1.below hb
        have hpk3 := hpk.2.2.below hb
        clear hpk hmem
        generalize ps[k] = P at *
        have HP1 : Hid (StAt wr (.slice an nn cn) (P.needs.map ndT)) := hpk1
        have HP2 : Hid (StAt wr (.slice ac nc cc) (P.conf.map cnT)) := hpk2
        have HP3 : Hid (StAt wr (.slice ap' np cp') (P.prov.map fun c => [b8 c])) := hpk3
        have HPO : Hid (PkOk P ∧ PkSm P) := ⟨hpo, hpsm⟩
        have HN2 : Hid (∀ n ∈ P.needs, n.length ≤ 801 ∧ (ndT n).length ≤ 800) := hnd2
        have HBK : Hid _ := hblk
        have HO : Hid _ := hown
        have HB : Hid (Below w2.heap.size w2 wr) := hb
        clear hpk1 hpk2 hpk3 hpo hpsm hnd2 hblk hb hown
        go_wp2_with fail
        obtain ⟨W, hW⟩ : ∃ W, W = wr.alloc (.cells #[.string (bs [b8 P.n, b8 P.v]), .string (bs (mkT P.m)), .slice an nn cn, .slice ac nc cc, .slice ap' np cp'] 101) := ⟨_, rfl⟩
        have hWb : W.heap[wr.heap.size]? = some (.cells #[.string (bs [b8 P.n, b8 P.v]), .string (bs (mkT P.m)), .slice an nn cn, .slice ac nc cc, .slice ap' np cp'] 101 (0, 0)) := by rw [hW]; exact blk_new _ _
        have HWB : Hid (Below wr.heap.size wr W) := by show Below _ _ _; rw [hW]; exact (Below.refl _ _).alloc (Nat.le_refl _) _
        have k0 : W.cell? ⟨wr.heap.size, 0, none⟩ = some (.string (bs [b8 P.n, b8 P.v])) := by rw [cellAt hWb]; rfl
        have k1 : W.cell? ⟨wr.heap.size, 1, none⟩ = some (.string (bs (mkT P.m))) := by rw [cellAt hWb]; rfl
        have k2 : W.cell? ⟨wr.heap.size, 2, none⟩ = some (.slice an nn cn) := by rw [cellAt hWb]; rfl
        have k3 : W.cell? ⟨wr.heap.size, 3, none⟩ = some (.slice ac nc cc) := by rw [cellAt hWb]; rfl
        have k4 : W.cell? ⟨wr.heap.size, 4, none⟩ = some (.slice ap' np cp') := by rw [cellAt hWb]; rfl
        rw [← hW]
        have s0 : (bs [b8 P.n, b8 P.v]).size ≤ 2 := by rw [bs_size]; simp
        have s1 : (bs (mkT P.m)).size ≤ 2 := by rw [bs_size]; exact mkT_len _
        have s2 : (bs (ordT [44] (P.needs.map ndS))).size ≤ 2600000 := by rw [bs_size]; exact nsS_len _ HPO.out.2.needs HPO.out.2.need
        have s3 : (bs (ordT [44] (P.conf.map cnT))).size ≤ 4000 := by rw [bs_size]; exact csS_len _ HPO.out.2.conf
        have s4 : (bs (ordT [44] (P.prov.map fun c => [b8 c]))).size ≤ 2000 := by rw [bs_size]; exact nmS_len _ HPO.out.2.prov
        have HE0 : Hid (bs (pkS0 P) = bs [b8 P.n, b8 P.v] ++ bs (mkT P.m) ++ bs [58] ++ bs (ordT [44] (P.needs.map ndS)) ++ bs [58] ++ bs (ordT [44] (P.conf.map cnT)) ++ bs [58] ++ bs (ordT [44] (P.prov.map fun c => [b8 c]))) := by
          show _ = _; simp only [bs_app]; rfl
        have g0 : ¬ 9223372036854775807 < (bs [b8 P.n, b8 P.v]).size + (bs (mkT P.m)).size := by omega
        have g1 : ¬ 9223372036854775807 < (bs [b8 P.n, b8 P.v]).size + (bs (mkT P.m)).size + 1 := by omega
        have g2 : ¬ 9223372036854775807 < (bs [b8 P.n, b8 P.v]).size + (bs (mkT P.m)).size + 1 + (bs (ordT [44] (P.needs.map ndS))).size := by omega
        have g3 : ¬ 9223372036854775807 < (bs [b8 P.n, b8 P.v]).size + (bs (mkT P.m)).size + 1 + (bs (ordT [44] (P.needs.map ndS))).size + 1 := by omega
        have g4 : ¬ 9223372036854775807 < (bs [b8 P.n, b8 P.v]).size + (bs (mkT P.m)).size + 1 + (bs (ordT [44] (P.needs.map ndS))).size + 1 + (bs (ordT [44] (P.conf.map cnT))).size := by omega
        have g5 : ¬ 9223372036854775807 < (bs [b8 P.n, b8 P.v]).size + (bs (mkT P.m)).size + 1 + (bs (ordT [44] (P.needs.map ndS))).size + 1 + (bs (ordT [44] (P.conf.map cnT))).size + 1 := by omega
        have g6 : ¬ 9223372036854775807 < (bs [b8 P.n, b8 P.v]).size + (bs (mkT P.m)).size + 1 + (bs (ordT [44] (P.needs.map ndS))).size + 1 + (bs (ordT [44] (P.conf.map cnT))).size + 1 + (bs (ordT [44] (P.prov.map fun c => [b8 c]))).size := by omega
        clear hW hWb x0 x1 x2 x3 x4
        go_cut [10] from 22 to 57 (fun t wx => t = .string (bs (pkS0 P)) ∧ Below W.heap.size W wx)
        case first =>
          go_region_held3 (fun w' => w'.cell? ⟨wr.heap.size, 0, none⟩ = some (.string (bs [b8 P.n, b8 P.v])) ∧ w'.cell? ⟨wr.heap.size, 1, none⟩ = some (.string (bs (mkT P.m))) ∧ w'.cell? ⟨wr.heap.size, 2, none⟩ = some (.slice an nn cn) ∧ w'.cell? ⟨wr.heap.size, 3, none⟩ = some (.slice ac nc cc) ∧ w'.cell? ⟨wr.heap.size, 4, none⟩ = some (.slice ap' np cp')) (repeat (first | exact ⟨k0, k1, k2, k3, k4⟩ | refine five (by assumption) ?_))
            (first
              | (go_at_call 58; refine (ref_usualNeeds (.slice an nn cn) P.needs _ HPO.out.2.needs HN2.out HPO.out.1.needs (by exact (HP1.out.below HWB.out).drew)).mono ?_; rintro e wa ⟨rfl, hba⟩; have hCa := ((HP2.out.below HWB.out).drew).below hba; have hPa := ((HP3.out.below HWB.out).drew).below hba; unfold strV)
              | (go_at_call_of 59 (Value.slice ac nc cc); refine (ref_usual44 (.slice ac nc cc) (P.conf.map cnT) _ (by have := HPO.out.2.conf; simp; omega) (fun a ha => by obtain ⟨c, _, rfl⟩ := List.mem_map.1 ha; have := cnT_len c; omega) (by exact hCa)).mono ?_; rintro e wb ⟨rfl, hbb⟩; have hPb := hPa.below hbb)
              | (go_at_call_of 59 (Value.slice ap' np cp'); refine (ref_usual44 (.slice ap' np cp') (P.prov.map fun c => [b8 c]) _ (by have := HPO.out.2.prov; simp; omega) (fun a ha => by obtain ⟨c, _, rfl⟩ := List.mem_map.1 ha; simp) (by exact hPb)).mono ?_; rintro e wc ⟨rfl, hbc⟩))
          all_goals (try go_wp2_with fail)
          all_goals go_meet
          all_goals exact ⟨by rw [HE0.out]; rfl, ((below_drew hba).trans (hbb.mono (below_drew hba).size)).trans (hbc.mono (Nat.le_trans (below_drew hba).size hbb.size))⟩
        case rest =>
          obtain ⟨rfl, hbx⟩ := hcut
          have hbwr : Below wr.heap.size wr wc := HWB.out.trans (hbx.mono HWB.out.size)
          have hsz := hbwr.size
          have hownc := World.ownsRow.kept (row := none) HO.out ⟨hbwr.os, hbwr.tape, hbwr.output, hbwr.size, fun k hk _ => hbwr.block k hk⟩ (by rcases Value.ownBlock _ with _ | k <;> simp)
          have HBc : Hid (Below w2.heap.size w2 wc) := HB.out.trans (hbwr.mono hbs)
          have HBKc : Hid (wc.heap[w2.heap.size]? = _) := blk_below hbwr HBK.out (ltAt HBK.out)
          unfold strV at *
          clear hbx hbwr HO HB HBK HWB k0 k1 k2 k3 k4 m0 s0 s1 s2 s3 s4
          go_wp2_with (at_builtin; refine wpList_append_own _ rfl _ _ 67 rfl (w2.heap.size + 1) 9 i0 (.string ByteArray.empty) 1 16 Tryz.underlying67 hi hz0 hz1 hz2 rfl (by decide) _ _ _ rfl (hownc.alloc _) ⟨wc.heap.size, 0, none⟩ 1 1 [.string (bs (pkS0 P))] rfl rfl ?c1 ?c2 ?c3 ?c4 ?c5 ?_)
          case c1 => exact cell_one_new _ _ _
          case c2 => intro u hu; simp at hu; subst hu; rfl
          case c3 => unfold maxLen; omega
          case c4 => omega
          case c5 => simp; omega
          intro v' w3 hown' hgrow _
          have HB3 : Hid (Below w2.heap.size w2 w3) := (HBc.out.alloc (by omega) _).grown hgrow (by simp; omega) (fun j hj => by have := (hownc.lt j hj).1; omega)
          have HBK3 : Hid (w3.heap[w2.heap.size]? = _) := (hgrow.block w2.heap.size (by simp; omega) (fun e => by have := (hownc.lt _ e.symm).1; omega)).trans (blk_old HBKc.out _)
          have HO3 : Hid (w3.ownsRow (w2.heap.size + 1) 9 1 v' (k + 1) ((ps.map fun c => Value.string (bs (pkS0 c))).take (k + 1))) := by show World.ownsRow _ _ _ _ _ _ _; rw [HS.out]; exact hown'
          clear hown' hgrow hownc
          go_wp2
          go_roundw
          case rel => first | exact ⟨k + 1, by omega, by go_num, HO3.out, HB3.out, HBK3.out⟩ | ((repeat apply Exists.intro); exact ⟨⟨k + 1, by omega, by go_num, HO3.out, HB3.out, HBK3.out⟩, rfl⟩)
          case measure => simp [intOf]; omega
      · have hkl : k = ps.length := by omega
        have hst := StAt.ofMap (f := pkS0) hown hkl
        have HST : Hid _ := hst
        have HDr : Hid (RDcAt wr d (.slice ap ps.length cp) (.slice ai ni ci) (.slice ar nr cr) (.slice au nu cu)) := HD.out.below hb
        have HBr : Hid (Below w.heap.size w wr) := HB2.out.trans (hb.mono hw2)
        have HBK : Hid _ := hblk
        have y0 : wr.cell? ⟨w2.heap.size, 0, none⟩ = some (.slice ap ps.length cp) := by rw [cellAt hblk]; rfl
        obtain ⟨aL, cL, hvL⟩ : ∃ a c, u7 = .slice a ps.length c := by
          rcases own_shape hown with ⟨h, h0⟩ | ⟨gL, cL, h, _⟩
          · exact ⟨none, 0, by rw [h]; congr 1; omega⟩
          · exact ⟨_, _, by rw [h, hkl]⟩
        subst hvL
        clear hst hown hb hkl hblk HD HR HB2
        go_wp2_with fail
        refine (ref_usual _ (ps.map pkS0) 59 59 rfl (by omega) _ (by simp; omega) (fun a ha => by obtain ⟨c, hc, rfl⟩ := List.mem_map.1 ha; have := pkS_len c (HSM.out.pack c (by rw [HPS.out]; exact hc)); unfold pkS at this; simp at this; omega) HST.out).mono ?_
        rintro e w3 ⟨rfl, hb3⟩
        rw [show [b8 59] = [(59 : UInt8)] from rfl]
        have hblk := blk_below hb3 HBK.out (ltAt HBK.out)
        have HD3 : Hid (RDcAt w3 d (.slice ap ps.length cp) (.slice ai ni ci) (.slice ar nr cr) (.slice au nu cu)) := HDr.out.below hb3
        have HB3 : Hid (Below w.heap.size w w3) := HBr.out.trans (hb3.mono HBr.out.size)
        have y1 : w3.cell? ⟨w2.heap.size, 1, none⟩ = some (.slice ai ni ci) := by rw [cellAt hblk]; rfl
        have y2 : w3.cell? ⟨w2.heap.size, 2, none⟩ = some (.slice ar nr cr) := by rw [cellAt hblk]; rfl
        have y3 : w3.cell? ⟨w2.heap.size, 3, none⟩ = some (.slice au nu cu) := by rw [cellAt hblk]; rfl
        have s0 : (bs (ordT [59] (ps.map pkS0))).size ≤ 2163500000 := by
          rw [bs_size]
          have := ordT_len [59] (ps.map pkS0) 2700000 (fun a ha => by obtain ⟨c, hc, rfl⟩ := List.mem_map.1 ha; have := pkS_len c (HSM.out.pack c (by rw [HPS.out]; exact hc)); unfold pkS at this; simp at this; omega)
          rw [List.length_map] at this
          exact Nat.le_trans this (Nat.le_trans (Nat.mul_le_mul_right _ hpl) (by decide))
        have s1 : (bs (ordT [44] (d.ins.map cnT))).size ≤ 4000 := by rw [bs_size]; exact csS_len _ HSM.out.ins
        have s2 : (bs (ordT [44] (d.rem.map cnT))).size ≤ 4000 := by rw [bs_size]; exact csS_len _ HSM.out.rem
        have s3 : (bs (ordT [44] (d.upg.map cnT))).size ≤ 4000 := by rw [bs_size]; exact csS_len _ HSM.out.upg
        unfold strV
        clear hb3 hblk HBK HDr HBr HST y0
        by_cases hne : ps = []
        · have hz' : ¬ (0 : Int) < (ps.length : Int) := by rw [hne]; simp
          have HN0 : Hid (ps = []) := hne
          clear hne
          have g0 : ¬ 9223372036854775807 < (bs (ordT [59] (ps.map pkS0))).size + 1 := by omega
          have g1 : ¬ 9223372036854775807 < (bs (ordT [59] (ps.map pkS0))).size + 1 + (bs (ordT [44] (d.ins.map cnT))).size := by omega
          have g2 : ¬ 9223372036854775807 < (bs (ordT [59] (ps.map pkS0))).size + 1 + (bs (ordT [44] (d.ins.map cnT))).size + 1 := by omega
          have g3 : ¬ 9223372036854775807 < (bs (ordT [59] (ps.map pkS0))).size + 1 + (bs (ordT [44] (d.ins.map cnT))).size + 1 + (bs (ordT [44] (d.rem.map cnT))).size := by omega
          have g4 : ¬ 9223372036854775807 < (bs (ordT [59] (ps.map pkS0))).size + 1 + (bs (ordT [44] (d.ins.map cnT))).size + 1 + (bs (ordT [44] (d.rem.map cnT))).size + 1 := by omega
          have g5 : ¬ 9223372036854775807 < (bs (ordT [59] (ps.map pkS0))).size + 1 + (bs (ordT [44] (d.ins.map cnT))).size + 1 + (bs (ordT [44] (d.rem.map cnT))).size + 1 + (bs (ordT [44] (d.upg.map cnT))).size := by omega
          have HEF : Hid (bs (rdcS d) = bs (ordT [59] (ps.map pkS0)) ++ bs [47] ++ bs (ordT [44] (d.ins.map cnT)) ++ bs [47] ++ bs (ordT [44] (d.rem.map cnT)) ++ bs [47] ++ bs (ordT [44] (d.upg.map cnT))) := by
            show _ = _
            unfold rdcS
            rw [HPS.out, HN0.out]
            simp only [bs_app]
            rfl
          go_wp2_with fail
          go_region_held3 (fun w' => w'.cell? ⟨w2.heap.size, 1, none⟩ = some (.slice ai ni ci) ∧ w'.cell? ⟨w2.heap.size, 2, none⟩ = some (.slice ar nr cr) ∧ w'.cell? ⟨w2.heap.size, 3, none⟩ = some (.slice au nu cu)) (repeat (first | exact ⟨y1, y2, y3⟩ | refine threeV (by assumption) ?_))
            (first
              | (go_at_call_of 59 (Value.slice ai ni ci); refine (ref_usual44 (.slice ai ni ci) (d.ins.map cnT) _ (by have := HSM.out.ins; simp; omega) (fun a ha => by obtain ⟨c, _, rfl⟩ := List.mem_map.1 ha; have := cnT_len c; omega) (by exact (HD3.out.2.1).drew)).mono ?_; rintro e wa ⟨rfl, hba⟩; have hCa := (HD3.out.2.2.1.drew).below hba; have hPa := (HD3.out.2.2.2.drew).below hba)
              | (go_at_call_of 59 (Value.slice ar nr cr); refine (ref_usual44 (.slice ar nr cr) (d.rem.map cnT) _ (by have := HSM.out.rem; simp; omega) (fun a ha => by obtain ⟨c, _, rfl⟩ := List.mem_map.1 ha; have := cnT_len c; omega) (by exact hCa)).mono ?_; rintro e wb ⟨rfl, hbb⟩; have hPb := hPa.below hbb)
              | (go_at_call_of 59 (Value.slice au nu cu); refine (ref_usual44 (.slice au nu cu) (d.upg.map cnT) _ (by have := HSM.out.upg; simp; omega) (fun a ha => by obtain ⟨c, _, rfl⟩ := List.mem_map.1 ha; have := cnT_len c; omega) (by exact hPb)).mono ?_; rintro e wc ⟨rfl, hbc⟩))
          all_goals (try go_wp2)
          go_ret2
          exact ⟨by rw [HT.out, HEF.out, HE.out]; rfl, HB3.out.trans ((((below_drew hba).trans (hbb.mono (below_drew hba).size)).trans (hbc.mono (Nat.le_trans (below_drew hba).size hbb.size))).mono HB3.out.size)⟩
        · have hz' : (0 : Int) < (ps.length : Int) := by have := List.length_pos_iff.2 hne; omega
          have g0 : ¬ 9223372036854775807 < (bs (ordT [59] (ps.map pkS0))).size + 1 + 1 := by omega
          have g1 : ¬ 9223372036854775807 < (bs (ordT [59] (ps.map pkS0))).size + 1 + 1 + (bs (ordT [44] (d.ins.map cnT))).size := by omega
          have g2 : ¬ 9223372036854775807 < (bs (ordT [59] (ps.map pkS0))).size + 1 + 1 + (bs (ordT [44] (d.ins.map cnT))).size + 1 := by omega
          have g3 : ¬ 9223372036854775807 < (bs (ordT [59] (ps.map pkS0))).size + 1 + 1 + (bs (ordT [44] (d.ins.map cnT))).size + 1 + (bs (ordT [44] (d.rem.map cnT))).size := by omega
          have g4 : ¬ 9223372036854775807 < (bs (ordT [59] (ps.map pkS0))).size + 1 + 1 + (bs (ordT [44] (d.ins.map cnT))).size + 1 + (bs (ordT [44] (d.rem.map cnT))).size + 1 := by omega
          have g5 : ¬ 9223372036854775807 < (bs (ordT [59] (ps.map pkS0))).size + 1 + 1 + (bs (ordT [44] (d.ins.map cnT))).size + 1 + (bs (ordT [44] (d.rem.map cnT))).size + 1 + (bs (ordT [44] (d.upg.map cnT))).size := by omega
          have HEF : Hid (bs (rdcS d) = bs (ordT [59] (ps.map pkS0)) ++ bs [59] ++ bs [47] ++ bs (ordT [44] (d.ins.map cnT)) ++ bs [47] ++ bs (ordT [44] (d.rem.map cnT)) ++ bs [47] ++ bs (ordT [44] (d.upg.map cnT))) := by
            show _ = _
            unfold rdcS
            rw [HPS.out, show ps.isEmpty = false from List.isEmpty_eq_false_iff.2 hne]
            simp only [bs_app]
            rfl
          go_wp2_with fail
          go_region_held3 (fun w' => w'.cell? ⟨w2.heap.size, 1, none⟩ = some (.slice ai ni ci) ∧ w'.cell? ⟨w2.heap.size, 2, none⟩ = some (.slice ar nr cr) ∧ w'.cell? ⟨w2.heap.size, 3, none⟩ = some (.slice au nu cu)) (repeat (first | exact ⟨y1, y2, y3⟩ | refine threeV (by assumption) ?_))
            (first
              | (go_at_call_of 59 (Value.slice ai ni ci); refine (ref_usual44 (.slice ai ni ci) (d.ins.map cnT) _ (by have := HSM.out.ins; simp; omega) (fun a ha => by obtain ⟨c, _, rfl⟩ := List.mem_map.1 ha; have := cnT_len c; omega) (by exact (HD3.out.2.1).drew)).mono ?_; rintro e wa ⟨rfl, hba⟩; have hCa := (HD3.out.2.2.1.drew).below hba; have hPa := (HD3.out.2.2.2.drew).below hba)
              | (go_at_call_of 59 (Value.slice ar nr cr); refine (ref_usual44 (.slice ar nr cr) (d.rem.map cnT) _ (by have := HSM.out.rem; simp; omega) (fun a ha => by obtain ⟨c, _, rfl⟩ := List.mem_map.1 ha; have := cnT_len c; omega) (by exact hCa)).mono ?_; rintro e wb ⟨rfl, hbb⟩; have hPb := hPa.below hbb)
              | (go_at_call_of 59 (Value.slice au nu cu); refine (ref_usual44 (.slice au nu cu) (d.upg.map cnT) _ (by have := HSM.out.upg; simp; omega) (fun a ha => by obtain ⟨c, _, rfl⟩ := List.mem_map.1 ha; have := cnT_len c; omega) (by exact hPb)).mono ?_; rintro e wc ⟨rfl, hbc⟩))
          all_goals (try go_wp2)
          go_ret2
          exact ⟨by rw [HT.out, HEF.out, HE.out]; rfl, HB3.out.trans ((((below_drew hba).trans (hbb.mono (below_drew hba).size)).trans (hbc.mono (Nat.le_trans (below_drew hba).size hbb.size))).mono HB3.out.size)⟩
  · have HT : Hid (rshT s.data.toList = []) := by show _ = _; unfold rshT; rw [if_neg h]
    have hz : ((rdE s.data.toList : Int) != 0) = true := by rw [bne_iff_ne]; omega
    go_enter Tryz.func29, Tryz.ntmps29
    go_wp2_with fail
    refine (ref_Check s _ hs).mono ?_
    rintro e w1 ⟨rfl, hb1⟩
    go_wp2
    go_ret2
    exact ⟨by rw [HT.out]; rfl, hb1⟩

end Go.Proofs.YtdfnnpakdbhhpaaGreatDoor
