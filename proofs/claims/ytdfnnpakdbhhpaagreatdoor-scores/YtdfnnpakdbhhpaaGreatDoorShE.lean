import Derived.Test.YtdfnnpakdbhhpaaGreatDoorShD
namespace Go.Proofs.YtdfnnpakdbhhpaaGreatDoor
open Go.RowKit

/-- A package in its usual form, without its last sign. -/
def pkS0 (p : Pk) : List UInt8 := [b8 p.n, b8 p.v] ++ mkT p.m ++ [58] ++ ordT [44] (p.needs.map ndS) ++ [58] ++ ordT [44] (p.conf.map cnT) ++ [58] ++ ordT [44] (p.prov.map fun c => [b8 c])
def pkS (p : Pk) : List UInt8 := pkS0 p ++ [59]
structure PkSm (p : Pk) : Prop where
  needs : p.needs.length ≤ 801
  need : ∀ n ∈ p.needs, n.length ≤ 801
  conf : p.conf.length ≤ 801
  prov : p.prov.length ≤ 801
theorem mkT_len (m : Nat) : (mkT m).length ≤ 2 := by
  unfold mkT
  split
  · simp
  · split
    · simp
    · split <;> simp
theorem nsS_len (l : List (List Cn)) (h : l.length ≤ 801) (h2 : ∀ n ∈ l, n.length ≤ 801) : (ordT [44] (l.map ndS)).length ≤ 2600000 := by
  have := ordT_len [44] (l.map ndS) 3204 (fun a ha => by obtain ⟨c, hc, rfl⟩ := List.mem_map.1 ha; exact ndS_len c (h2 c hc))
  simp at this
  omega
theorem csS_len (l : List Cn) (h : l.length ≤ 801) : (ordT [44] (l.map cnT)).length ≤ 4000 := by
  have := ordT_len [44] (l.map cnT) 3 (fun a ha => by obtain ⟨c, _, rfl⟩ := List.mem_map.1 ha; exact cnT_len c)
  simp at this
  omega
theorem nmS_len (l : List Nat) (h : l.length ≤ 801) : (ordT [44] (l.map fun c => [b8 c])).length ≤ 2000 := by
  have := ordT_len [44] (l.map fun c => [b8 c]) 1 (fun a ha => by obtain ⟨c, _, rfl⟩ := List.mem_map.1 ha; simp)
  simp at this
  omega

set_option maxHeartbeats 1600000 in
set_option maxRecDepth 100000 in
theorem doc_packText (B : Nat) (p : Pk) (an : Option Addr) (nn cn : Nat) (ac : Option Addr) (nc cc : Nat) (ap : Option Addr) (np cp : Nat) (w : World) (hsm : PkSm p) (hok : PkOk p) (hp : PkAt B w p (.slice an nn cn) (.slice ac nc cc) (.slice ap np cp)) :
    Calls Tryz.prog 43 #[.agg #[.int .u8 p.n, .int .u8 p.v, .int .i64 p.m, .slice an nn cn, .slice ac nc cc, .slice ap np cp]] w fun e w' => e = .returned (strV (pkS p)) ∧ Below w.heap.size w w' := by
  have hn := nm_lt hok.n
  have hv := vr_lt hok.v
  have hcv := conv2 (w.alloc (.cells #[.int .u8 p.n, .int .u8 p.v, .int .i64 p.m, .slice an nn cn, .slice ac nc cc, .slice ap np cp] 88)) p.n p.v hn hv
  rw [World.size_alloc] at hcv
  have HP : Hid (PkAt B w p (.slice an nn cn) (.slice ac nc cc) (.slice ap np cp)) := hp
  have HOK : Hid (PkOk p) := hok
  have HSM : Hid (PkSm p) := hsm
  clear hp hok hsm
  go_enter Tryz.func43, Tryz.ntmps43
  go_wp2_with fail
  refine (doc_markText p.m HOK.out.m _).mono ?_
  rintro e w1 ⟨rfl, rfl⟩
  have hbx : Below w.heap.size w ((w.alloc (.cells #[.int .u8 p.n, .int .u8 p.v, .int .i64 p.m, .slice an nn cn, .slice ac nc cc, .slice ap np cp] 88)).alloc (.cells #[.int .u8 p.n, .int .u8 p.v] 5)) := ((Below.refl _ _).alloc (Nat.le_refl _) _).alloc (by simp) _
  have HBX : Hid _ := hbx
  clear hbx
  go_wp2_with fail
  refine (doc_needsText B (.slice an nn cn) p.needs _ HSM.out.needs HSM.out.need HOK.out.needs (HP.out.1.kp ((Kp.refl _ _).below HBX.out))).mono ?_
  rintro e w2 ⟨rfl, hb2⟩
  have hblk := blk_below hb2 (blk_old (blk_new w (.cells #[.int .u8 p.n, .int .u8 p.v, .int .i64 p.m, .slice an nn cn, .slice ac nc cc, .slice ap np cp] 88)) (.cells #[.int .u8 p.n, .int .u8 p.v] 5)) (by simp; omega)
  have HB2 : Hid (Below w.heap.size w w2) := HBX.out.trans (hb2.mono (by simp; omega))
  have HBK2 : Hid _ := hblk
  have x4 : w2.cell? ⟨w.heap.size, 4, none⟩ = some (.slice ac nc cc) := by rw [cellAt hblk]; rfl
  clear hb2 hblk hcv HBX
  go_wp2_with fail
  refine (doc_constraintsText B (.slice ac nc cc) p.conf (bs [44]) _ HSM.out.conf HOK.out.conf (by decide) (HP.out.2.1.kp ((Kp.refl _ _).below HB2.out))).mono ?_
  rintro e w3 ⟨rfl, hb3⟩
  rw [bs_list]
  have hblk := blk_below hb3 HBK2.out (ltAt HBK2.out)
  have HB3 : Hid (Below w.heap.size w w3) := HB2.out.trans (hb3.mono HB2.out.size)
  have x5 : w3.cell? ⟨w.heap.size, 5, none⟩ = some (.slice ap np cp) := by rw [cellAt hblk]; rfl
  clear hb3 hblk HBK2 HB2 x4
  go_wp2_with fail
  refine (doc_namesText B (.slice ap np cp) p.prov _ HSM.out.prov HOK.out.prov (HP.out.2.2.kp ((Kp.refl _ _).below HB3.out))).mono ?_
  rintro e w4 ⟨rfl, hb4⟩
  have HB4 : Hid (Below w.heap.size w w4) := HB3.out.trans (hb4.mono HB3.out.size)
  clear hb4 HB3 x5
  have HE : Hid (bs (pkS p) = bs [b8 p.n, b8 p.v] ++ bs (mkT p.m) ++ bs [58] ++ bs (ordT [44] (p.needs.map ndS)) ++ bs [58] ++ bs (ordT [44] (p.conf.map cnT)) ++ bs [58] ++ bs (ordT [44] (p.prov.map fun c => [b8 c])) ++ bs [59]) := by
    show _ = _; simp only [bs_app]; rfl
  have s1 : (bs (mkT p.m)).size ≤ 2 := by rw [bs_size]; exact mkT_len _
  have s2 : (bs (ordT [44] (p.needs.map ndS))).size ≤ 2600000 := by rw [bs_size]; exact nsS_len _ HSM.out.needs HSM.out.need
  have s3 : (bs (ordT [44] (p.conf.map cnT))).size ≤ 4000 := by rw [bs_size]; exact csS_len _ HSM.out.conf
  have s4 : (bs (ordT [44] (p.prov.map fun c => [b8 c]))).size ≤ 2000 := by rw [bs_size]; exact nmS_len _ HSM.out.prov
  have s0 : (bs [b8 p.n, b8 p.v]).size ≤ 2 := by rw [bs_size]; simp
  unfold strV
  generalize bs (mkT p.m) = M at *
  generalize bs (ordT [44] (p.needs.map ndS)) = N at *
  generalize bs (ordT [44] (p.conf.map cnT)) = C at *
  generalize bs (ordT [44] (p.prov.map fun c => [b8 c])) = Q at *
  generalize bs [b8 p.n, b8 p.v] = I at *
  go_wp2
  go_ret
  exact ⟨ret_str (by rw [HE.out]; rfl), HB4.out⟩

theorem pkS_len (p : Pk) (h : PkSm p) : (pkS p).length ≤ 2700000 := by
  have h1 := mkT_len p.m
  have h2 := nsS_len p.needs h.needs h.need
  have h3 := csS_len p.conf h.conf
  have h4 := nmS_len p.prov h.prov
  unfold pkS pkS0
  simp only [List.length_append, List.length_cons, List.length_nil]
  omega

/-- Packages in a row, each with what it leads to. -/
theorem pks_row2 {B : Nat} {w : World} {v : Value} {ps : List Pk} (h : PksAt B w v ps) : (v = .slice none 0 0 ∧ ps = []) ∨ ∃ g cap, v = .slice (some ⟨g, 0, none⟩) ps.length cap ∧ g < w.heap.size ∧ ∀ j (h : j < ps.length), ∃ an nn cn ac nc cc ap np cp, (w.cell? ⟨g, j * 6, none⟩ = some (.int .u8 ps[j].n) ∧ w.cell? ⟨g, j * 6 + 1, none⟩ = some (.int .u8 ps[j].v) ∧ w.cell? ⟨g, j * 6 + 2, none⟩ = some (.int .i64 ps[j].m) ∧
    w.cell? ⟨g, j * 6 + 3, none⟩ = some (.slice an nn cn) ∧ w.cell? ⟨g, j * 6 + 4, none⟩ = some (.slice ac nc cc) ∧ w.cell? ⟨g, j * 6 + 5, none⟩ = some (.slice ap np cp)) ∧ PkAt B w ps[j] (.slice an nn cn) (.slice ac nc cc) (.slice ap np cp) := by
  obtain ⟨css, h1, h2⟩ := h
  rcases own_shape h1 with ⟨rfl, h0⟩ | ⟨g, cap, rfl, hc⟩
  · exact Or.inl ⟨rfl, List.eq_nil_of_length_eq_zero h0⟩
  · refine Or.inr ⟨g, cap, rfl, own_lt h1, fun j hj => ?_⟩
    obtain ⟨c, hcj, vn, vc, vp, rfl, hp⟩ := h2.get (j := j) (List.getElem?_eq_getElem hj)
    have h6 : ∀ c ∈ css, c.length = 6 := All2.forall (Q := fun c : List Value => c.length = 6) (fun a b ⟨_, _, _, e, _⟩ => by rw [e]; rfl) h2
    have hf : ∀ k, k < 6 → css.flatten[j * 6 + k]? = (pkCells ps[j] vn vc vp)[k]? := fun k hk => by rw [flat_get 6 css h6 j k hk, hcj]; rfl
    obtain ⟨an, nn, cn, rfl⟩ := shape3 hp.1
    obtain ⟨ac, nc, cc, rfl⟩ : ∃ a n c, vc = .slice a n c := by rcases own_shape hp.2.1 with ⟨rfl, _⟩ | ⟨g, cap, rfl, _⟩ <;> exact ⟨_, _, _, rfl⟩
    obtain ⟨ap, np, cp, rfl⟩ : ∃ a n c, vp = .slice a n c := by rcases own_shape hp.2.2 with ⟨rfl, _⟩ | ⟨g, cap, rfl, _⟩ <;> exact ⟨_, _, _, rfl⟩
    exact ⟨an, nn, cn, ac, nc, cc, ap, np, cp, ⟨own_cell h1 _ _ (hf 0 (by omega)), own_cell h1 _ _ (hf 1 (by omega)), own_cell h1 _ _ (hf 2 (by omega)), own_cell h1 _ _ (hf 3 (by omega)), own_cell h1 _ _ (hf 4 (by omega)), own_cell h1 _ _ (hf 5 (by omega))⟩, hp⟩

structure DcSm (d : Dc) : Prop where
  packs : d.packs.length ≤ 801
  pack : ∀ p ∈ d.packs, PkSm p
  ins : d.ins.length ≤ 801
  rem : d.rem.length ≤ 801
  upg : d.upg.length ≤ 801
def dcS (d : Dc) : List UInt8 := ordT [] (d.packs.map pkS) ++ [47] ++ ordT [44] (d.ins.map cnT) ++ [47] ++ ordT [44] (d.rem.map cnT) ++ [47] ++ ordT [44] (d.upg.map cnT)

set_option maxHeartbeats 1600000 in
set_option maxRecDepth 100000 in
theorem doc_Show (B : Nat) (d : Dc) (ap : Option Addr) (np cp : Nat) (ai : Option Addr) (ni ci : Nat) (ar : Option Addr) (nr cr : Nat) (au : Option Addr) (nu cu : Nat) (w : World) (hsm : DcSm d) (hok : DcOk d) (hd : DcAt B w d (.slice ap np cp) (.slice ai ni ci) (.slice ar nr cr) (.slice au nu cu)) :
    Calls Tryz.prog 23 #[.agg #[.slice ap np cp, .slice ai ni ci, .slice ar nr cr, .slice au nu cu]] w fun e w' => e = .returned (strV (dcS d)) ∧ Below w.heap.size w w' := by
  obtain ⟨i0, hi, hz0, hz1, hz2⟩ := info_parts Tryz.infoStr
  have hnp : np = d.packs.length := by
    rcases pks_row2 hd.1 with ⟨h, h0⟩ | ⟨g, cap, h, _⟩
    · injection h with _ h _; rw [h0]; exact h
    · injection h with _ h _
  subst hnp
  have hrow : ∀ j (h : j < d.packs.length), ∃ g, ap = some ⟨g, 0, none⟩ ∧ g < w.heap.size ∧ ∃ an nn cn ac nc cc ap np cp, (w.cell? ⟨g, j * 6, none⟩ = some (.int .u8 d.packs[j].n) ∧ w.cell? ⟨g, j * 6 + 1, none⟩ = some (.int .u8 d.packs[j].v) ∧ w.cell? ⟨g, j * 6 + 2, none⟩ = some (.int .i64 d.packs[j].m) ∧
    w.cell? ⟨g, j * 6 + 3, none⟩ = some (.slice an nn cn) ∧ w.cell? ⟨g, j * 6 + 4, none⟩ = some (.slice ac nc cc) ∧ w.cell? ⟨g, j * 6 + 5, none⟩ = some (.slice ap np cp)) ∧ PkAt B w d.packs[j] (.slice an nn cn) (.slice ac nc cc) (.slice ap np cp) := by
    intro j hj
    rcases pks_row2 hd.1 with ⟨_, h0⟩ | ⟨g, cap, h, hg, hx⟩
    · rw [h0] at hj; simp at hj
    · injection h with h _ _
      exact ⟨g, h, hg, hx j hj⟩
  have HR : Hid _ := hrow
  have HD : Hid (DcAt B w d (.slice ap d.packs.length cp) (.slice ai ni ci) (.slice ar nr cr) (.slice au nu cu)) := hd
  have HOK : Hid (DcOk d) := hok
  have HSM : Hid (DcSm d) := hsm
  have hpl := hsm.packs
  clear hrow hd hok hsm
  generalize hps : d.packs = ps at *
  have HPS : Hid (d.packs = ps) := hps
  clear hps
  go_enter Tryz.func23, Tryz.ntmps23
  go_wp2
  go_loopw [3, 14] (fun o i wr => ∃ k : Nat, k ≤ ps.length ∧ i = .int .i64 k ∧ wr.ownsRow (w.heap.size + 1) 9 1 o k ((ps.map fun c => strV (pkS c)).take k) ∧ Below w.heap.size w wr ∧ wr.heap[w.heap.size]? = some (.cells #[.slice ap ps.length cp, .slice ai ni ci, .slice ar nr cr, .slice au nu cu] 50 (0, 0))) (fun _ i _ => ps.length - (intOf i).toNat)
  case atStart => exact ⟨0, by omega, rfl, World.ownsRow_nil _ _ _ _, (Below.refl _ _).alloc (Nat.le_refl _) _, blk_new _ _⟩
  case round =>
    obtain ⟨k, hk, rfl, hown, hb, hblk⟩ := hrel
    have hbs := hb.size
    have hHlt := ltAt hblk
    by_cases hlt : k < ps.length
    · obtain ⟨g, rfl, hg, an, nn, cn, ac, nc, cc, ap', np, cp', ⟨x0, x1, x2, x3, x4, x5⟩, hpk⟩ := HR.out k hlt
      rw [← hb.cell (p := ⟨g, _, none⟩) hg] at x0 x1 x2 x3 x4 x5
      have hpk' : PkAt B wr ps[k] (.slice an nn cn) (.slice ac nc cc) (.slice ap' np cp') := hpk.kp ((Kp.refl _ _).below hb)
      have hpo : PkOk ps[k] := HOK.out.packs _ (by rw [HPS.out]; exact List.getElem_mem _)
      have hps : PkSm ps[k] := HSM.out.pack _ (by rw [HPS.out]; exact List.getElem_mem _)
      have HS : Hid ((ps.map (fun c => strV (pkS c))).take (k + 1) = (ps.map (fun c => strV (pkS c))).take k ++ [strV (pkS ps[k])]) := by show _ = _; rw [List.take_succ_eq_append_getElem (by simpa using hlt), List.getElem_map]
      generalize ps[k] = P at *
      have HPK : Hid (PkAt B wr P (.slice an nn cn) (.slice ac nc cc) (.slice ap' np cp') ∧ PkOk P ∧ PkSm P) := ⟨hpk', hpo, hps⟩
      have HBK : Hid _ := hblk
      clear hpk hpk' hpo hps hblk
      go_wp2_with fail
      refine (doc_packText B P an nn cn ac nc cc ap' np cp' _ HPK.out.2.2 HPK.out.2.1 (HPK.out.1.alloc _)).mono ?_
      rintro e w1 ⟨rfl, hb1⟩
      have hb1' : Below wr.heap.size wr w1 := ((Below.refl _ _).alloc (Nat.le_refl _) _).trans (hb1.mono (by simp))
      have hown1 := World.ownsRow.kept (row := none) hown ⟨hb1'.os, hb1'.tape, hb1'.output, hb1'.size, fun k hk _ => hb1'.block k hk⟩ (by rcases Value.ownBlock _ with _ | k <;> simp)
      have hs1 := hb1'.size
      have HB1 : Hid (Below w.heap.size w w1) := hb.trans (hb1'.mono hbs)
      have HBK1 : Hid (w1.heap[w.heap.size]? = _) := blk_below hb1' HBK.out (ltAt HBK.out)
      unfold strV at *
      clear hb1 hb1' hown HPK HBK
      go_wp2_with (at_builtin; refine wpList_append_own _ rfl _ _ 67 rfl (w.heap.size + 1) 9 i0 (.string ByteArray.empty) 1 16 Tryz.underlying67 hi hz0 hz1 hz2 rfl (by decide) _ _ _ rfl (hown1.alloc _) ⟨w1.heap.size, 0, none⟩ 1 1 [.string (bs (pkS P))] rfl rfl ?c1 ?c2 ?c3 ?c4 ?c5 ?_)
      case c1 => exact cell_one_new _ _ _
      case c2 => intro u hu; simp at hu; subst hu; rfl
      case c3 => unfold maxLen; omega
      case c4 => omega
      case c5 => simp; omega
      intro v' w2 hown' hgrow _
      have HB2 : Hid (Below w.heap.size w w2) := (HB1.out.alloc (by omega) _).grown hgrow (by simp; omega) (fun j hj => by have := (hown1.lt j hj).1; omega)
      have HBK2 : Hid (w2.heap[w.heap.size]? = _) := (hgrow.block w.heap.size (by simp; omega) (fun e => by have := (hown1.lt _ e.symm).1; omega)).trans (blk_old HBK1.out _)
      have HO2 : Hid (w2.ownsRow (w.heap.size + 1) 9 1 v' (k + 1) ((ps.map fun c => Value.string (bs (pkS c))).take (k + 1))) := by show World.ownsRow _ _ _ _ _ _ _; rw [HS.out]; exact hown'
      clear hown' hgrow hown1
      go_wp2
      go_roundw
      case rel => exact ⟨k + 1, by omega, by go_num, HO2.out, HB2.out, HBK2.out⟩
      case measure => simp [intOf]; omega
    · have hkl : k = ps.length := by omega
      have hst := StAt.ofMap (f := pkS) hown hkl
      have HST : Hid _ := hst
      have HB : Hid (Below w.heap.size w wr) := hb
      have HBK : Hid _ := hblk
      have HDr : Hid (DcAt B wr d (.slice ap ps.length cp) (.slice ai ni ci) (.slice ar nr cr) (.slice au nu cu)) := HD.out.kp ((Kp.refl _ _).below hb)
      have y1 : wr.cell? ⟨w.heap.size, 1, none⟩ = some (.slice ai ni ci) := by rw [cellAt hblk]; rfl
      clear hst hown hb hkl hblk HD HR
      go_wp2_with fail
      refine (doc_inOrder _ (ps.map pkS) (bs []) _ (by simp; omega) (fun a ha => by obtain ⟨c, hc, rfl⟩ := List.mem_map.1 ha; have := pkS_len c (HSM.out.pack c (by rw [HPS.out]; exact hc)); omega) (by decide) HST.out).mono ?_
      rintro e w1 ⟨rfl, rfl⟩
      rw [bs_list]
      go_wp2_with fail
      refine (doc_constraintsText B (.slice ai ni ci) d.ins (bs [44]) _ HSM.out.ins HOK.out.ins (by decide) HDr.out.2.1).mono ?_
      rintro e w2 ⟨rfl, hb2⟩
      rw [bs_list]
      have hk2 := blk_below hb2 HBK.out (ltAt HBK.out)
      have y2 : w2.cell? ⟨w.heap.size, 2, none⟩ = some (.slice ar nr cr) := by rw [cellAt hk2]; rfl
      have HBK2 : Hid _ := hk2
      have HD2 : Hid (DcAt B w2 d (.slice ap ps.length cp) (.slice ai ni ci) (.slice ar nr cr) (.slice au nu cu)) := HDr.out.kp ((Kp.refl _ _).below hb2)
      have HB2 : Hid (Below w.heap.size w w2) := HB.out.trans (hb2.mono HB.out.size)
      clear hb2 hk2 HBK HDr HB y1 HST
      go_wp2_with fail
      refine (doc_constraintsText B (.slice ar nr cr) d.rem (bs [44]) _ HSM.out.rem HOK.out.rem (by decide) HD2.out.2.2.1).mono ?_
      rintro e w3 ⟨rfl, hb3⟩
      rw [bs_list]
      have hk3 := blk_below hb3 HBK2.out (ltAt HBK2.out)
      have y3 : w3.cell? ⟨w.heap.size, 3, none⟩ = some (.slice au nu cu) := by rw [cellAt hk3]; rfl
      have HD3 : Hid (DcAt B w3 d (.slice ap ps.length cp) (.slice ai ni ci) (.slice ar nr cr) (.slice au nu cu)) := HD2.out.kp ((Kp.refl _ _).below hb3)
      have HB3 : Hid (Below w.heap.size w w3) := HB2.out.trans (hb3.mono HB2.out.size)
      clear hb3 hk3 HBK2 HD2 HB2 y2
      go_wp2_with fail
      refine (doc_constraintsText B (.slice au nu cu) d.upg (bs [44]) _ HSM.out.upg HOK.out.upg (by decide) HD3.out.2.2.2).mono ?_
      rintro e w4 ⟨rfl, hb4⟩
      rw [bs_list]
      have HB4 : Hid (Below w.heap.size w w4) := HB3.out.trans (hb4.mono HB3.out.size)
      clear hb4 HD3 HB3 y3
      have HE : Hid (bs (dcS d) = bs (ordT [] (ps.map pkS)) ++ bs [47] ++ bs (ordT [44] (d.ins.map cnT)) ++ bs [47] ++ bs (ordT [44] (d.rem.map cnT)) ++ bs [47] ++ bs (ordT [44] (d.upg.map cnT))) := by
        show _ = _; rw [← HPS.out]; simp only [bs_app]; rfl
      have s0 : (bs (ordT [] (ps.map pkS))).size ≤ 2162700000 := by
        rw [bs_size]
        have := ordT_len [] (ps.map pkS) 2700000 (fun a ha => by obtain ⟨c, hc, rfl⟩ := List.mem_map.1 ha; exact pkS_len c (HSM.out.pack c (by rw [HPS.out]; exact hc)))
        rw [List.length_map, List.length_nil, Nat.add_zero] at this
        exact Nat.le_trans this (Nat.mul_le_mul_right 2700000 hpl)
      have s1 : (bs (ordT [44] (d.ins.map cnT))).size ≤ 4000 := by rw [bs_size]; exact csS_len _ HSM.out.ins
      have s2 : (bs (ordT [44] (d.rem.map cnT))).size ≤ 4000 := by rw [bs_size]; exact csS_len _ HSM.out.rem
      have s3 : (bs (ordT [44] (d.upg.map cnT))).size ≤ 4000 := by rw [bs_size]; exact csS_len _ HSM.out.upg
      unfold strV
      generalize bs (ordT [] (ps.map pkS)) = A0 at *
      generalize bs (ordT [44] (d.ins.map cnT)) = A1 at *
      generalize bs (ordT [44] (d.rem.map cnT)) = A2 at *
      generalize bs (ordT [44] (d.upg.map cnT)) = A3 at *
      go_wp2
      go_ret
      exact ⟨ret_str (by rw [HE.out]; rfl), HB4.out⟩

end Go.Proofs.YtdfnnpakdbhhpaaGreatDoor
