import Derived.Test.YthgabjpffenjmaaGreatDoorXH

namespace Go.Proofs.YthgabjpffenjmaaGreatDoor
open Go.RowKit

set_option maxHeartbeats 1600000 in
theorem pack_Fits (p : Pk) (c : Cn) (an : Option Addr) (nn cn : Nat) (ac : Option Addr) (nc cc : Nat) (ap : Option Addr) (np cp : Nat) (w : World) (hp : PkV w p an nn cn ac nc cc ap np cp) :
    Calls Tryz.prog 101 #[.agg #[.int .u8 p.n, .int .u8 p.v, .int .i64 p.m, .slice an nn cn, .slice ac nc cc, .slice ap np cp], .agg #[.int .u8 c.n, .int .u8 c.s, .int .u8 c.v]] w fun e w' => e = .returned (.bool (fitB p c)) ∧ Below w.heap.size w w' := by
  have HV : Hid (∀ w', Below w.heap.size w w' → PkV w' p an nn cn ac nc cc ap np cp) := fun w' hb => hp.below hb
  clear hp
  have HBW : Hid (Below w.heap.size w ((w.alloc (.cells #[.int .u8 p.n, .int .u8 p.v, .int .i64 p.m, .slice an nn cn, .slice ac nc cc, .slice ap np cp] 101)).alloc (.cells #[.int .u8 c.n, .int .u8 c.s, .int .u8 c.v] 138))) := ((Below.refl _ _).alloc (Nat.le_refl _) _).alloc (by simp) _
  by_cases h0 : c.s = 0
  · have e0 : ((c.s : Int) == 0) = true := by rw [beq_iff_eq]; omega
    by_cases h1 : p.n = c.n
    · have e1 : ((p.n : Int) == c.n) = true := by rw [beq_iff_eq]; omega
      have HF : Hid (fitB p c = true) := by show _ = _; unfold fitB; simp [h0, h1]
      clear h0 h1
      go_enter Tryz.func101, Tryz.ntmps101
      go_wp2
      go_ret
      exact ⟨ret_bool HF.out.symm, HBW.out⟩
    · have e1 : ((p.n : Int) == c.n) = false := by rw [beq_eq_false_iff_ne]; omega
      have HF : Hid ((p.prov.any fun x => x == c.n) = fitB p c) := by show _ = _; unfold fitB; simp [h0, h1]
      clear h0 h1
      go_enter Tryz.func101, Tryz.ntmps101
      go_wp2_with fail
      refine (pack_provides p c.n an nn cn ac nc cc ap np cp _ (HV.out _ HBW.out)).mono ?_
      rintro e w1 ⟨rfl, hb1⟩
      go_wp2
      go_ret
      exact ⟨ret_bool HF.out, HBW.out.trans (hb1.mono (by simp; omega))⟩
  · have e0 : ((c.s : Int) == 0) = false := by rw [beq_eq_false_iff_ne]; omega
    by_cases h1 : p.n = c.n
    · have e1 : ((p.n : Int) == c.n) = true := by rw [beq_iff_eq]; omega
      have HF : Hid (vfB p.v c = fitB p c) := by show _ = _; unfold fitB vfB; simp [h0, h1]
      clear h0 h1
      go_enter Tryz.func101, Tryz.ntmps101
      go_wp2_with fail
      refine (doc_versionFits p.v c _).mono ?_
      rintro e w1 ⟨rfl, hb1⟩
      go_wp2
      go_ret
      exact ⟨ret_bool HF.out, HBW.out.trans (hb1.mono (by simp; omega))⟩
    · have e1 : ((p.n : Int) == c.n) = false := by rw [beq_eq_false_iff_ne]; omega
      have HF : Hid (fitB p c = false) := by show _ = _; unfold fitB; simp [h0, h1]
      clear h0 h1
      go_enter Tryz.func101, Tryz.ntmps101
      go_wp2
      go_ret
      exact ⟨ret_bool HF.out.symm, HBW.out⟩

set_option maxHeartbeats 1600000 in
set_option maxRecDepth 100000 in
theorem doc_Fitted (ao : Option Addr) (cap : Nat) (ps : List Pk) (c : Cn) (w : World) (hp : PV w ao ps) :
    Calls Tryz.prog 96 #[.slice ao ps.length cap, .agg #[.int .u8 c.n, .int .u8 c.s, .int .u8 c.v]] w fun e w' => e = .returned (.bool (ps.any fun p => fitB p c)) ∧ Below w.heap.size w w' := by
  have hl := hp.1
  have HR : Hid (∀ j (h : j < ps.length), PRw w ao j ps[j]) := hp.2
  clear hp
  go_enter Tryz.func96, Tryz.ntmps96
  go_wp2
  go_loopw [9] (fun i wr => ∃ k : Nat, k ≤ ps.length ∧ i = .int .i64 k ∧ Hid ((ps.any fun p => fitB p c) = (ps.drop k).any fun p => fitB p c) ∧ Below w.heap.size w wr ∧ wr.heap[w.heap.size]? = some (.cells #[.int .u8 c.n, .int .u8 c.s, .int .u8 c.v] 138 (0, 0))) (fun i _ => ps.length - (intOf i).toNat)
  case atStart => exact ⟨0, by omega, rfl, by show _ = _; simp, (Below.refl _ _).alloc (Nat.le_refl _) _, blk_new _ _⟩
  case round =>
    obtain ⟨k, hk, rfl, HP, hb, hbx⟩ := hrel
    have hbs := hb.size
    have y0 := cellAt hbx 0
    have y1 := cellAt hbx 1
    have y2 := cellAt hbx 2
    have hlx := ltAt hbx
    have HBX : Hid (wr.heap[w.heap.size]? = some (.cells #[.int .u8 c.n, .int .u8 c.s, .int .u8 c.v] 138 (0, 0))) := hbx
    simp at y0 y1 y2
    clear hbx
    by_cases hlt : k < ps.length
    · obtain ⟨g, off, an, nn, cn, ac, nc, cc, ap, np, cp, rfl, hg, ⟨x0, x1, x2, x3, x4, x5⟩, hv⟩ := HR.out k hlt
      rw [← hb.cell (p := ⟨g, _, none⟩) hg] at x0 x1 x2 x3 x4 x5
      have HV : Hid (∀ w', Below w.heap.size w w' → PkV w' ps[k] an nn cn ac nc cc ap np cp) := fun w' hb => hv.below hb
      have HD : Hid (((ps.drop k).any fun p => fitB p c) = (fitB ps[k] c || (ps.drop (k + 1)).any fun p => fitB p c)) := by show _ = _; rw [List.drop_eq_getElem_cons hlt]; rfl
      have HBA : Hid (Below w.heap.size w (wr.alloc (.cells #[.int .u8 ps[k].n, .int .u8 ps[k].v, .int .i64 ps[k].m, .slice an nn cn, .slice ac nc cc, .slice ap np cp] 101))) := hb.alloc hbs _
      clear hv
      generalize ps[k] = p at *
      cases hf : fitB p c with
      | true =>
        have HF : Hid ((ps.any fun p => fitB p c) = true) := by show _ = _; rw [HP.out, HD.out, hf]; rfl
        have HE : Hid (fitB p c = true) := hf
        clear hf
        go_wp2_with fail
        refine (pack_Fits p c an nn cn ac nc cc ap np cp _ (HV.out _ HBA.out)).mono ?_
        rintro e w1 ⟨rfl, hb1⟩
        rw [HE.out]
        go_wp2
        go_ret
        exact ⟨ret_bool HF.out.symm, HBA.out.trans (hb1.mono (by simp; omega))⟩
      | false =>
        have HF : Hid ((ps.any fun p => fitB p c) = (ps.drop (k + 1)).any fun p => fitB p c) := by show _ = _; rw [HP.out, HD.out, hf]; rfl
        have HE : Hid (fitB p c = false) := hf
        clear hf
        go_wp2_with fail
        refine (pack_Fits p c an nn cn ac nc cc ap np cp _ (HV.out _ HBA.out)).mono ?_
        rintro e w1 ⟨rfl, hb1⟩
        rw [HE.out]
        have HB2 : Hid (Below w.heap.size w w1) := HBA.out.trans (hb1.mono (by simp; omega))
        have HK : Hid (w1.heap[w.heap.size]? = some (.cells #[.int .u8 c.n, .int .u8 c.s, .int .u8 c.v] 138 (0, 0))) := blk_below hb1 (blk_old HBX.out _) (by simp; omega)
        clear hb1
        go_wp2
        go_roundw
        case rel => exact ⟨k + 1, by omega, by go_num, HF, HB2.out, HK.out⟩
        case measure => simp [intOf]; omega
    · have HF : Hid ((ps.any fun p => fitB p c) = false) := by show _ = _; rw [HP.out, List.drop_of_length_le (by omega)]; rfl
      go_wp2
      go_ret
      exact ⟨ret_bool HF.out.symm, hb⟩

end Go.Proofs.YthgabjpffenjmaaGreatDoor

namespace Go.Proofs.YthgabjpffenjmaaGreatDoor
open Go.RowKit

def hnB (ps : List Pk) (a : Nat) : Bool := ps.any fun p => p.n == a
/-- The greatest version of a name; 0: none. -/
def gtG (a : Nat) : List Pk → Nat → Nat
  | [], g => g
  | p :: r, g => gtG a r (if p.n = a ∧ g < p.v then p.v else g)
def gtT (ps : List Pk) (a : Nat) : Nat := gtG a ps 0

set_option maxHeartbeats 800000 in
set_option maxRecDepth 100000 in
theorem doc_HasName (ao : Option Addr) (cap : Nat) (ps : List Pk) (a : Nat) (w : World) (hp : PV w ao ps) :
    Calls Tryz.prog 97 #[.slice ao ps.length cap, .int .u8 a] w fun e w' => e = .returned (.bool (hnB ps a)) ∧ Below w.heap.size w w' := by
  have hl := hp.1
  have HR : Hid (∀ j (h : j < ps.length), PkRw w ao j ps[j]) := hp.rows
  clear hp
  go_enter Tryz.func97, Tryz.ntmps97
  go_wp2
  go_loopw [9] (fun i wr => ∃ k : Nat, k ≤ ps.length ∧ i = .int .i64 k ∧ Hid (hnB ps a = hnB (ps.drop k) a) ∧ Below w.heap.size w wr) (fun i _ => ps.length - (intOf i).toNat)
  case atStart => exact ⟨0, by omega, rfl, by show _ = _; simp, Below.refl _ _⟩
  case round =>
    obtain ⟨k, hk, rfl, HP, hb⟩ := hrel
    have hbs := hb.size
    by_cases hlt : k < ps.length
    · obtain ⟨g, off, an, nn, cn, ac, nc, cc, ap, np, cp, rfl, hg, x0, x1, x2, x3, x4, x5⟩ := HR.out k hlt
      rw [← hb.cell (p := ⟨g, _, none⟩) hg] at x0 x1 x2 x3 x4 x5
      have HD : Hid (hnB (ps.drop k) a = (ps[k].n == a || hnB (ps.drop (k + 1)) a)) := by show _ = _; rw [List.drop_eq_getElem_cons hlt]; rfl
      by_cases e1 : ps[k].n = a
      · have e1' : ((ps[k].n : Int) == a) = true := by rw [beq_iff_eq]; omega
        have HF : Hid (hnB ps a = true) := by show _ = _; rw [HP.out, HD.out]; simp [e1]
        clear e1
        go_wp2
        go_ret
        exact ⟨ret_bool HF.out.symm, hb.alloc hbs _⟩
      · have e1' : ((ps[k].n : Int) == a) = false := by rw [beq_eq_false_iff_ne]; omega
        have HF : Hid (hnB ps a = hnB (ps.drop (k + 1)) a) := by show _ = _; rw [HP.out, HD.out]; simp [e1]
        clear e1
        go_wp2
        go_roundw
        case rel => exact ⟨k + 1, by omega, by go_num, HF, hb.alloc hbs _⟩
        case measure => simp [intOf]; omega
    · have HF : Hid (hnB ps a = false) := by show _ = _; rw [HP.out, List.drop_of_length_le (by omega)]; rfl
      go_wp2
      go_ret
      exact ⟨ret_bool HF.out.symm, hb⟩

set_option maxHeartbeats 800000 in
set_option maxRecDepth 100000 in
theorem doc_Greatest (ao : Option Addr) (cap : Nat) (ps : List Pk) (a : Nat) (w : World) (hp : PV w ao ps) :
    Calls Tryz.prog 100 #[.slice ao ps.length cap, .int .u8 a] w fun e w' => e = .returned (.int .u8 (gtT ps a)) ∧ Below w.heap.size w w' := by
  have hl := hp.1
  have HR : Hid (∀ j (h : j < ps.length), PkRw w ao j ps[j]) := hp.rows
  clear hp
  go_enter Tryz.func100, Tryz.ntmps100
  go_wp2
  go_loopw [5, 10] (fun o i wr => ∃ k G : Nat, k ≤ ps.length ∧ i = .int .i64 k ∧ o = .int .u8 G ∧ Hid (gtT ps a = gtG a (ps.drop k) G) ∧ Below w.heap.size w wr) (fun _ i _ => ps.length - (intOf i).toNat)
  case atStart => exact ⟨0, 0, by omega, rfl, rfl, by show _ = _; simp [gtT], Below.refl _ _⟩
  case round =>
    obtain ⟨k, G, hk, rfl, rfl, HP, hb⟩ := hrel
    have hbs := hb.size
    by_cases hlt : k < ps.length
    · obtain ⟨g, off, an, nn, cn, ac, nc, cc, ap, np, cp, rfl, hg, x0, x1, x2, x3, x4, x5⟩ := HR.out k hlt
      rw [← hb.cell (p := ⟨g, _, none⟩) hg] at x0 x1 x2 x3 x4 x5
      have HD : Hid (gtG a (ps.drop k) G = gtG a (ps.drop (k + 1)) (if ps[k].n = a ∧ G < ps[k].v then ps[k].v else G)) := by show _ = _; rw [List.drop_eq_getElem_cons hlt]; rfl
      by_cases e1 : ps[k].n = a
      · have e1' : ((ps[k].n : Int) == a) = true := by rw [beq_iff_eq]; omega
        by_cases e2 : G < ps[k].v
        · have e2' : (G : Int) < (ps[k].v : Int) := by omega
          have HF : Hid (gtT ps a = gtG a (ps.drop (k + 1)) ps[k].v) := by show _ = _; rw [HP.out, HD.out, if_pos ⟨e1, e2⟩]
          clear e1
          go_wp2
          go_roundw
          case rel => exact ⟨k + 1, _, by omega, by go_num, rfl, HF, hb.alloc hbs _⟩
          case measure => simp [intOf]; omega
        · have e2' : ¬ (G : Int) < (ps[k].v : Int) := by omega
          have HF : Hid (gtT ps a = gtG a (ps.drop (k + 1)) G) := by show _ = _; rw [HP.out, HD.out, if_neg (fun h => e2 h.2)]
          clear e1
          go_wp2
          go_roundw
          case rel => exact ⟨k + 1, _, by omega, by go_num, rfl, HF, hb.alloc hbs _⟩
          case measure => simp [intOf]; omega
      · have e1' : ((ps[k].n : Int) == a) = false := by rw [beq_eq_false_iff_ne]; omega
        have HF : Hid (gtT ps a = gtG a (ps.drop (k + 1)) G) := by show _ = _; rw [HP.out, HD.out, if_neg (fun h => e1 h.1)]
        clear e1
        go_wp2
        go_roundw
        case rel => exact ⟨k + 1, _, by omega, by go_num, rfl, HF, hb.alloc hbs _⟩
        case measure => simp [intOf]; omega
    · have HF : Hid (gtT ps a = G) := by show _ = _; rw [HP.out, List.drop_of_length_le (by omega)]; rfl
      go_wp2
      go_ret
      exact ⟨ret_int (by rw [HF.out]), hb⟩

/-- Packages of an own row, as they lay before. -/
def PvC (w : World) (cells : List Value) (p : Pk) : Prop := ∃ an nn cn ac nc cc ap np cp, cells = pkCells p (.slice an nn cn) (.slice ac nc cc) (.slice ap np cp) ∧ PkV w p an nn cn ac nc cc ap np cp
def PO (w wr : World) (v : Value) (l : List Pk) : Prop := ∃ css, wr.ownsRow w.heap.size 101 6 v l.length css.flatten ∧ All2 (PvC w) css l
theorem PO.nil (w wr : World) : PO w wr (.slice none 0 0) [] := ⟨[], World.ownsRow_nil _ _ _ _, trivial⟩
theorem PO.pv {w wr : World} {v : Value} {l : List Pk} (h : PO w wr v l) (hb : Below w.heap.size w wr) (hl : l.length ≤ 801) : ∃ ao cap, v = .slice ao l.length cap ∧ PV wr ao l := by
  obtain ⟨css, h1, h2⟩ := h
  rcases own_shape h1 with ⟨rfl, h0⟩ | ⟨g, cap, rfl, hc⟩
  · have : l = [] := List.eq_nil_of_length_eq_zero h0
    subst this
    exact ⟨none, 0, rfl, PV.nil _ _⟩
  · refine ⟨_, _, rfl, hl, fun j hj => ?_⟩
    obtain ⟨c, hcj, an, nn, cn, ac, nc, cc, ap, np, cp, rfl, hp⟩ := h2.get (j := j) (List.getElem?_eq_getElem hj)
    have h6 : ∀ c ∈ css, c.length = 6 := All2.forall (Q := fun c : List Value => c.length = 6) (fun a b ⟨_, _, _, _, _, _, _, _, _, e, _⟩ => by rw [e]; rfl) h2
    have hf : ∀ k, k < 6 → css.flatten[j * 6 + k]? = (pkCells l[j] (.slice an nn cn) (.slice ac nc cc) (.slice ap np cp))[k]? := fun k hk => by rw [flat_get 6 css h6 j k hk, hcj]; rfl
    refine ⟨g, 0, an, nn, cn, ac, nc, cc, ap, np, cp, rfl, own_lt h1, ?_, hp.below hb⟩
    rw [Nat.zero_add]
    exact ⟨own_cell h1 _ _ (hf 0 (by omega)), own_cell h1 _ _ (hf 1 (by omega)), own_cell h1 _ _ (hf 2 (by omega)), own_cell h1 _ _ (hf 3 (by omega)), own_cell h1 _ _ (hf 4 (by omega)), own_cell h1 _ _ (hf 5 (by omega))⟩
theorem PO.alloc {w wr : World} {v : Value} {l : List Pk} (h : PO w wr v l) (o : Obj) : PO w (wr.alloc o) v l := by
  obtain ⟨css, h1, h2⟩ := h
  exact ⟨css, h1.alloc o, h2⟩
theorem PO.kept {w wr w' : World} {v : Value} {l : List Pk} (h : PO w wr v l) (hb : Below wr.heap.size wr w') : PO w w' v l := by
  obtain ⟨css, h1, h2⟩ := h
  exact ⟨css, World.ownsRow.kept (row := none) h1 ⟨hb.os, hb.tape, hb.output, hb.size, fun k hk _ => hb.block k hk⟩ (by rcases Value.ownBlock _ with _ | k <;> simp), h2⟩
theorem filt_succ {α : Type} (f : α → Bool) (l : List α) (k : Nat) (h : k < l.length) : (l.take (k + 1)).filter f = (l.take k).filter f ++ if f l[k] then [l[k]] else [] := by
  rw [List.take_succ_eq_append_getElem h, List.filter_append]
  cases hf : f l[k] <;> simp [hf]

def nowL (ps : List Pk) : List Pk := ps.filter fun p => p.m != 0
def wnL (ps : List Pk) (a : Nat) : List Pk := ps.filter fun p => p.n == a

end Go.Proofs.YthgabjpffenjmaaGreatDoor

namespace Go.Proofs.YthgabjpffenjmaaGreatDoor
open Go.RowKit

set_option maxHeartbeats 1600000 in
set_option maxRecDepth 100000 in
theorem doc_Now (ao : Option Addr) (cap : Nat) (ps : List Pk) (w : World) (hp : PV w ao ps) :
    Calls Tryz.prog 98 #[.slice ao ps.length cap] w fun e w' => ∃ a c, e = .returned (.slice a (nowL ps).length c) ∧ Below w.heap.size w w' ∧ PV w' a (nowL ps) := by
  obtain ⟨i0, hi0, hz0, hz1, hz2⟩ := info_parts Tryz.infoPk
  have hl := hp.1
  have HR : Hid (∀ j (h : j < ps.length), PRw w ao j ps[j]) := hp.2
  clear hp
  go_enter Tryz.func98, Tryz.ntmps98
  go_wp2
  go_loopw [3, 8] (fun o i wr => ∃ k : Nat, k ≤ ps.length ∧ i = .int .i64 k ∧ Hid (PO w wr o (nowL (ps.take k))) ∧ Below w.heap.size w wr) (fun _ i _ => ps.length - (intOf i).toNat)
  case atStart => exact ⟨0, by omega, rfl, PO.nil _ _, Below.refl _ _⟩
  case round =>
    obtain ⟨k, hk, rfl, HO, hb⟩ := hrel
    have hbs := hb.size
    by_cases hlt : k < ps.length
    · obtain ⟨g, off, an, nn, cn, ac, nc, cc, ap, np, cp, rfl, hg, ⟨x0, x1, x2, x3, x4, x5⟩, hv⟩ := HR.out k hlt
      rw [← hb.cell (p := ⟨g, _, none⟩) hg] at x0 x1 x2 x3 x4 x5
      have HV : Hid (PkV w ps[k] an nn cn ac nc cc ap np cp) := hv
      have HS : Hid (nowL (ps.take (k + 1)) = nowL (ps.take k) ++ if ps[k].m != 0 then [ps[k]] else []) := filt_succ _ _ _ hlt
      have hlen : (nowL (ps.take k)).length ≤ 801 := by unfold nowL; have := List.length_filter_le (fun p : Pk => p.m != 0) (ps.take k); simp at this; omega
      clear hv
      generalize ps[k] = p at *
      by_cases e1 : p.m = 0
      · have e1' : ((p.m : Int) == 0) = true := by rw [beq_iff_eq]; omega
        have e1'' : ((p.m : Int) != 0) = false := by show (!((p.m : Int) == 0)) = false; rw [e1']; rfl
        have HO2 : Hid (PO w wr u3 (nowL (ps.take (k + 1)))) := by show PO _ _ _ _; rw [HS.out, e1]; simpa using HO.out
        clear e1 HS
        go_wp2
        go_roundw
        case rel => exact ⟨k + 1, by omega, by go_num, HO2.out.alloc _, hb.alloc hbs _⟩
        case measure => simp [intOf]; omega
      · have e1' : ((p.m : Int) == 0) = false := by rw [beq_eq_false_iff_ne]; omega
        have e1'' : ((p.m : Int) != 0) = true := by show (!((p.m : Int) == 0)) = true; rw [e1']; rfl
        obtain ⟨css, hown, hal⟩ := HO.out
        have HAL : Hid (All2 (PvC w) css (nowL (ps.take k))) := hal
        have HS2 : Hid (nowL (ps.take (k + 1)) = nowL (ps.take k) ++ [p]) := by show _ = _; rw [HS.out]; simp [e1]
        clear e1 hal HO HS
        generalize nowL (ps.take k) = acc at *
        go_wp2_with (at_builtin; refine wpList_append_own _ rfl _ _ 47 rfl w.heap.size 101 i0 (.agg #[.int .u8 0, .int .u8 0, .int .i64 0, .slice none 0 0, .slice none 0 0, .slice none 0 0]) 6 88 Tryz.underlying47 hi0 hz0 hz1 hz2 rfl (by decide) _ _ _ rfl ((hown.alloc _).alloc _) ⟨wr.heap.size + 1, 0, none⟩ 1 1 (pkCells p (.slice an nn cn) (.slice ac nc cc) (.slice ap np cp)) rfl rfl ?c1 ?c2 ?c3 ?c4 ?c5 ?_)
        case c1 => have := cell_new (wr.alloc (.cells (pkCells p (.slice an nn cn) (.slice ac nc cc) (.slice ap np cp)).toArray 101)) (pkCells p (.slice an nn cn) (.slice ac nc cc) (.slice ap np cp)) 101; rw [World.size_alloc] at this; exact this
        case c2 => intro u hu; simp [pkCells] at hu; rcases hu with rfl | rfl | rfl | rfl | rfl | rfl <;> rfl
        case c3 => unfold maxLen; omega
        case c4 => omega
        case c5 => simp; omega
        intro v' w2 hown' hgrow _
        have HB2 : Hid (Below w.heap.size w w2) := ((hb.alloc hbs _).alloc (by simp; omega) _).grown hgrow (by simp; omega) (fun j hj => (hown.lt j hj).1)
        have HO2 : Hid (PO w w2 v' (nowL (ps.take (k + 1)))) := by
          show PO _ _ _ _
          rw [HS2.out]
          exact ⟨css ++ [pkCells p (.slice an nn cn) (.slice ac nc cc) (.slice ap np cp)], by simpa using hown', All2.snoc ⟨_, _, _, _, _, _, _, _, _, rfl, HV.out⟩ HAL.out⟩
        clear hown' hgrow hown
        go_wp2
        go_roundw
        case rel => exact ⟨k + 1, by omega, by go_num, HO2, HB2.out⟩
        case measure => simp [intOf]; omega
    · have HO' : Hid (PO w wr u3 (nowL ps)) := by have := HO.out; rw [List.take_of_length_le (by omega)] at this; exact this
      obtain ⟨a, c, rfl, hpv⟩ := HO'.out.pv hb (by unfold nowL; have := List.length_filter_le (fun p : Pk => p.m != 0) ps; omega)
      go_wp2
      go_ret
      exact ⟨a, c, rfl, hb, hpv⟩

set_option maxHeartbeats 1600000 in
set_option maxRecDepth 100000 in
theorem doc_WithName (ao : Option Addr) (cap : Nat) (ps : List Pk) (a : Nat) (w : World) (hp : PV w ao ps) :
    Calls Tryz.prog 99 #[.slice ao ps.length cap, .int .u8 a] w fun e w' => ∃ r c, e = .returned (.slice r (wnL ps a).length c) ∧ Below w.heap.size w w' ∧ PV w' r (wnL ps a) := by
  obtain ⟨i0, hi0, hz0, hz1, hz2⟩ := info_parts Tryz.infoPk
  have hl := hp.1
  have HR : Hid (∀ j (h : j < ps.length), PRw w ao j ps[j]) := hp.2
  clear hp
  go_enter Tryz.func99, Tryz.ntmps99
  go_wp2
  go_loopw [5, 10] (fun o i wr => ∃ k : Nat, k ≤ ps.length ∧ i = .int .i64 k ∧ Hid (PO w wr o (wnL (ps.take k) a)) ∧ Below w.heap.size w wr) (fun _ i _ => ps.length - (intOf i).toNat)
  case atStart => exact ⟨0, by omega, rfl, PO.nil _ _, Below.refl _ _⟩
  case round =>
    obtain ⟨k, hk, rfl, HO, hb⟩ := hrel
    have hbs := hb.size
    by_cases hlt : k < ps.length
    · obtain ⟨g, off, an, nn, cn, ac, nc, cc, ap, np, cp, rfl, hg, ⟨x0, x1, x2, x3, x4, x5⟩, hv⟩ := HR.out k hlt
      rw [← hb.cell (p := ⟨g, _, none⟩) hg] at x0 x1 x2 x3 x4 x5
      have HV : Hid (PkV w ps[k] an nn cn ac nc cc ap np cp) := hv
      have HS : Hid (wnL (ps.take (k + 1)) a = wnL (ps.take k) a ++ if ps[k].n == a then [ps[k]] else []) := filt_succ _ _ _ hlt
      have hlen : (wnL (ps.take k) a).length ≤ 801 := by unfold wnL; have := List.length_filter_le (fun p : Pk => p.n == a) (ps.take k); simp at this; omega
      clear hv
      generalize ps[k] = p at *
      by_cases e1 : ¬ p.n = a
      · have e1' : ((p.n : Int) == a) = false := by rw [beq_eq_false_iff_ne]; omega
        have HO2 : Hid (PO w wr u5 (wnL (ps.take (k + 1)) a)) := by show PO _ _ _ _; rw [HS.out]; simpa [e1] using HO.out
        clear e1 HS
        go_wp2
        go_roundw
        case rel => exact ⟨k + 1, by omega, by go_num, HO2.out.alloc _, hb.alloc hbs _⟩
        case measure => simp [intOf]; omega
      · have e1' : ((p.n : Int) == a) = true := by rw [beq_iff_eq]; omega
        obtain ⟨css, hown, hal⟩ := HO.out
        have HAL : Hid (All2 (PvC w) css (wnL (ps.take k) a)) := hal
        have HS2 : Hid (wnL (ps.take (k + 1)) a = wnL (ps.take k) a ++ [p]) := by show _ = _; rw [HS.out]; simp [Decidable.of_not_not e1]
        clear e1 hal HO HS
        generalize wnL (ps.take k) a = acc at *
        go_wp2_with (at_builtin; refine wpList_append_own _ rfl _ _ 47 rfl w.heap.size 101 i0 (.agg #[.int .u8 0, .int .u8 0, .int .i64 0, .slice none 0 0, .slice none 0 0, .slice none 0 0]) 6 88 Tryz.underlying47 hi0 hz0 hz1 hz2 rfl (by decide) _ _ _ rfl ((hown.alloc _).alloc _) ⟨wr.heap.size + 1, 0, none⟩ 1 1 (pkCells p (.slice an nn cn) (.slice ac nc cc) (.slice ap np cp)) rfl rfl ?c1 ?c2 ?c3 ?c4 ?c5 ?_)
        case c1 => have := cell_new (wr.alloc (.cells (pkCells p (.slice an nn cn) (.slice ac nc cc) (.slice ap np cp)).toArray 101)) (pkCells p (.slice an nn cn) (.slice ac nc cc) (.slice ap np cp)) 101; rw [World.size_alloc] at this; exact this
        case c2 => intro u hu; simp [pkCells] at hu; rcases hu with rfl | rfl | rfl | rfl | rfl | rfl <;> rfl
        case c3 => unfold maxLen; omega
        case c4 => omega
        case c5 => simp; omega
        intro v' w2 hown' hgrow _
        have HB2 : Hid (Below w.heap.size w w2) := ((hb.alloc hbs _).alloc (by simp; omega) _).grown hgrow (by simp; omega) (fun j hj => (hown.lt j hj).1)
        have HO2 : Hid (PO w w2 v' (wnL (ps.take (k + 1)) a)) := by
          show PO _ _ _ _
          rw [HS2.out]
          exact ⟨css ++ [pkCells p (.slice an nn cn) (.slice ac nc cc) (.slice ap np cp)], by simpa using hown', All2.snoc ⟨_, _, _, _, _, _, _, _, _, rfl, HV.out⟩ HAL.out⟩
        clear hown' hgrow hown
        go_wp2
        go_roundw
        case rel => exact ⟨k + 1, by omega, by go_num, HO2, HB2.out⟩
        case measure => simp [intOf]; omega
    · have HO' : Hid (PO w wr u5 (wnL ps a)) := by have := HO.out; rw [List.take_of_length_le (by omega)] at this; exact this
      obtain ⟨r, c, rfl, hpv⟩ := HO'.out.pv hb (by unfold wnL; have := List.length_filter_le (fun p : Pk => p.n == a) ps; omega)
      go_wp2
      go_ret
      exact ⟨r, c, rfl, hb, hpv⟩

end Go.Proofs.YthgabjpffenjmaaGreatDoor

namespace Go.Proofs.YthgabjpffenjmaaGreatDoor
open Go.RowKit

def fdB (ps : List Pk) (c : Cn) : Bool := ps.any fun p => fitB p c
def ndB (ps : List Pk) (n : List Cn) : Bool := n.any (fdB ps)
def nmetB (ps : List Pk) (l : List (List Cn)) : Bool := l.all (ndB ps)

set_option maxHeartbeats 1600000 in
set_option maxRecDepth 100000 in
theorem pk_met (a : Option Addr) (n c : Nat) (L : List Cn) (ao : Option Addr) (cap : Nat) (ps : List Pk) (w : World) (hc : CV w (.slice a n c) L) (hp : PV w ao ps) :
    Calls Tryz.prog 95 #[.agg #[.slice a n c], .slice ao ps.length cap] w fun e w' => e = .returned (.bool (ndB ps L)) ∧ Below w.heap.size w w' := by
  obtain ⟨hl, a', c', e, hrow⟩ := hc
  injection e with e1 e2 e3
  subst e1 e2 e3
  have HR : Hid _ := hrow
  have HV : Hid (∀ w', Below w.heap.size w w' → PV w' ao ps) := fun w' hb => hp.below hb
  clear hrow hp
  go_enter Tryz.func95, Tryz.ntmps95
  go_wp2
  go_loopw [10] (fun i wr => ∃ k : Nat, k ≤ L.length ∧ i = .int .i64 k ∧ Hid (ndB ps L = ndB ps (L.drop k)) ∧ Below w.heap.size w wr) (fun i _ => L.length - (intOf i).toNat)
  case atStart => exact ⟨0, by omega, rfl, by show _ = _; simp, (Below.refl _ _).alloc (Nat.le_refl _) _⟩
  case round =>
    obtain ⟨k, hk, rfl, HP, hb⟩ := hrel
    have hbs := hb.size
    by_cases hlt : k < L.length
    · obtain ⟨g, off, rfl, hg, x0, x1, x2⟩ := HR.out k hlt
      rw [← hb.cell (p := ⟨g, _, none⟩) hg] at x0 x1 x2
      have HD : Hid (ndB ps (L.drop k) = (fdB ps L[k] || ndB ps (L.drop (k + 1)))) := by show _ = _; rw [List.drop_eq_getElem_cons hlt]; rfl
      have HBA : Hid (Below w.heap.size w (wr.alloc (.cells #[.int .u8 L[k].n, .int .u8 L[k].s, .int .u8 L[k].v] 138))) := hb.alloc hbs _
      generalize L[k] = C at *
      cases hf : fdB ps C with
      | true =>
        have HF : Hid (ndB ps L = true) := by show _ = _; rw [HP.out, HD.out, hf]; rfl
        have HE : Hid ((ps.any fun p => fitB p C) = true) := hf
        clear hf
        go_wp2_with fail
        refine (doc_Fitted ao cap ps C _ (HV.out _ HBA.out)).mono ?_
        rintro e w1 ⟨rfl, hb1⟩
        rw [HE.out]
        go_wp2
        go_ret
        exact ⟨ret_bool HF.out.symm, HBA.out.trans (hb1.mono (by simp; omega))⟩
      | false =>
        have HF : Hid (ndB ps L = ndB ps (L.drop (k + 1))) := by show _ = _; rw [HP.out, HD.out, hf]; rfl
        have HE : Hid ((ps.any fun p => fitB p C) = false) := hf
        clear hf
        go_wp2_with fail
        refine (doc_Fitted ao cap ps C _ (HV.out _ HBA.out)).mono ?_
        rintro e w1 ⟨rfl, hb1⟩
        rw [HE.out]
        have HB2 : Hid (Below w.heap.size w w1) := HBA.out.trans (hb1.mono (by simp; omega))
        clear hb1
        go_wp2
        go_roundw
        case rel => exact ⟨k + 1, by omega, by go_num, HF, HB2.out⟩
        case measure => simp [intOf]; omega
    · have HF : Hid (ndB ps L = false) := by show _ = _; rw [HP.out, List.drop_of_length_le (by omega)]; rfl
      go_wp2
      go_ret
      exact ⟨ret_bool HF.out.symm, hb⟩

set_option maxHeartbeats 1600000 in
set_option maxRecDepth 100000 in
theorem pk_installed (v : Value) (L : List Cn) (ao : Option Addr) (cap : Nat) (ps : List Pk) (w : World) (hc : CV w v L) (hp : PV w ao ps) :
    Calls Tryz.prog 56 #[v, .slice ao ps.length cap] w fun e w' => e = .returned (.bool (L.all (fdB ps))) ∧ Below w.heap.size w w' := by
  obtain ⟨hl, a, c, rfl, hrow⟩ := hc
  have HR : Hid _ := hrow
  have HV : Hid (∀ w', Below w.heap.size w w' → PV w' ao ps) := fun w' hb => hp.below hb
  clear hrow hp
  go_enter Tryz.func56, Tryz.ntmps56
  go_wp2
  go_loopw [9] (fun i wr => ∃ k : Nat, k ≤ L.length ∧ i = .int .i64 k ∧ Hid (L.all (fdB ps) = (L.drop k).all (fdB ps)) ∧ Below w.heap.size w wr) (fun i _ => L.length - (intOf i).toNat)
  case atStart => exact ⟨0, by omega, rfl, by show _ = _; simp, Below.refl _ _⟩
  case round =>
    obtain ⟨k, hk, rfl, HP, hb⟩ := hrel
    have hbs := hb.size
    by_cases hlt : k < L.length
    · obtain ⟨g, off, rfl, hg, x0, x1, x2⟩ := HR.out k hlt
      rw [← hb.cell (p := ⟨g, _, none⟩) hg] at x0 x1 x2
      have HD : Hid ((L.drop k).all (fdB ps) = (fdB ps L[k] && (L.drop (k + 1)).all (fdB ps))) := by show _ = _; rw [List.drop_eq_getElem_cons hlt]; rfl
      have HBA : Hid (Below w.heap.size w (wr.alloc (.cells #[.int .u8 L[k].n, .int .u8 L[k].s, .int .u8 L[k].v] 138))) := hb.alloc hbs _
      generalize L[k] = C at *
      cases hf : fdB ps C with
      | false =>
        have HF : Hid (L.all (fdB ps) = false) := by show _ = _; rw [HP.out, HD.out, hf]; rfl
        have HE : Hid ((ps.any fun p => fitB p C) = false) := hf
        clear hf
        go_wp2_with fail
        refine (doc_Fitted ao cap ps C _ (HV.out _ HBA.out)).mono ?_
        rintro e w1 ⟨rfl, hb1⟩
        rw [HE.out]
        go_wp2
        go_ret
        exact ⟨ret_bool HF.out.symm, HBA.out.trans (hb1.mono (by simp; omega))⟩
      | true =>
        have HF : Hid (L.all (fdB ps) = (L.drop (k + 1)).all (fdB ps)) := by show _ = _; rw [HP.out, HD.out, hf]; rfl
        have HE : Hid ((ps.any fun p => fitB p C) = true) := hf
        clear hf
        go_wp2_with fail
        refine (doc_Fitted ao cap ps C _ (HV.out _ HBA.out)).mono ?_
        rintro e w1 ⟨rfl, hb1⟩
        rw [HE.out]
        have HB2 : Hid (Below w.heap.size w w1) := HBA.out.trans (hb1.mono (by simp; omega))
        clear hb1
        go_wp2
        go_roundw
        case rel => exact ⟨k + 1, by omega, by go_num, HF, HB2.out⟩
        case measure => simp [intOf]; omega
    · have HF : Hid (L.all (fdB ps) = true) := by show _ = _; rw [HP.out, List.drop_of_length_le (by omega)]; rfl
      go_wp2
      go_ret
      exact ⟨ret_bool HF.out.symm, hb⟩

set_option maxHeartbeats 1600000 in
set_option maxRecDepth 100000 in
theorem pk_removed (v : Value) (L : List Cn) (ao : Option Addr) (cap : Nat) (ps : List Pk) (w : World) (hc : CV w v L) (hp : PV w ao ps) :
    Calls Tryz.prog 57 #[v, .slice ao ps.length cap] w fun e w' => e = .returned (.bool (L.all fun c => !fdB ps c)) ∧ Below w.heap.size w w' := by
  obtain ⟨hl, a, c, rfl, hrow⟩ := hc
  have HR : Hid _ := hrow
  have HV : Hid (∀ w', Below w.heap.size w w' → PV w' ao ps) := fun w' hb => hp.below hb
  clear hrow hp
  go_enter Tryz.func57, Tryz.ntmps57
  go_wp2
  go_loopw [9] (fun i wr => ∃ k : Nat, k ≤ L.length ∧ i = .int .i64 k ∧ Hid ((L.all fun c => !fdB ps c) = (L.drop k).all fun c => !fdB ps c) ∧ Below w.heap.size w wr) (fun i _ => L.length - (intOf i).toNat)
  case atStart => exact ⟨0, by omega, rfl, by show _ = _; simp, Below.refl _ _⟩
  case round =>
    obtain ⟨k, hk, rfl, HP, hb⟩ := hrel
    have hbs := hb.size
    by_cases hlt : k < L.length
    · obtain ⟨g, off, rfl, hg, x0, x1, x2⟩ := HR.out k hlt
      rw [← hb.cell (p := ⟨g, _, none⟩) hg] at x0 x1 x2
      have HD : Hid (((L.drop k).all fun c => !fdB ps c) = (!fdB ps L[k] && (L.drop (k + 1)).all fun c => !fdB ps c)) := by show _ = _; rw [List.drop_eq_getElem_cons hlt]; rfl
      have HBA : Hid (Below w.heap.size w (wr.alloc (.cells #[.int .u8 L[k].n, .int .u8 L[k].s, .int .u8 L[k].v] 138))) := hb.alloc hbs _
      generalize L[k] = C at *
      cases hf : fdB ps C with
      | true =>
        have HF : Hid ((L.all fun c => !fdB ps c) = false) := by show _ = _; rw [HP.out, HD.out, hf]; rfl
        have HE : Hid ((ps.any fun p => fitB p C) = true) := hf
        clear hf
        go_wp2_with fail
        refine (doc_Fitted ao cap ps C _ (HV.out _ HBA.out)).mono ?_
        rintro e w1 ⟨rfl, hb1⟩
        rw [HE.out]
        go_wp2
        go_ret
        exact ⟨ret_bool HF.out.symm, HBA.out.trans (hb1.mono (by simp; omega))⟩
      | false =>
        have HF : Hid ((L.all fun c => !fdB ps c) = (L.drop (k + 1)).all fun c => !fdB ps c) := by show _ = _; rw [HP.out, HD.out, hf]; rfl
        have HE : Hid ((ps.any fun p => fitB p C) = false) := hf
        clear hf
        go_wp2_with fail
        refine (doc_Fitted ao cap ps C _ (HV.out _ HBA.out)).mono ?_
        rintro e w1 ⟨rfl, hb1⟩
        rw [HE.out]
        have HB2 : Hid (Below w.heap.size w w1) := HBA.out.trans (hb1.mono (by simp; omega))
        clear hb1
        go_wp2
        go_roundw
        case rel => exact ⟨k + 1, by omega, by go_num, HF, HB2.out⟩
        case measure => simp [intOf]; omega
    · have HF : Hid ((L.all fun c => !fdB ps c) = true) := by show _ = _; rw [HP.out, List.drop_of_length_le (by omega)]; rfl
      go_wp2
      go_ret
      exact ⟨ret_bool HF.out.symm, hb⟩

set_option maxHeartbeats 1600000 in
set_option maxRecDepth 100000 in
theorem pk_needsMet (ao : Option Addr) (cap : Nat) (ps : List Pk) (w : World) (hp : PV w ao ps) :
    Calls Tryz.prog 53 #[.slice ao ps.length cap] w fun e w' => e = .returned (.bool (ps.all fun p => nmetB ps p.needs)) ∧ Below w.heap.size w w' := by
  have hl := hp.1
  have HR : Hid (∀ j (h : j < ps.length), PRw w ao j ps[j]) := hp.2
  have HV : Hid (∀ w', Below w.heap.size w w' → PV w' ao ps) := fun w' hb => hp.below hb
  clear hp
  go_enter Tryz.func53, Tryz.ntmps53
  go_wp2
  go_loopw [9] (fun i wr => ∃ k : Nat, k ≤ ps.length ∧ i = .int .i64 k ∧ Hid ((ps.all fun p => nmetB ps p.needs) = (ps.drop k).all fun p => nmetB ps p.needs) ∧ Below w.heap.size w wr) (fun i _ => ps.length - (intOf i).toNat)
  case atStart => exact ⟨0, by omega, rfl, by show _ = _; simp, Below.refl _ _⟩
  case round =>
    obtain ⟨k, hk, rfl, HP, hb⟩ := hrel
    have hbs := hb.size
    by_cases hlt : k < ps.length
    · obtain ⟨g, off, an, nn, cn, ac, nc, cc, ap, np, cp, rfl, hg, ⟨x0, x1, x2, x3, x4, x5⟩, hv⟩ := HR.out k hlt
      rw [← hb.cell (p := ⟨g, _, none⟩) hg] at x0 x1 x2 x3 x4 x5
      have HD : Hid (((ps.drop k).all fun p => nmetB ps p.needs) = (nmetB ps ps[k].needs && (ps.drop (k + 1)).all fun p => nmetB ps p.needs)) := by show _ = _; rw [List.drop_eq_getElem_cons hlt]; rfl
      have HBA : Hid (Below w.heap.size w (wr.alloc (.cells #[.int .u8 ps[k].n, .int .u8 ps[k].v, .int .i64 ps[k].m, .slice an nn cn, .slice ac nc cc, .slice ap np cp] 101))) := hb.alloc hbs _
      obtain ⟨hln, a', c', e', hrow⟩ := hv.1
      injection e' with e1 e2 e3
      subst e1 e2 e3
      have HN : Hid _ := hrow
      clear hv hrow
      generalize ps[k] = p at *
      generalize hL : p.needs = L at *
      clear hL
      generalize hRB : (ps.all fun p => nmetB ps p.needs) = RB at *
      generalize hRT : ((ps.drop (k + 1)).all fun p => nmetB ps p.needs) = RT at *
      have HRT : Hid (((ps.drop (k + 1)).all fun p => nmetB ps p.needs) = RT) := hRT
      have HRB : Hid ((ps.all fun p => nmetB ps p.needs) = RB) := hRB
      clear hRT hRB
      have HA : Hid (RB = (nmetB ps L && RT)) := by show _ = _; rw [HP.out, HD.out]
      clear HD HP
      go_wp2
      go_loopw [16] (fun i wx => ∃ j : Nat, j ≤ L.length ∧ i = .int .i64 j ∧ Hid (RB = (nmetB ps (L.drop j) && RT)) ∧ Below w.heap.size w wx) (fun i _ => L.length - (intOf i).toNat)
      case atStart => exact ⟨0, by omega, rfl, by show _ = _; simpa using HA.out, HBA.out⟩
      case round =>
        obtain ⟨j, hj, rfl, HQ, hbx⟩ := hrel
        have hbxs := hbx.size
        by_cases hltj : j < L.length
        · obtain ⟨g2, off2, a2, n2, c2, rfl, hg2, z0, hcv⟩ := HN.out j hltj
          rw [← hbx.cell (p := ⟨g2, _, none⟩) hg2] at z0
          have HC : Hid (∀ w', Below w.heap.size w w' → CV w' (.slice a2 n2 c2) L[j]) := fun w' hb => hcv.below hb
          have HE2 : Hid (nmetB ps (L.drop j) = (ndB ps L[j] && nmetB ps (L.drop (j + 1)))) := by show _ = _; rw [List.drop_eq_getElem_cons hltj]; rfl
          have HBB : Hid (Below w.heap.size w (wr.alloc (.cells #[.slice a2 n2 c2] 141))) := hbx.alloc hbxs _
          clear hcv
          generalize L[j] = N at *
          cases hf : ndB ps N with
          | false =>
            have HF : Hid (RB = false) := by show _ = _; rw [HQ.out, HE2.out, hf]; rfl
            have HE : Hid (ndB ps N = false) := hf
            clear hf
            go_wp2_with fail
            refine (pk_met a2 n2 c2 N (some ⟨g, off, none⟩) cap ps _ (HC.out _ HBB.out) (HV.out _ HBB.out)).mono ?_
            rintro e w1 ⟨rfl, hb1⟩
            rw [HE.out]
            go_wp2
            go_ret
            exact ⟨ret_bool (HF.out.symm.trans HRB.out.symm), HBB.out.trans (hb1.mono (by simp; omega))⟩
          | true =>
            have HF : Hid (RB = (nmetB ps (L.drop (j + 1)) && RT)) := by show _ = _; rw [HQ.out, HE2.out, hf]; rfl
            have HE : Hid (ndB ps N = true) := hf
            clear hf
            go_wp2_with fail
            refine (pk_met a2 n2 c2 N (some ⟨g, off, none⟩) cap ps _ (HC.out _ HBB.out) (HV.out _ HBB.out)).mono ?_
            rintro e w1 ⟨rfl, hb1⟩
            rw [HE.out]
            have HB2 : Hid (Below w.heap.size w w1) := HBB.out.trans (hb1.mono (by simp; omega))
            clear hb1
            go_wp2
            go_roundw
            case rel => exact ⟨j + 1, by omega, by go_num, HF, HB2.out⟩
            case measure => simp [intOf]; omega
        · have HF : Hid (RB = RT) := by show _ = _; rw [HQ.out, List.drop_of_length_le (by omega)]; rfl
          go_wp2
          go_roundw
          case rel => exact ⟨k + 1, by omega, by go_num, by show _ = _; rw [HRT.out]; exact HF.out, hbx⟩
          case measure => simp [intOf]; omega
    · have HF : Hid ((ps.all fun p => nmetB ps p.needs) = true) := by show _ = _; rw [HP.out, List.drop_of_length_le (by omega)]; rfl
      go_wp2
      go_ret
      exact ⟨ret_bool HF.out.symm, hb⟩

end Go.Proofs.YthgabjpffenjmaaGreatDoor
