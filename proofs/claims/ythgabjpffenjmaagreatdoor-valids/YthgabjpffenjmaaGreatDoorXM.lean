import Derived.Test.YthgabjpffenjmaaGreatDoorXL
import Derived.Deep.RegionHeld3

namespace Go.Proofs.YthgabjpffenjmaaGreatDoor
open Go.RowKit

/-- No package of those before and behind fits a conflict. -/
def nc1 (a b : List Pk) (c : Cn) : Bool := !(fdB a c || fdB b c)
def ncT (ps : List Pk) : Nat → Nat → Bool
  | 0, _ => true
  | f + 1, k => match ps[k]? with
    | none => true
    | some p => p.conf.all (nc1 (ps.take k) (ps.drop (k + 1))) && ncT ps f (k + 1)
def ncB (ps : List Pk) : Bool := ncT ps (ps.length + 1) 0

set_option maxHeartbeats 3200000 in
set_option maxRecDepth 100000 in
theorem pk_noConflict (ao : Option Addr) (cap : Nat) (ps : List Pk) (w : World) (hcap : ps.length ≤ cap) (hp : PV w ao ps) :
    Calls Tryz.prog 54 #[.slice ao ps.length cap] w fun e w' => e = .returned (.bool (ncB ps)) ∧ Below w.heap.size w w' := by
  have hl := hp.1
  have HR : Hid (∀ j (h : j < ps.length), PRw w ao j ps[j]) := hp.2
  have HV : Hid (∀ w', Below w.heap.size w w' → PV w' ao ps) := fun w' hb => hp.below hb
  clear hp
  go_enter Tryz.func54, Tryz.ntmps54
  go_wp2
  go_loopw [11] (fun i wr => ∃ k : Nat, k ≤ ps.length ∧ i = .int .i64 k ∧ Hid (ncB ps = ncT ps (ps.length + 1 - k) k) ∧ Below w.heap.size w wr) (fun i _ => ps.length - (intOf i).toNat)
  case atStart => exact ⟨0, by omega, rfl, by show _ = _; rfl, Below.refl _ _⟩
  case round =>
    obtain ⟨k, hk, rfl, HP, hb⟩ := hrel
    have hbs := hb.size
    by_cases hlt : k < ps.length
    · obtain ⟨g, off, an, nn, cn, ac, nc, cc, ap, np, cp, rfl, hg, ⟨x0, x1, x2, x3, x4, x5⟩, hv⟩ := HR.out k hlt
      rw [← hb.cell (p := ⟨g, _, none⟩) hg] at x0 x1 x2 x3 x4 x5
      have HD : Hid (ncT ps (ps.length + 1 - k) k = (ps[k].conf.all (nc1 (ps.take k) (ps.drop (k + 1))) && ncT ps (ps.length + 1 - (k + 1)) (k + 1))) := by
        show _ = _
        rw [show ps.length + 1 - k = (ps.length + 1 - (k + 1)) + 1 by omega, ncT, List.getElem?_eq_getElem hlt]
      have HBA : Hid (Below w.heap.size w (wr.alloc (.cells #[.int .u8 ps[k].n, .int .u8 ps[k].v, .int .i64 ps[k].m, .slice an nn cn, .slice ac nc cc, .slice ap np cp] 101))) := hb.alloc hbs _
      have hv2 := hv.2.1
      generalize ps[k] = p at *
      generalize hL : p.conf = L at *
      obtain ⟨hln, a', c', e', hrow⟩ := hv2
      injection e' with e1 e2 e3
      subst e1 e2 e3
      have HN : Hid _ := hrow
      clear hv hrow hL
      have HV1 : Hid (∀ w', Below w.heap.size w w' → PV w' (some ⟨g, off, none⟩) (ps.take k)) := fun w' hb => (HV.out w' hb).take k
      have HV3 : Hid (∀ w', Below w.heap.size w w' → PV w' (some ⟨g, off + ((k : Int) + 1).toNat * 6, none⟩) (ps.drop (k + 1))) := fun w' hb => by
        have e : ((k : Int) + 1).toNat = k + 1 := by omega
        rw [e]
        exact (HV.out w' hb).drop (k + 1)
      have hl1 : (ps.take k).length = k := by simp; omega
      have hl2 : (ps.drop (k + 1)).length = ps.length - ((k : Int) + 1).toNat := by simp
      generalize ps.take k = P1 at *
      generalize ps.drop (k + 1) = P2 at *
      generalize hRB : ncB ps = RB at *
      generalize hRT : ncT ps (ps.length + 1 - (k + 1)) (k + 1) = RT at *
      have HRT : Hid (ncT ps (ps.length + 1 - (k + 1)) (k + 1) = RT) := hRT
      have HRB : Hid (ncB ps = RB) := hRB
      clear hRT hRB
      have HA : Hid (RB = (L.all (nc1 P1 P2) && RT)) := by show _ = _; rw [HP.out, HD.out]
      clear HD HP
      obtain ⟨J1, hJ1⟩ : ∃ J : Int, (k : Int) + 1 = J := ⟨_, rfl⟩
      rw [hJ1] at HV3 hl2
      have hJw : IntKind.i64.wrap J1 = J1 := by rw [IntKind.wrap_i64]; omega
      have hJ0 : (0 : Int) ≤ J1 := by omega
      have hJn : J1 ≤ (ps.length : Int) := by omega
      have hk0 : (0 : Int) ≤ (k : Int) := by omega
      have hkc : (k : Int) ≤ (cap : Int) := by omega
      go_wp2
      go_loopw [19] (fun i wx => ∃ j : Nat, j ≤ L.length ∧ i = .int .i64 j ∧ Hid (RB = ((L.drop j).all (nc1 P1 P2) && RT)) ∧ Below w.heap.size w wx) (fun i _ => L.length - (intOf i).toNat)
      case atStart => exact ⟨0, by omega, rfl, by show _ = _; simpa using HA.out, HBA.out⟩
      case round =>
        obtain ⟨j, hj, rfl, HQ, hbx⟩ := hrel
        have hbxs := hbx.size
        by_cases hltj : j < L.length
        · obtain ⟨g2, off2, rfl, hg2, z0, z1, z2⟩ := HN.out j hltj
          rw [← hbx.cell (p := ⟨g2, _, none⟩) hg2] at z0 z1 z2
          have HE2 : Hid ((L.drop j).all (nc1 P1 P2) = (nc1 P1 P2 L[j] && (L.drop (j + 1)).all (nc1 P1 P2))) := by show _ = _; rw [List.drop_eq_getElem_cons hltj]; rfl
          generalize L[j] = C at *
          obtain ⟨b1, HE1⟩ : ∃ b, Hid ((P1.any fun p => fitB p C) = b) := ⟨_, rfl⟩
          obtain ⟨b2, HE2'⟩ : ∃ b, Hid ((P2.any fun p => fitB p C) = b) := ⟨_, rfl⟩
          have HF0 : Hid (RB = (!(b1 || b2) && (L.drop (j + 1)).all (nc1 P1 P2) && RT)) := by show _ = _; rw [HQ.out, HE2.out, ← HE1.out, ← HE2'.out]; rfl
          have HBB : Hid (Below w.heap.size w (wr.alloc (.cells #[.int .u8 C.n, .int .u8 C.s, .int .u8 C.v] 138))) := hbx.alloc hbxs _
          have d0 : (wr.alloc (.cells #[.int .u8 C.n, .int .u8 C.s, .int .u8 C.v] 138)).cell? ⟨wr.heap.size, 0, none⟩ = some (.int .u8 C.n) := by rw [cellAt (blk_new _ _)]; rfl
          have d1 : (wr.alloc (.cells #[.int .u8 C.n, .int .u8 C.s, .int .u8 C.v] 138)).cell? ⟨wr.heap.size, 1, none⟩ = some (.int .u8 C.s) := by rw [cellAt (blk_new _ _)]; rfl
          have d2 : (wr.alloc (.cells #[.int .u8 C.n, .int .u8 C.s, .int .u8 C.v] 138)).cell? ⟨wr.heap.size, 2, none⟩ = some (.int .u8 C.v) := by rw [cellAt (blk_new _ _)]; rfl
          go_wp2_with fail
          go_region_held3 (fun w' => w'.cell? ⟨wr.heap.size, 0, none⟩ = some (.int .u8 C.n) ∧ w'.cell? ⟨wr.heap.size, 1, none⟩ = some (.int .u8 C.s) ∧ w'.cell? ⟨wr.heap.size, 2, none⟩ = some (.int .u8 C.v)) (first | exact ⟨d0, d1, d2⟩ | exact ⟨dcell0 (by assumption) d0, dcell0 (by assumption) d1, dcell0 (by assumption) d2⟩)
            (first | (go_at_call 96; rw [← hl1]; refine (doc_Fitted (some ⟨g, off, none⟩) cap P1 C _ (HV1.out _ (Below.drew HBB.out))).mono ?_; rintro e w1 ⟨rfl, hb1⟩; rw [HE1.out]; have HB1 : Hid (Below w.heap.size w w1) := HBB.out.trans ((below_drew0 hb1).mono (by simp; omega)); have d0' := dcell0 hb1 d0; have d1' := dcell0 hb1 d1; have d2' := dcell0 hb1 d2))
          all_goals (try go_wp2_with fail)
          clear hb1 d0 d1 d2 HBB
          rcases Decidable.em (cap = J1.toNat) with hcj | hcj
          · obtain rfl : P2 = [] := List.eq_nil_of_length_eq_zero (by omega)
            replace hcj := hcj.symm
            go_region_held3 (fun w' => w'.cell? ⟨wr.heap.size, 0, none⟩ = some (.int .u8 C.n) ∧ w'.cell? ⟨wr.heap.size, 1, none⟩ = some (.int .u8 C.s) ∧ w'.cell? ⟨wr.heap.size, 2, none⟩ = some (.int .u8 C.v)) (first | exact ⟨d0', d1', d2'⟩ | exact ⟨dcell0 (by assumption) d0', dcell0 (by assumption) d1', dcell0 (by assumption) d2'⟩)
              (first | (go_at_call 96; refine (doc_Fitted (some ⟨g, off, none⟩) 0 [] C _ (PV.nil _ _)).mono ?_; rintro e w2 ⟨rfl, hb2⟩; rw [HE2'.out]; have HB2 : Hid (Below w.heap.size w w2) := HB1.out.trans ((below_drew0 hb2).mono HB1.out.size)))
            clear d0' d1' d2'
            cases b1 with
            | true =>
              have HF : Hid (RB = false) := by show _ = _; rw [HF0.out]; rfl
              go_wp2
              go_ret
              exact ⟨ret_bool (HF.out.symm.trans HRB.out.symm), HB2.out⟩
            | false =>
              cases b2 with
              | true =>
                have HF : Hid (RB = false) := by show _ = _; rw [HF0.out]; rfl
                go_wp2
                go_ret
                exact ⟨ret_bool (HF.out.symm.trans HRB.out.symm), HB2.out⟩
              | false =>
                have HF : Hid (RB = ((L.drop (j + 1)).all (nc1 P1 []) && RT)) := by show _ = _; rw [HF0.out]; rfl
                go_wp2
                go_roundw
                case rel => exact ⟨j + 1, by omega, by go_num, HF, HB2.out⟩
                case measure => simp [intOf]; omega
          · go_region_held3 (fun w' => w'.cell? ⟨wr.heap.size, 0, none⟩ = some (.int .u8 C.n) ∧ w'.cell? ⟨wr.heap.size, 1, none⟩ = some (.int .u8 C.s) ∧ w'.cell? ⟨wr.heap.size, 2, none⟩ = some (.int .u8 C.v)) (first | exact ⟨d0', d1', d2'⟩ | exact ⟨dcell0 (by assumption) d0', dcell0 (by assumption) d1', dcell0 (by assumption) d2'⟩)
              (first | (go_at_call 96; rw [← hl2]; refine (doc_Fitted (some ⟨g, off + J1.toNat * 6, none⟩) _ P2 C _ (HV3.out _ (Below.drew HB1.out))).mono ?_; rintro e w2 ⟨rfl, hb2⟩; rw [HE2'.out]; have HB2 : Hid (Below w.heap.size w w2) := HB1.out.trans ((below_drew0 hb2).mono HB1.out.size)))
            clear d0' d1' d2'
            cases b1 with
            | true =>
              have HF : Hid (RB = false) := by show _ = _; rw [HF0.out]; rfl
              go_wp2
              go_ret
              exact ⟨ret_bool (HF.out.symm.trans HRB.out.symm), HB2.out⟩
            | false =>
              cases b2 with
              | true =>
                have HF : Hid (RB = false) := by show _ = _; rw [HF0.out]; rfl
                go_wp2
                go_ret
                exact ⟨ret_bool (HF.out.symm.trans HRB.out.symm), HB2.out⟩
              | false =>
                have HF : Hid (RB = ((L.drop (j + 1)).all (nc1 P1 P2) && RT)) := by show _ = _; rw [HF0.out]; rfl
                go_wp2
                go_roundw
                case rel => exact ⟨j + 1, by omega, by go_num, HF, HB2.out⟩
                case measure => simp [intOf]; omega
        · have HF : Hid (RB = RT) := by show _ = _; rw [HQ.out, List.drop_of_length_le (by omega)]; rfl
          go_wp2
          go_roundw
          case rel => exact ⟨k + 1, by omega, by go_num, by show _ = _; rw [HRT.out]; exact HF.out, hbx⟩
          case measure => simp [intOf]; omega
    · have HF : Hid (ncB ps = true) := by
        show _ = _
        have hk' : k = ps.length := by omega
        rw [HP.out, hk', show ps.length + 1 - ps.length = 0 + 1 by omega, ncT, List.getElem?_eq_none (by omega)]
      go_wp2
      go_ret
      exact ⟨ret_bool HF.out.symm, hb⟩

end Go.Proofs.YthgabjpffenjmaaGreatDoor

namespace Go.Proofs.YthgabjpffenjmaaGreatDoor
open Go.RowKit

def mk1 (pq : List Pk) (p : Pk) : Bool := !(p.m == 2 && !amB pq p.n p.v) && !(p.m == 3 && !hnB pq p.n)

set_option maxHeartbeats 3200000 in
set_option maxRecDepth 100000 in
theorem pk_marksKept (ao : Option Addr) (cap : Nat) (ps : List Pk) (aq : Option Addr) (cq : Nat) (pq : List Pk) (w : World) (hp : PV w ao ps) (hq : PV w aq pq) :
    Calls Tryz.prog 55 #[.slice ao ps.length cap, .slice aq pq.length cq] w fun e w' => e = .returned (.bool (ps.all (mk1 pq))) ∧ Below w.heap.size w w' := by
  have hl := hp.1
  have hlq := hq.1
  have HR : Hid (∀ j (h : j < ps.length), PkRw w ao j ps[j]) := hp.rows
  have HV : Hid (∀ w', Below w.heap.size w w' → PV w' aq pq) := fun w' hb => hq.below hb
  clear hp hq
  go_enter Tryz.func55, Tryz.ntmps55
  go_wp2
  go_loopw [9] (fun i wr => ∃ k : Nat, k ≤ ps.length ∧ i = .int .i64 k ∧ Hid (ps.all (mk1 pq) = (ps.drop k).all (mk1 pq)) ∧ Below w.heap.size w wr) (fun i _ => ps.length - (intOf i).toNat)
  case atStart => exact ⟨0, by omega, rfl, by show _ = _; simp, Below.refl _ _⟩
  case round =>
    obtain ⟨k, hk, rfl, HP, hb⟩ := hrel
    have hbs := hb.size
    by_cases hlt : k < ps.length
    · obtain ⟨g, off, an, nn, cn, ac, nc, cc, ap, np, cp, rfl, hg, x0, x1, x2, x3, x4, x5⟩ := HR.out k hlt
      rw [← hb.cell (p := ⟨g, _, none⟩) hg] at x0 x1 x2 x3 x4 x5
      have HD : Hid ((ps.drop k).all (mk1 pq) = (mk1 pq ps[k] && (ps.drop (k + 1)).all (mk1 pq))) := by show _ = _; rw [List.drop_eq_getElem_cons hlt]; rfl
      have HBA : Hid (Below w.heap.size w (wr.alloc (.cells #[.int .u8 ps[k].n, .int .u8 ps[k].v, .int .i64 ps[k].m, .slice an nn cn, .slice ac nc cc, .slice ap np cp] 101))) := hb.alloc hbs _
      have hblk := blk_new wr (.cells #[.int .u8 ps[k].n, .int .u8 ps[k].v, .int .i64 ps[k].m, .slice an nn cn, .slice ac nc cc, .slice ap np cp] 101)
      have HBK : Hid _ := hblk
      clear hblk
      generalize ps[k] = p at *
      by_cases h2 : p.m = 2
      · have e2 : ((p.m : Int) == 2) = true := by rw [beq_iff_eq]; omega
        have e3 : ((p.m : Int) == 3) = false := by rw [beq_eq_false_iff_ne]; omega
        cases hf : amB pq p.n p.v with
        | true =>
          have HF : Hid (ps.all (mk1 pq) = (ps.drop (k + 1)).all (mk1 pq)) := by show _ = _; rw [HP.out, HD.out]; simp [mk1, h2, hf]
          have HE : Hid (amB pq p.n p.v = true) := hf
          clear hf h2
          go_wp2_with fail
          refine (doc_Has aq pq.length cq pq p.n p.v _ hlq rfl (HV.out _ HBA.out).rows).mono ?_
          rintro e w1 ⟨rfl, hb1⟩
          rw [HE.out]
          have HB2 : Hid (Below w.heap.size w w1) := HBA.out.trans (hb1.mono (by simp; omega))
          have y2 := cellAt (blk_below hb1 HBK.out (by simp)) 2
          simp at y2
          clear hb1
          go_wp2
          go_roundw
          case rel => exact ⟨k + 1, by omega, by go_num, HF, HB2.out⟩
          case measure => simp [intOf]; omega
        | false =>
          have HF : Hid (ps.all (mk1 pq) = false) := by show _ = _; rw [HP.out, HD.out]; simp [mk1, h2, hf]
          have HE : Hid (amB pq p.n p.v = false) := hf
          clear hf h2
          go_wp2_with fail
          refine (doc_Has aq pq.length cq pq p.n p.v _ hlq rfl (HV.out _ HBA.out).rows).mono ?_
          rintro e w1 ⟨rfl, hb1⟩
          rw [HE.out]
          have HB2 : Hid (Below w.heap.size w w1) := HBA.out.trans (hb1.mono (by simp; omega))
          clear hb1
          go_wp2
          go_ret
          exact ⟨ret_bool HF.out.symm, HB2.out⟩
      · have e2 : ((p.m : Int) == 2) = false := by rw [beq_eq_false_iff_ne]; omega
        by_cases h3 : p.m = 3
        · have e3 : ((p.m : Int) == 3) = true := by rw [beq_iff_eq]; omega
          cases hf : hnB pq p.n with
          | true =>
            have HF : Hid (ps.all (mk1 pq) = (ps.drop (k + 1)).all (mk1 pq)) := by show _ = _; rw [HP.out, HD.out]; simp [mk1, h3, hf]
            have HE : Hid (hnB pq p.n = true) := hf
            clear hf h2 h3
            go_wp2_with fail
            refine (doc_HasName aq cq pq p.n _ (HV.out _ HBA.out)).mono ?_
            rintro e w1 ⟨rfl, hb1⟩
            rw [HE.out]
            have HB2 : Hid (Below w.heap.size w w1) := HBA.out.trans (hb1.mono (by simp; omega))
            clear hb1
            go_wp2
            go_roundw
            case rel => exact ⟨k + 1, by omega, by go_num, HF, HB2.out⟩
            case measure => simp [intOf]; omega
          | false =>
            have HF : Hid (ps.all (mk1 pq) = false) := by show _ = _; rw [HP.out, HD.out]; simp [mk1, h3, hf]
            have HE : Hid (hnB pq p.n = false) := hf
            clear hf h2 h3
            go_wp2_with fail
            refine (doc_HasName aq cq pq p.n _ (HV.out _ HBA.out)).mono ?_
            rintro e w1 ⟨rfl, hb1⟩
            rw [HE.out]
            have HB2 : Hid (Below w.heap.size w w1) := HBA.out.trans (hb1.mono (by simp; omega))
            clear hb1
            go_wp2
            go_ret
            exact ⟨ret_bool HF.out.symm, HB2.out⟩
        · have e3 : ((p.m : Int) == 3) = false := by rw [beq_eq_false_iff_ne]; omega
          have HF : Hid (ps.all (mk1 pq) = (ps.drop (k + 1)).all (mk1 pq)) := by show _ = _; rw [HP.out, HD.out]; simp [mk1, h2, h3]
          clear h2 h3
          go_wp2
          go_roundw
          case rel => exact ⟨k + 1, by omega, by go_num, HF, HBA.out⟩
          case measure => simp [intOf]; omega
    · have HF : Hid (ps.all (mk1 pq) = true) := by show _ = _; rw [HP.out, List.drop_of_length_le (by omega)]; rfl
      go_wp2
      go_ret
      exact ⟨ret_bool HF.out.symm, hb⟩

end Go.Proofs.YthgabjpffenjmaaGreatDoor

namespace Go.Proofs.YthgabjpffenjmaaGreatDoor
open Go.RowKit

def upV (now : List Pk) (c : Cn) : List Pk → Bool
  | [q] => !(decide (q.v < gtT now c.n)) && fitB q c
  | _ => false
def up1 (now pq : List Pk) (c : Cn) : Bool := upV now c (wnL pq c.n)

set_option maxHeartbeats 3200000 in
set_option maxRecDepth 100000 in
theorem pk_upgraded (ao : Option Addr) (cap : Nat) (ps : List Pk) (ai : Option Addr) (ni ci : Nat) (ar : Option Addr) (nr cr : Nat) (au : Option Addr) (nu cu : Nat) (L : List Cn) (aq : Option Addr) (cq : Nat) (pq : List Pk) (w : World) (hp : PV w ao ps) (hc : CV w (.slice au nu cu) L) (hq : PV w aq pq) :
    Calls Tryz.prog 58 #[.agg #[.slice ao ps.length cap, .slice ai ni ci, .slice ar nr cr, .slice au nu cu], .slice aq pq.length cq] w fun e w' => e = .returned (.bool (L.all (up1 (nowL ps) pq))) ∧ Below w.heap.size w w' := by
  have hl := hp.1
  have hlq := hq.1
  have HN0 : Hid (∀ w', Below w.heap.size w w' → PV w' ao ps) := fun w' hb => hp.below hb
  have HV : Hid (∀ w', Below w.heap.size w w' → PV w' aq pq) := fun w' hb => hq.below hb
  obtain ⟨hln, a', c', e', hrow⟩ := hc
  injection e' with e1 e2 e3
  subst e1 e2 e3
  have HR : Hid _ := hrow
  have HBA : Hid (Below w.heap.size w (w.alloc (.cells #[.slice ao ps.length cap, .slice ai ni ci, .slice ar nr cr, .slice au L.length cu] 50))) := (Below.refl _ _).alloc (Nat.le_refl _) _
  have HBK : Hid ((w.alloc (.cells #[.slice ao ps.length cap, .slice ai ni ci, .slice ar nr cr, .slice au L.length cu] 50)).heap[w.heap.size]? = some (.cells #[.slice ao ps.length cap, .slice ai ni ci, .slice ar nr cr, .slice au L.length cu] 50 (0, 0))) := blk_new _ _
  clear hp hq hrow
  go_enter Tryz.func58, Tryz.ntmps58
  go_wp2_with fail
  refine (doc_Now ao cap ps _ (HN0.out _ HBA.out)).mono ?_
  rintro e w1 ⟨an, cn, rfl, hb1, hpn⟩
  have hw1 : w.heap.size < w1.heap.size := by have := hb1.size; simp at this; omega
  have HB1 : Hid (Below w.heap.size w w1) := HBA.out.trans (hb1.mono (by simp))
  have y3 := cellAt (blk_below hb1 HBK.out (by simp)) 3
  simp at y3
  have HNW : Hid (∀ w', Below w1.heap.size w1 w' → PV w' an (nowL ps)) := fun w' hb => hpn.below hb
  have hnl := hpn.1
  clear hb1 hpn HBA HBK
  generalize hNE : nowL ps = NW at *
  have HNE : Hid (nowL ps = NW) := hNE
  clear hNE
  go_wp2
  go_loopw [17] (fun i wr => ∃ k : Nat, k ≤ L.length ∧ i = .int .i64 k ∧ Hid (L.all (up1 NW pq) = (L.drop k).all (up1 NW pq)) ∧ Below w1.heap.size w1 wr) (fun i _ => L.length - (intOf i).toNat)
  case atStart => exact ⟨0, by omega, rfl, by show _ = _; simp, Below.refl _ _⟩
  case round =>
    obtain ⟨k, hk, rfl, HP, hb⟩ := hrel
    have hbs := hb.size
    have hbw : Below w.heap.size w wr := HB1.out.trans (hb.mono (by omega))
    by_cases hlt : k < L.length
    · obtain ⟨g, off, rfl, hg, x0, x1, x2⟩ := HR.out k hlt
      rw [← hbw.cell (p := ⟨g, _, none⟩) hg] at x0 x1 x2
      have HD : Hid ((L.drop k).all (up1 NW pq) = (up1 NW pq L[k] && (L.drop (k + 1)).all (up1 NW pq))) := by show _ = _; rw [List.drop_eq_getElem_cons hlt]; rfl
      generalize L[k] = C at *
      have HBA : Hid (Below w1.heap.size w1 (wr.alloc (.cells #[.int .u8 C.n, .int .u8 C.s, .int .u8 C.v] 138))) := hb.alloc hbs _
      have HBW : Hid (Below w.heap.size w (wr.alloc (.cells #[.int .u8 C.n, .int .u8 C.s, .int .u8 C.v] 138))) := hbw.alloc (by omega) _
      have HBC : Hid ((wr.alloc (.cells #[.int .u8 C.n, .int .u8 C.s, .int .u8 C.v] 138)).heap[wr.heap.size]? = some (.cells #[.int .u8 C.n, .int .u8 C.s, .int .u8 C.v] 138 (0, 0))) := blk_new _ _
      clear hb hbw
      obtain ⟨V, hV⟩ : ∃ V, wnL pq C.n = V := ⟨_, rfl⟩
      have HVE : Hid (wnL pq C.n = V) := hV
      have HU : Hid (up1 NW pq C = upV NW C V) := by show _ = _; unfold up1; rw [hV]
      clear hV
      match V, HVE, HU with
      | [q], HVE, HU =>
        have HU' : Hid (up1 NW pq C = (!(decide (q.v < gtT NW C.n)) && fitB q C)) := HU
        clear HU
        go_wp2_with fail
        refine (doc_WithName aq cq pq C.n _ (HV.out _ HBW.out)).mono ?_
        rintro e w2 ⟨r, rc, rfl, hb2, hp2⟩
        rw [HVE.out] at hp2 ⊢
        obtain ⟨g2, off2, an2, nn2, cn2, ac2, nc2, cc2, ap2, np2, cp2, rfl, hg2, ⟨z0, z1, z2, z3, z4, z5⟩, hv2⟩ := hp2.2 0 (by simp)
        simp only [List.getElem_cons_zero, Nat.zero_mul, Nat.add_zero] at z0 z1 z2 z3 z4 z5 hv2
        have HB2 : Hid (Below w1.heap.size w1 w2) := HBA.out.trans (hb2.mono (by simp; omega))
        have HQV : Hid (∀ w', Below w2.heap.size w2 w' → PkV w' q an2 nn2 cn2 ac2 nc2 cc2 ap2 np2 cp2) := fun w' hb => hv2.below hb
        have HC2 : Hid (w2.heap[wr.heap.size]? = some (.cells #[.int .u8 C.n, .int .u8 C.s, .int .u8 C.v] 138 (0, 0))) := blk_below hb2 HBC.out (by simp)
        have hw2 : wr.heap.size < w2.heap.size := ltAt HC2.out
        have c0 : w2.cell? ⟨wr.heap.size, 0, none⟩ = some (.int .u8 C.n) := by rw [cellAt HC2.out]; rfl
        have c1 : w2.cell? ⟨wr.heap.size, 1, none⟩ = some (.int .u8 C.s) := by rw [cellAt HC2.out]; rfl
        have c2 : w2.cell? ⟨wr.heap.size, 2, none⟩ = some (.int .u8 C.v) := by rw [cellAt HC2.out]; rfl
        have HBQ : Hid ((w2.alloc (.cells #[.int .u8 q.n, .int .u8 q.v, .int .i64 q.m, .slice an2 nn2 cn2, .slice ac2 nc2 cc2, .slice ap2 np2 cp2] 101)).heap[w2.heap.size]? = some (.cells #[.int .u8 q.n, .int .u8 q.v, .int .i64 q.m, .slice an2 nn2 cn2, .slice ac2 nc2 cc2, .slice ap2 np2 cp2] 101 (0, 0))) := blk_new _ _
        have HB2a : Hid (Below w1.heap.size w1 (w2.alloc (.cells #[.int .u8 q.n, .int .u8 q.v, .int .i64 q.m, .slice an2 nn2 cn2, .slice ac2 nc2 cc2, .slice ap2 np2 cp2] 101))) := HB2.out.alloc HB2.out.size _
        have HC2a : Hid ((w2.alloc (.cells #[.int .u8 q.n, .int .u8 q.v, .int .i64 q.m, .slice an2 nn2 cn2, .slice ac2 nc2 cc2, .slice ap2 np2 cp2] 101)).heap[wr.heap.size]? = some (.cells #[.int .u8 C.n, .int .u8 C.s, .int .u8 C.v] 138 (0, 0))) := blk_old HC2.out _
        clear hb2 hp2 hv2
        go_wp2_with fail
        refine (doc_Greatest an cn NW C.n _ (HNW.out _ HB2a.out)).mono ?_
        rintro e w3 ⟨rfl, hb3⟩
        have HC3 : Hid (w3.heap[wr.heap.size]? = some (.cells #[.int .u8 C.n, .int .u8 C.s, .int .u8 C.v] 138 (0, 0))) := blk_below hb3 HC2a.out (by simp; omega)
        have HQ3 : Hid (w3.heap[w2.heap.size]? = some (.cells #[.int .u8 q.n, .int .u8 q.v, .int .i64 q.m, .slice an2 nn2 cn2, .slice ac2 nc2 cc2, .slice ap2 np2 cp2] 101 (0, 0))) := blk_below hb3 HBQ.out (by simp)
        have HB23 : Hid (Below w2.heap.size w2 w3) := ((Below.refl _ _).alloc (Nat.le_refl _) _).trans (hb3.mono (by simp))
        have HB3 : Hid (Below w1.heap.size w1 w3) := HB2.out.trans (HB23.out.mono HB2.out.size)
        have q0 : w3.cell? ⟨w2.heap.size, 0, none⟩ = some (.int .u8 q.n) := by rw [cellAt HQ3.out]; rfl
        have q1 : w3.cell? ⟨w2.heap.size, 1, none⟩ = some (.int .u8 q.v) := by rw [cellAt HQ3.out]; rfl
        have q2 : w3.cell? ⟨w2.heap.size, 2, none⟩ = some (.int .i64 q.m) := by rw [cellAt HQ3.out]; rfl
        have q3 : w3.cell? ⟨w2.heap.size, 3, none⟩ = some (.slice an2 nn2 cn2) := by rw [cellAt HQ3.out]; rfl
        have q4 : w3.cell? ⟨w2.heap.size, 4, none⟩ = some (.slice ac2 nc2 cc2) := by rw [cellAt HQ3.out]; rfl
        have q5 : w3.cell? ⟨w2.heap.size, 5, none⟩ = some (.slice ap2 np2 cp2) := by rw [cellAt HQ3.out]; rfl
        have r0 : w3.cell? ⟨wr.heap.size, 0, none⟩ = some (.int .u8 C.n) := by rw [cellAt HC3.out]; rfl
        have r1 : w3.cell? ⟨wr.heap.size, 1, none⟩ = some (.int .u8 C.s) := by rw [cellAt HC3.out]; rfl
        have r2 : w3.cell? ⟨wr.heap.size, 2, none⟩ = some (.int .u8 C.v) := by rw [cellAt HC3.out]; rfl
        clear hb3
        generalize gtT NW C.n = G at *
        by_cases hG : q.v < G
        · have hG' : (q.v : Int) < (G : Int) := by omega
          have HF : Hid (L.all (up1 NW pq) = false) := by show _ = _; rw [HP.out, HD.out, HU'.out]; simp [hG]
          go_wp2
          go_ret
          exact ⟨ret_bool (by rw [HNE.out]; exact HF.out.symm), HB1.out.trans (HB3.out.mono (by omega))⟩
        · have hG' : ¬ (q.v : Int) < (G : Int) := by omega
          cases hf : fitB q C with
          | true =>
            have HF : Hid (L.all (up1 NW pq) = (L.drop (k + 1)).all (up1 NW pq)) := by show _ = _; rw [HP.out, HD.out, HU'.out]; simp [hG, hf]
            have HE : Hid (fitB q C = true) := hf
            clear hf
            go_wp2_with fail
            refine (pack_Fits q C an2 nn2 cn2 ac2 nc2 cc2 ap2 np2 cp2 _ (HQV.out _ HB23.out)).mono ?_
            rintro e w4 ⟨rfl, hb4⟩
            rw [HE.out]
            have HB4 : Hid (Below w1.heap.size w1 w4) := HB3.out.trans (hb4.mono HB3.out.size)
            clear hb4
            go_wp2
            go_roundw
            case rel => exact ⟨k + 1, by omega, by go_num, HF, HB4.out⟩
            case measure => simp [intOf]; omega
          | false =>
            have HF : Hid (L.all (up1 NW pq) = false) := by show _ = _; rw [HP.out, HD.out, HU'.out]; simp [hf]
            have HE : Hid (fitB q C = false) := hf
            clear hf
            go_wp2_with fail
            refine (pack_Fits q C an2 nn2 cn2 ac2 nc2 cc2 ap2 np2 cp2 _ (HQV.out _ HB23.out)).mono ?_
            rintro e w4 ⟨rfl, hb4⟩
            rw [HE.out]
            have HB4 : Hid (Below w1.heap.size w1 w4) := HB3.out.trans (hb4.mono HB3.out.size)
            clear hb4
            go_wp2
            go_ret
            exact ⟨ret_bool (by rw [HNE.out]; exact HF.out.symm), HB1.out.trans (HB4.out.mono (by omega))⟩
      | [], HVE, HU =>
        have HF : Hid (L.all (up1 NW pq) = false) := by show _ = _; rw [HP.out, HD.out, HU.out]; rfl
        go_wp2_with fail
        refine (doc_WithName aq cq pq C.n _ (HV.out _ HBW.out)).mono ?_
        rintro e w2 ⟨r, rc, rfl, hb2, hp2⟩
        rw [HVE.out]
        have HB2 : Hid (Below w1.heap.size w1 w2) := HBA.out.trans (hb2.mono (by simp; omega))
        clear hb2 hp2
        go_wp2
        go_ret
        exact ⟨ret_bool (by rw [HNE.out]; exact HF.out.symm), HB1.out.trans (HB2.out.mono (by omega))⟩
      | q1 :: q2 :: V', HVE, HU =>
        have HF : Hid (L.all (up1 NW pq) = false) := by show _ = _; rw [HP.out, HD.out, HU.out]; rfl
        have hlen : (wnL pq C.n).length ≤ 801 := by unfold wnL; have := List.length_filter_le (fun p : Pk => p.n == C.n) pq; omega
        have hne : ((wnL pq C.n).length : Int) ≠ 1 := by rw [HVE.out]; simp; omega
        have hne' : (((wnL pq C.n).length : Int) != 1) = true := by simp; omega
        go_wp2_with fail
        refine (doc_WithName aq cq pq C.n _ (HV.out _ HBW.out)).mono ?_
        rintro e w2 ⟨r, rc, rfl, hb2, hp2⟩
        have HB2 : Hid (Below w1.heap.size w1 w2) := HBA.out.trans (hb2.mono (by simp; omega))
        clear hb2 hp2
        generalize (wnL pq C.n).length = M at *
        go_wp2
        go_ret
        exact ⟨ret_bool (by rw [HNE.out]; exact HF.out.symm), HB1.out.trans (HB2.out.mono (by omega))⟩
    · have HF : Hid (L.all (up1 NW pq) = true) := by show _ = _; rw [HP.out, List.drop_of_length_le (by omega)]; rfl
      have HBw : Hid (Below w.heap.size w wr) := hbw
      go_wp2
      go_ret
      exact ⟨ret_bool (by rw [HNE.out]; exact HF.out.symm), HBw.out⟩

end Go.Proofs.YthgabjpffenjmaaGreatDoor
