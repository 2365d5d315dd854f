import Derived.Test.YtenbnmbbfeekpabGreatDoorXI
import Derived.Test.YtenbnmbbfeekpabGreatDoorXG

namespace Go.Proofs.YtenbnmbbfeekpabGreatDoor
open Go.RowKit

theorem below_drewN {B : Nat} {a w : World} (h : Below B a w) (n : Nat) : Below B a (w.drewN n) := ⟨h.os, h.tape, h.output, h.size, h.block⟩

set_option maxHeartbeats 1600000 in
set_option maxRecDepth 100000 in
theorem ref_Pick (ps : List Pk) (P : List UInt8) (ap : Option Addr) (np cp : Nat) (ai : Option Addr) (ni ci : Nat) (ar : Option Addr) (nr cr : Nat) (au : Option Addr) (nu cu : Nat) (w : World) (hd : RPksAt w (.slice ap np cp) ps) (hpl : ps.length ≤ 801) (hP : P.length ≤ maxLen) :
    Calls Tryz.prog 61 #[.agg #[.slice ap np cp, .slice ai ni ci, .slice ar nr cr, .slice au nu cu], .string (bs P)] w fun e w' => e = .returned (.bool (pickB ps P)) ∧ Below w.heap.size w w' := by
  obtain ⟨hr, rfl⟩ := rrow hd
  have HR : Hid (RRow w ap ps) := hr
  unfold maxLen at hP
  have hsz : (bs P).size = P.length := bs_size P
  clear hr hd
  by_cases hodd : P.length % 2 = 0
  · by_cases hle : P.length ≤ 2 * ps.length
    · have HPB : Hid (pickB ps P = (ordP P && 2 * inN ps P == P.length)) := by show _ = _; unfold pickB; simp [hodd, hle]
      have h1 : (P.length : Int) % 2 = 0 := by omega
      have h2 : decide (2 * (ps.length : Int) < (P.length : Int)) = false := by rw [decide_eq_false_iff_not]; omega
      have HLE : Hid (P.length ≤ 2 * ps.length) := hle
      clear hle
      go_enter Tryz.func61, Tryz.ntmps61
      go_wp2
      clear h1 h2
      go_loopw [5, 6] (fun n i wr => ∃ k : Nat, k ≤ ps.length ∧ i = .int .i64 k ∧ n = .int .i64 (inN (ps.take k) P : Nat) ∧ Below w.heap.size w wr ∧ wr.heap[w.heap.size]? = some (.cells #[.slice ap ps.length cp, .slice ai ni ci, .slice ar nr cr, .slice au nu cu] 126 (0, 0))) (fun _ i _ => ps.length - (intOf i).toNat)
      case atStart => exact ⟨0, by omega, rfl, rfl, (Below.refl _ _).alloc (Nat.le_refl _) _, blk_new _ _⟩
      case round =>
        obtain ⟨k, hk, rfl, rfl, hb, hblk⟩ := hrel
        have m0 : wr.cell? ⟨w.heap.size, 0, none⟩ = some (.slice ap ps.length cp) := by rw [cellAt hblk]; rfl
        have HB : Hid (Below w.heap.size w wr) := hb
        have HBK : Hid _ := hblk
        by_cases hlt : k < ps.length
        · obtain ⟨g, rfl, hg, an, nn, cn, ac, nc, cc, ap', np, cp', ⟨x0, x1, x2, x3, x4⟩, hpk⟩ := HR.out k hlt
          rw [← hb.cell (p := ⟨g, _, none⟩) hg] at x0
          have HT : Hid (inN (ps.take (k + 1)) P = inN (ps.take k) P + (if inB P [b8 ps[k].n, b8 ps[k].v] then 1 else 0)) := by
            show _ = _
            unfold inN
            rw [List.take_succ_eq_append_getElem hlt, List.filter_append, List.length_append]
            congr 1
            unfold pkI
            simp only [List.filter_cons, List.filter_nil]
            split <;> rfl
          have hnl : inN (ps.take k) P ≤ 801 := by
            unfold inN
            exact Nat.le_trans (List.length_filter_le _ _) (by rw [List.length_take]; omega)
          clear x1 x2 x3 x4 hpk hb hblk
          generalize ps[k] = Q at *
          generalize inN (ps.take k) P = M at *
          go_wp2_with fail
          refine (ref_in P _ _ (le_max (by have := HLE.out; omega))).mono ?_
          rintro e w1 ⟨rfl, rfl⟩
          generalize inB P [b8 Q.n, b8 Q.v] = A at *
          cases A with
          | false =>
            have HE : Hid (inN (ps.take (k + 1)) P = M) := HT.out
            clear HT
            go_wp2
            go_roundw
            case rel => first | exact ⟨k + 1, by omega, by go_num, by rw [HE.out], HB.out, HBK.out⟩ | ((repeat apply Exists.intro); exact ⟨⟨k + 1, by omega, by go_num, by rw [HE.out], HB.out, HBK.out⟩, rfl⟩)
            case measure => simp [intOf]; omega
          | true =>
            have HE : Hid (inN (ps.take (k + 1)) P = M + 1) := HT.out
            clear HT
            go_wp2
            go_roundw
            case rel => first | exact ⟨k + 1, by omega, by go_num, by rw [HE.out]; go_num, HB.out, HBK.out⟩ | ((repeat apply Exists.intro); exact ⟨⟨k + 1, by omega, by go_num, by rw [HE.out]; go_num, HB.out, HBK.out⟩, rfl⟩)
            case measure => simp [intOf]; omega
        · have hkl : k = ps.length := by omega
          subst hkl
          have hnl : inN (ps.take ps.length) P ≤ 801 := by
            unfold inN
            exact Nat.le_trans (List.length_filter_le _ _) (by rw [List.length_take]; omega)
          have HT : Hid (inN (ps.take ps.length) P = inN ps P) := by show _ = _; rw [List.take_length]
          rw [HT.out] at hnl ⊢
          clear HT hb hblk HBK
          generalize inN ps P = M at *
          go_wp2
          go_loopw [8] (fun i wr => ∃ m : Nat, 2 * m ≤ P.length ∧ i = .int .i64 ((2 * m + 2 : Nat) : Int) ∧ Hid (ordP P = ordP (P.drop (2 * m))) ∧ Below w.heap.size w wr) (fun i _ => P.length + 4 - (intOf i).toNat)
          case atStart => exact ⟨0, by omega, rfl, rfl, HB.out⟩
          case round =>
            obtain ⟨m, hm, rfl, HO, hb⟩ := hrel
            have HB : Hid (Below w.heap.size w wr) := hb
            clear hb
            by_cases hlt : 2 * m + 2 < P.length
            · have hp4 : 2 * m + 3 < P.length := by omega
              obtain ⟨a, b, c, d, r, hd⟩ : ∃ a b c d r, P.drop (2 * m) = a :: b :: c :: d :: r := by
                have q0 : 2 * m < P.length := by omega
                have q1 : 2 * m + 1 < P.length := by omega
                exact ⟨_, _, _, _, _, by rw [List.drop_eq_getElem_cons q0, List.drop_eq_getElem_cons q1, List.drop_eq_getElem_cons hlt, List.drop_eq_getElem_cons hp4]⟩
              have hd2 : P.drop (2 * m + 2) = c :: d :: r := by
                rw [← List.drop_drop, hd]; rfl
              have HX : Hid (((bs P).extract (2 * m) (2 * m + 2)).toList = [a, b]) := by
                show _ = _; rw [extract_bs, bs_list, List.drop_take, hd, tl, show 2 * m + 2 - 2 * m = 2 by omega]; rfl
              have HY : Hid (((bs P).extract (2 * m + 2) (2 * m + 2 + 2)).toList = [c, d]) := by
                show _ = _; rw [extract_bs, bs_list, List.drop_take, hd2, tl, show 2 * m + 2 + 2 - (2 * m + 2) = 2 by omega]; rfl
              have HD : Hid (ordP P = (Op.bytesLess [a, b] [c, d] && ordP (P.drop (2 * m + 2)))) := by
                show _ = _; rw [HO.out, hd, hd2]; rfl
              clear hd hd2 HO
              rcases hbl : Op.bytesLess [a, b] [c, d] with _ | _
              · have hb' : Op.bytesLess ((bs P).extract (2 * m) (2 * m + 2)).toList ((bs P).extract (2 * m + 2) (2 * m + 2 + 2)).toList = false := by rw [HX.out, HY.out]; exact hbl
                have HE : Hid (pickB ps P = false) := by show _ = _; rw [HPB.out, HD.out, hbl]; rfl
                clear hbl HD HPB HX HY
                go_wp2_with fail
                go_quiet (fail)
                go_wp2
                go_ret
                exact ⟨ret_bool HE.out.symm, below_drewN HB.out _⟩
              · have hb' : Op.bytesLess ((bs P).extract (2 * m) (2 * m + 2)).toList ((bs P).extract (2 * m + 2) (2 * m + 2 + 2)).toList = true := by rw [HX.out, HY.out]; exact hbl
                have HE : Hid (ordP P = ordP (P.drop (2 * (m + 1)))) := by show _ = _; rw [HD.out, hbl]; rfl
                clear hbl HD HX HY
                go_wp2_with fail
                go_quiet (fail)
                go_wp2
                go_roundw
                case rel => exact ⟨m + 1, by omega, by go_num, HE, below_drewN HB.out _⟩
                case measure => simp [intOf]; omega
            · have HE : Hid (ordP P = true) := by
                show _ = _
                rw [HO.out]
                have h2 : (P.drop (2 * m)).length ≤ 3 := by simp; omega
                match h3 : P.drop (2 * m), h2 with
                | [], _ => rfl
                | [x], _ => rfl
                | [x, y], _ => rfl
                | [x, y, z], _ => rfl
              clear HO
              go_wp2
              go_ret
              exact ⟨ret_bool (by rw [HPB.out, HE.out, Bool.true_and]; exact int_beq _ _), HB.out⟩
    · have HE : Hid (pickB ps P = false) := by show _ = _; unfold pickB; simp [hle]
      have h1 : (P.length : Int) % 2 = 0 := by omega
      go_enter Tryz.func61, Tryz.ntmps61
      go_wp2
      go_ret
      exact ⟨ret_bool HE.out.symm, (Below.refl _ _).alloc (Nat.le_refl _) _⟩
  · have HE : Hid (pickB ps P = false) := by show _ = _; unfold pickB; simp [hodd]
    have h1 : ¬ (P.length : Int) % 2 = 0 := by omega
    go_enter Tryz.func61, Tryz.ntmps61
    go_wp2
    go_ret
    exact ⟨ret_bool HE.out.symm, (Below.refl _ _).alloc (Nat.le_refl _) _⟩

end Go.Proofs.YtenbnmbbfeekpabGreatDoor

namespace Go.Proofs.YtenbnmbbfeekpabGreatDoor
open Go.RowKit

set_option maxHeartbeats 3200000 in
set_option maxRecDepth 100000 in
theorem ref_versions (ps : List Pk) (P : List UInt8) (N : List UInt8) (now : Bool) (ap : Option Addr) (np cp : Nat) (ai : Option Addr) (ni ci : Nat) (ar : Option Addr) (nr cr : Nat) (au : Option Addr) (nu cu : Nat) (w : World) (hd : RPksAt w (.slice ap np cp) ps) (hok : ∀ p ∈ ps, PkOk p) (hpl : ps.length ≤ 801) (hP : P.length ≤ maxLen) :
    Calls Tryz.prog 142 #[.agg #[.slice ap np cp, .slice ai ni ci, .slice ar nr cr, .slice au nu cu], .string (bs P), .string (bs N), .bool now] w fun e w' => e = .returned (.string (bs (versT ps P N now))) ∧ Below w.heap.size w w' := by
  obtain ⟨hr, rfl⟩ := rrow hd
  have HR : Hid (RRow w ap ps) := hr
  have HOK : Hid _ := hok
  have HP : Hid (P.length ≤ maxLen) := hP
  clear hr hd hok hP
  go_enter Tryz.func142, Tryz.ntmps142
  go_wp2
  go_loopw [9, 10] (fun s v wr => ∃ a : Nat, a ≤ 9 ∧ v = .int .u8 ((49 + a : Nat) : Int) ∧ s = .string (bs (vers ps P N now a)) ∧ Below w.heap.size w wr ∧ wr.heap[w.heap.size]? = some (.cells #[.slice ap ps.length cp, .slice ai ni ci, .slice ar nr cr, .slice au nu cu] 126 (0, 0))) (fun _ v _ => 60 - (intOf v).toNat)
  case atStart => exact ⟨0, by omega, rfl, rfl, (Below.refl _ _).alloc (Nat.le_refl _) _, blk_new _ _⟩
  case round =>
    obtain ⟨a, ha, rfl, rfl, hb, hblk⟩ := hrel
    have HB : Hid (Below w.heap.size w wr) := hb
    have HBK : Hid _ := hblk
    have hbs := hb.size
    clear hb hblk
    by_cases ha9 : a < 9
    · have HL : Hid ((vers ps P N now a).length ≤ 7209) := by
        show _ ≤ _
        have := vers_len ps P N now a
        have h2 : a * ps.length ≤ 9 * 801 := Nat.mul_le_mul (by omega) hpl
        omega
      have HV : Hid (vers ps P N now (a + 1) = vers ps P N now a ++ vIn (ps.take ps.length) P N now (49 + a)) := by show _ = _; rw [List.take_length]; rfl
      generalize vers ps P N now a = S at *
      obtain ⟨S1, HS1⟩ : ∃ x, Hid (vers ps P N now (a + 1) = x) := ⟨_, rfl⟩
      rw [HS1.out] at HV
      have h57 : decide (49 + (a : Int) ≤ 57) = true := by rw [decide_eq_true_iff]; omega
      go_wp2
      go_loopw [9, 11] (fun s i wr => ∃ k : Nat, k ≤ ps.length ∧ i = .int .i64 k ∧ s = .string (bs (S ++ vIn (ps.take k) P N now (49 + a))) ∧ Below w.heap.size w wr ∧ wr.heap[w.heap.size]? = some (.cells #[.slice ap ps.length cp, .slice ai ni ci, .slice ar nr cr, .slice au nu cu] 126 (0, 0))) (fun _ i _ => ps.length - (intOf i).toNat)
      case atStart => exact ⟨0, by omega, rfl, by simp [vIn], HB.out, HBK.out⟩
      case round =>
        obtain ⟨k, hk, rfl, rfl, hb, hblk⟩ := hrel
        have hbs := hb.size
        have m0 : wr.cell? ⟨w.heap.size, 0, none⟩ = some (.slice ap ps.length cp) := by rw [cellAt hblk]; rfl
        have HB : Hid (Below w.heap.size w wr) := hb
        have HBK : Hid _ := hblk
        by_cases hlt : k < ps.length
        · obtain ⟨g, rfl, hg, an, nn, cn, ac, nc, cc, ap', np, cp', ⟨x0, x1, x2, x3, x4⟩, hpk⟩ := HR.out k hlt
          rw [← hb.cell (p := ⟨g, _, none⟩) hg] at x0 x1 x2 x3 x4
          have hpo := HOK.out ps[k] (List.getElem_mem _)
          have HSN := vIn_snoc ps P N now (49 + a) k hlt
          have hlen : (S ++ vIn (ps.take k) P N now (49 + a)).length ≤ 8010 := by
            rw [List.length_append]
            have := vIn_len (ps.take k) P N now (49 + a)
            rw [List.length_take] at this
            have := HL.out
            omega
          have HS : Hid (S ++ vIn (ps.take (k + 1)) P N now (49 + a) = (S ++ vIn (ps.take k) P N now (49 + a)) ++ (if vHas P N now (49 + a) ps[k] then [b8 ps[k].v] else [])) := by show _ = _; rw [HSN, List.append_assoc]
          clear hpk hb hblk HSN
          generalize ps[k] = Q at *
          have hqv := vr_lt hpo.v
          have hqn := nm_lt hpo.n
          generalize S ++ vIn (ps.take k) P N now (49 + a) = T at *
          obtain ⟨T1, HT1⟩ : ∃ x, Hid (S ++ vIn (ps.take (k + 1)) P N now (49 + a) = x) := ⟨_, rfl⟩
          rw [HT1.out] at HS
          have HLT : Hid (T.length ≤ 8010) := hlen
          clear hpo hlen
          go_wp2_with fail
          obtain ⟨W, hW⟩ : ∃ W, W = wr.alloc (.cells #[.string (bs [b8 Q.n, b8 Q.v]), .string (bs (mkT Q.m)), .slice an nn cn, .slice ac nc cc, .slice ap' np cp'] 173) := ⟨_, rfl⟩
          have hWb : W.heap[wr.heap.size]? = some (.cells #[.string (bs [b8 Q.n, b8 Q.v]), .string (bs (mkT Q.m)), .slice an nn cn, .slice ac nc cc, .slice ap' np cp'] 173 (0, 0)) := by rw [hW]; exact blk_new _ _
          have HWB : Hid (Below wr.heap.size wr W) := by show Below _ _ _; rw [hW]; exact (Below.refl _ _).alloc (Nat.le_refl _) _
          have k0 : W.cell? ⟨wr.heap.size, 0, none⟩ = some (.string (bs [b8 Q.n, b8 Q.v])) := by rw [cellAt hWb]; rfl
          have k1 : W.cell? ⟨wr.heap.size, 1, none⟩ = some (.string (bs (mkT Q.m))) := by rw [cellAt hWb]; rfl
          rw [← hW]
          have HB2 : Hid (Below w.heap.size w W) := HB.out.trans (HWB.out.mono hbs)
          have HBK2 : Hid (W.heap[w.heap.size]? = _) := blk_below HWB.out HBK.out (ltAt HBK.out)
          clear hW hWb HWB HB HBK x0 x1 x2 x3 x4 m0
          refine (ref_in P _ _ HP.out).mono ?_
          rintro e w1 ⟨rfl, rfl⟩
          have hz : (bs [b8 Q.n, b8 Q.v]).size = 2 := by rw [bs_size]; rfl
          have c1 : (1 : Int) < ((bs [b8 Q.n, b8 Q.v]).size : Int) := by rw [hz]; decide
          have hq1 : (((bs [b8 Q.n, b8 Q.v])[1]'(by rw [hz]; decide)).toNat : Int) = (Q.v : Int) := by exact congrArg _ (b8_val hqv)
          have HE1 : Hid (((bs [b8 Q.n, b8 Q.v]).extract 0 1).toList = [b8 Q.n]) := by show _ = _; rw [extract_bs, bs_list, tl]; rfl
          have HE2 : Hid ((bs [b8 Q.n, b8 Q.v]).extract 1 2 = bs [b8 Q.v]) := by show _ = _; rw [extract_bs, bs_list]; rfl
          cases now with
          | false =>
            rcases hA : inB P [b8 Q.n, b8 Q.v] with _ | _
            · have HH : Hid (vHas P N false (49 + a) Q = false) := by show _ = _; unfold vHas vA pkI; rw [if_neg (by decide), hA]; rfl
              have HE : Hid (T1 = T) := by show _ = _; rw [HS.out, HH.out]; simp
              clear HS HV
              go_wp2
              go_roundw
              case rel => first | exact ⟨k + 1, by omega, by go_num, by rw [HT1.out, HE.out], HB2.out, HBK2.out⟩ | ((repeat apply Exists.intro); exact ⟨⟨k + 1, by omega, by go_num, by rw [HT1.out, HE.out], HB2.out, HBK2.out⟩, rfl⟩)
              case measure => simp [intOf]; omega
            · have HH : Hid (vHas P N false (49 + a) Q = ([b8 Q.n] == N && Q.v == 49 + a)) := by show _ = _; unfold vHas vA pkI; rw [if_neg (by decide), hA]; rfl
              rcases hn : ([b8 Q.n] == N) with _ | _
              · have hn' : (((bs [b8 Q.n, b8 Q.v]).extract 0 1).toList == (bs N).toList) = false := by rw [HE1.out, tl]; exact hn
                have HE : Hid (T1 = T) := by show _ = _; rw [HS.out, HH.out, hn]; simp
                clear HS HV
                go_wp2
                go_roundw
                case rel => first | exact ⟨k + 1, by omega, by go_num, by rw [HT1.out, HE.out], HB2.out, HBK2.out⟩ | ((repeat apply Exists.intro); exact ⟨⟨k + 1, by omega, by go_num, by rw [HT1.out, HE.out], HB2.out, HBK2.out⟩, rfl⟩)
                case measure => simp [intOf]; omega
              · have hn' : (((bs [b8 Q.n, b8 Q.v]).extract 0 1).toList == (bs N).toList) = true := by rw [HE1.out, tl]; exact hn
                by_cases hv : Q.v = 49 + a
                · have hv' : ((Q.v : Int) == 49 + (a : Int)) = true := by rw [beq_iff_eq]; omega
                  have HE : Hid (T1 = T ++ [b8 Q.v]) := by show _ = _; rw [HS.out, HH.out, hn]; simp [hv]
                  have hsT : (bs T).size ≤ 8010 := by rw [bs_size]; exact HLT.out
                  clear HS HV hv
                  go_wp2
                  go_roundw
                  case rel => first | exact ⟨k + 1, by omega, by go_num, by rw [HT1.out, HE.out, ← bs_app, ← HE2.out], HB2.out, HBK2.out⟩ | ((repeat apply Exists.intro); exact ⟨⟨k + 1, by omega, by go_num, by rw [HT1.out, HE.out, ← bs_app, ← HE2.out], HB2.out, HBK2.out⟩, rfl⟩)
                  case measure => simp [intOf]; omega
                · have hv' : ((Q.v : Int) == 49 + (a : Int)) = false := by rw [beq_eq_false_iff_ne]; omega
                  have hvb : (Q.v == 49 + a) = false := by rw [beq_eq_false_iff_ne]; exact hv
                  clear hv
                  have HE : Hid (T1 = T) := by show _ = _; rw [HS.out, HH.out, hn, hvb]; simp
                  clear HS HV
                  go_wp2
                  go_roundw
                  case rel => first | exact ⟨k + 1, by omega, by go_num, by rw [HT1.out, HE.out], HB2.out, HBK2.out⟩ | ((repeat apply Exists.intro); exact ⟨⟨k + 1, by omega, by go_num, by rw [HT1.out, HE.out], HB2.out, HBK2.out⟩, rfl⟩)
                  case measure => simp [intOf]; omega
          | true =>
            rcases hm : (bs (mkT Q.m)).toList.isEmpty with _ | _
            · have HH : Hid (vHas P N true (49 + a) Q = ([b8 Q.n] == N && Q.v == 49 + a)) := by
                show _ = _
                have h0 : (Q.m != 0) = true := by rw [mkT_empty] at hm; rw [bne, hm]; rfl
                unfold vHas vA; rw [if_pos rfl, h0]; rfl
              rcases hn : ([b8 Q.n] == N) with _ | _
              · have hn' : (((bs [b8 Q.n, b8 Q.v]).extract 0 1).toList == (bs N).toList) = false := by rw [HE1.out, tl]; exact hn
                have HE : Hid (T1 = T) := by show _ = _; rw [HS.out, HH.out, hn]; simp
                clear HS HV
                go_wp2
                go_roundw
                case rel => first | exact ⟨k + 1, by omega, by go_num, by rw [HT1.out, HE.out], HB2.out, HBK2.out⟩ | ((repeat apply Exists.intro); exact ⟨⟨k + 1, by omega, by go_num, by rw [HT1.out, HE.out], HB2.out, HBK2.out⟩, rfl⟩)
                case measure => simp [intOf]; omega
              · have hn' : (((bs [b8 Q.n, b8 Q.v]).extract 0 1).toList == (bs N).toList) = true := by rw [HE1.out, tl]; exact hn
                by_cases hv : Q.v = 49 + a
                · have hv' : ((Q.v : Int) == 49 + (a : Int)) = true := by rw [beq_iff_eq]; omega
                  have HE : Hid (T1 = T ++ [b8 Q.v]) := by show _ = _; rw [HS.out, HH.out, hn]; simp [hv]
                  have hsT : (bs T).size ≤ 8010 := by rw [bs_size]; exact HLT.out
                  clear HS HV hv
                  go_wp2
                  go_roundw
                  case rel => first | exact ⟨k + 1, by omega, by go_num, by rw [HT1.out, HE.out, ← bs_app, ← HE2.out], HB2.out, HBK2.out⟩ | ((repeat apply Exists.intro); exact ⟨⟨k + 1, by omega, by go_num, by rw [HT1.out, HE.out, ← bs_app, ← HE2.out], HB2.out, HBK2.out⟩, rfl⟩)
                  case measure => simp [intOf]; omega
                · have hv' : ((Q.v : Int) == 49 + (a : Int)) = false := by rw [beq_eq_false_iff_ne]; omega
                  have hvb : (Q.v == 49 + a) = false := by rw [beq_eq_false_iff_ne]; exact hv
                  clear hv
                  have HE : Hid (T1 = T) := by show _ = _; rw [HS.out, HH.out, hn, hvb]; simp
                  clear HS HV
                  go_wp2
                  go_roundw
                  case rel => first | exact ⟨k + 1, by omega, by go_num, by rw [HT1.out, HE.out], HB2.out, HBK2.out⟩ | ((repeat apply Exists.intro); exact ⟨⟨k + 1, by omega, by go_num, by rw [HT1.out, HE.out], HB2.out, HBK2.out⟩, rfl⟩)
                  case measure => simp [intOf]; omega
            · have HH : Hid (vHas P N true (49 + a) Q = false) := by
                show _ = _
                have h0 : (Q.m != 0) = false := by rw [mkT_empty] at hm; rw [bne, hm]; rfl
                unfold vHas vA; rw [if_pos rfl, h0]; rfl
              have HE : Hid (T1 = T) := by show _ = _; rw [HS.out, HH.out]; simp
              clear HS HV
              go_wp2
              go_roundw
              case rel => first | exact ⟨k + 1, by omega, by go_num, by rw [HT1.out, HE.out], HB2.out, HBK2.out⟩ | ((repeat apply Exists.intro); exact ⟨⟨k + 1, by omega, by go_num, by rw [HT1.out, HE.out], HB2.out, HBK2.out⟩, rfl⟩)
              case measure => simp [intOf]; omega
        · have hkl : k = ps.length := by omega
          subst hkl
          rw [← HV.out]
          clear hb hblk
          go_wp2
          go_roundw
          case rel => exact ⟨a + 1, by omega, by go_num, by rw [HS1.out], HB.out, HBK.out⟩
          case measure => simp [intOf]; omega
    · have ha' : a = 9 := by omega
      subst ha'
      go_wp2
      go_ret
      exact ⟨rfl, HB.out⟩

end Go.Proofs.YtenbnmbbfeekpabGreatDoor

namespace Go.Proofs.YtenbnmbbfeekpabGreatDoor
open Go.RowKit

set_option maxHeartbeats 3200000 in
set_option maxRecDepth 100000 in
theorem ref_stays (ps : List Pk) (P : List UInt8) (ap : Option Addr) (np cp : Nat) (ai : Option Addr) (ni ci : Nat) (ar : Option Addr) (nr cr : Nat) (au : Option Addr) (nu cu : Nat) (w : World) (hd : RPksAt w (.slice ap np cp) ps) (hok : ∀ p ∈ ps, PkOk p) (hpl : ps.length ≤ 801) (hP : P.length ≤ 2000) :
    Calls Tryz.prog 109 #[.agg #[.slice ap np cp, .slice ai ni ci, .slice ar nr cr, .slice au nu cu], .string (bs P)] w fun e w' => e = .returned (.bool (staysB ps P)) ∧ Below w.heap.size w w' := by
  have HD : Hid (RPksAt w (.slice ap np cp) ps) := hd
  obtain ⟨hr, rfl⟩ := rrow hd
  have HR : Hid (RRow w ap ps) := hr
  have HOK : Hid (∀ p ∈ ps, PkOk p) := hok
  have HP : Hid (P.length ≤ 2000) := hP
  have HI : Hid (staysB ps P = ps.all (stay1 ps P)) := rfl
  clear hr hd hok hP
  generalize hB : staysB ps P = RB at *
  clear hB
  go_enter Tryz.func109, Tryz.ntmps109
  go_wp2
  go_loopw [5] (fun i wr => ∃ k : Nat, k ≤ ps.length ∧ i = .int .i64 k ∧ Hid (RB = (ps.drop k).all (stay1 ps P)) ∧ Below w.heap.size w wr ∧ wr.heap[w.heap.size]? = some (.cells #[.slice ap ps.length cp, .slice ai ni ci, .slice ar nr cr, .slice au nu cu] 126 (0, 0))) (fun i _ => ps.length - (intOf i).toNat)
  case atStart => exact ⟨0, by omega, rfl, HI, (Below.refl _ _).alloc (Nat.le_refl _) _, blk_new _ _⟩
  case round =>
    obtain ⟨k, hk, rfl, HA, hb, hblk⟩ := hrel
    have hbs := hb.size
    have m0 : wr.cell? ⟨w.heap.size, 0, none⟩ = some (.slice ap ps.length cp) := by rw [cellAt hblk]; rfl
    have HB : Hid (Below w.heap.size w wr) := hb
    have HBK : Hid _ := hblk
    by_cases hlt : k < ps.length
    · obtain ⟨g, rfl, hg, an, nn, cn, ac, nc, cc, ap', np, cp', ⟨x0, x1, x2, x3, x4⟩, hpk⟩ := HR.out k hlt
      rw [← hb.cell (p := ⟨g, _, none⟩) hg] at x0 x1 x2 x3 x4
      have hpo := HOK.out ps[k] (List.getElem_mem _)
      have HDr : Hid (RPksAt wr (.slice (some ⟨g, 0, none⟩) ps.length cp) ps) := HD.out.below hb
      have HD1 : Hid ((ps.drop k).all (stay1 ps P) = (stay1 ps P ps[k] && (ps.drop (k + 1)).all (stay1 ps P))) := by show _ = _; rw [List.drop_eq_getElem_cons hlt]; rfl
      have HN : Hid (RB = (stay1 ps P ps[k] && (ps.drop (k + 1)).all (stay1 ps P))) := HA.out.trans HD1.out
      clear hpk hb hblk HA HD1
      generalize ps[k] = Q at *
      have HM : Hid (Q.m ≤ 3) := hpo.m
      clear hpo
      go_wp2_with fail
      obtain ⟨W, hW⟩ : ∃ W, W = wr.alloc (.cells #[.string (bs [b8 Q.n, b8 Q.v]), .string (bs (mkT Q.m)), .slice an nn cn, .slice ac nc cc, .slice ap' np cp'] 173) := ⟨_, rfl⟩
      have hWb : W.heap[wr.heap.size]? = some (.cells #[.string (bs [b8 Q.n, b8 Q.v]), .string (bs (mkT Q.m)), .slice an nn cn, .slice ac nc cc, .slice ap' np cp'] 173 (0, 0)) := by rw [hW]; exact blk_new _ _
      have HWB : Hid (Below wr.heap.size wr W) := by show Below _ _ _; rw [hW]; exact (Below.refl _ _).alloc (Nat.le_refl _) _
      have k0 : W.cell? ⟨wr.heap.size, 0, none⟩ = some (.string (bs [b8 Q.n, b8 Q.v])) := by rw [cellAt hWb]; rfl
      have k1 : W.cell? ⟨wr.heap.size, 1, none⟩ = some (.string (bs (mkT Q.m))) := by rw [cellAt hWb]; rfl
      rw [← hW]
      have HBW : Hid (Below w.heap.size w W) := HB.out.trans (HWB.out.mono hbs)
      have hbk := blk_below HWB.out HBK.out (ltAt HBK.out)
      have d0 : W.cell? ⟨w.heap.size, 0, none⟩ = some (.slice (some ⟨g, 0, none⟩) ps.length cp) := by rw [cellAt hbk]; rfl
      have d1 : W.cell? ⟨w.heap.size, 1, none⟩ = some (.slice ai ni ci) := by rw [cellAt hbk]; rfl
      have d2 : W.cell? ⟨w.heap.size, 2, none⟩ = some (.slice ar nr cr) := by rw [cellAt hbk]; rfl
      have d3 : W.cell? ⟨w.heap.size, 3, none⟩ = some (.slice au nu cu) := by rw [cellAt hbk]; rfl
      have HBKW : Hid _ := hbk
      have HDW : Hid (RPksAt W (.slice (some ⟨g, 0, none⟩) ps.length cp) ps) := HDr.out.below HWB.out
      clear hW hWb HWB HB HBK x0 x1 x2 x3 x4 m0 hbk HDr
      refine (ref_in P _ _ (le_max HP.out)).mono ?_
      rintro e w1 ⟨rfl, rfl⟩
      have hz : (1 : Int) ≤ ((bs [b8 Q.n, b8 Q.v]).size : Int) := by rw [bs_size]; simp
      have HX : Hid ((bs [b8 Q.n, b8 Q.v]).extract 0 1 = bs [b8 Q.n]) := by show _ = _; rw [extract_bs, bs_list]; rfl
      have hbsW := HBW.out.size
      go_wp2_with fail
      go_region_held3 (fun w' => w'.cell? ⟨w.heap.size, 0, none⟩ = some (.slice (some ⟨g, 0, none⟩) ps.length cp) ∧ w'.cell? ⟨w.heap.size, 1, none⟩ = some (.slice ai ni ci) ∧ w'.cell? ⟨w.heap.size, 2, none⟩ = some (.slice ar nr cr) ∧ w'.cell? ⟨w.heap.size, 3, none⟩ = some (.slice au nu cu) ∧ w'.cell? ⟨wr.heap.size, 0, none⟩ = some (.string (bs [b8 Q.n, b8 Q.v]))) (first | exact ⟨d0, d1, d2, d3, k0⟩ | exact ⟨dcell (by assumption) d0, dcell (by assumption) d1, dcell (by assumption) d2, dcell (by assumption) d3, dcell (by assumption) k0⟩)
        (first | (go_at_call 142; rw [HX.out]; refine (ref_versions ps P [b8 Q.n] false (some ⟨g, 0, none⟩) ps.length cp ai ni ci ar nr cr au nu cu _ (by exact HDW.out) HOK.out hpl (le_max HP.out)).mono ?_; rintro e w2 ⟨rfl, hb2⟩; have HB2 : Hid (Below w.heap.size w w2) := HBW.out.trans ((below_drew hb2).mono hbsW); have HBK2 : Hid (w2.heap[w.heap.size]? = _) := blk_below (below_drew hb2) HBKW.out (ltAt HBKW.out); have k1' : w2.cell? ⟨wr.heap.size, 1, none⟩ = some (.string (bs (mkT Q.m))) := dcell hb2 k1))
      have HT2 : Hid _ := mkT_2 HM.out
      have HT3 : Hid _ := mkT_3 HM.out
      have HV : Hid ((bs (versT ps P [b8 Q.n] false)).toList.isEmpty = (versT ps P [b8 Q.n] false).isEmpty) := by show _ = _; rw [tl]
      clear k0 k1 d0 d1 d2 d3 HBW HBKW HDW hb2
      have HS1 : Hid (stay1 ps P Q = !((Q.m == 2 && !inB P [b8 Q.n, b8 Q.v]) || (Q.m == 3 && (versT ps P [b8 Q.n] false).isEmpty))) := rfl
      generalize inB P [b8 Q.n, b8 Q.v] = A at *
      generalize versT ps P [b8 Q.n] false = V at *
      rcases h2 : (Q.m == 2) with _ | _
      · have e2 : ((bs (mkT Q.m)).toList == [43, 33]) = false := HT2.out.trans h2
        rcases h3 : (Q.m == 3) with _ | _
        · have e3 : ((bs (mkT Q.m)).toList == [43, 94]) = false := HT3.out.trans h3
          have HE : Hid (RB = (ps.drop (k + 1)).all (stay1 ps P)) := by show _ = _; rw [HN.out, HS1.out, h2, h3]; rfl
          clear HN
          go_wp2
          go_roundw
          case rel => first | exact ⟨k + 1, by omega, by go_num, HE, HB2.out, HBK2.out⟩ | ((repeat apply Exists.intro); exact ⟨⟨k + 1, by omega, by go_num, HE, HB2.out, HBK2.out⟩, rfl⟩)
          case measure => simp [intOf]; omega
        · have e3 : ((bs (mkT Q.m)).toList == [43, 94]) = true := HT3.out.trans h3
          rcases hv : V.isEmpty with _ | _
          · have ev : (bs V).toList.isEmpty = false := HV.out.trans hv
            have HE : Hid (RB = (ps.drop (k + 1)).all (stay1 ps P)) := by show _ = _; rw [HN.out, HS1.out, h2, h3, hv]; rfl
            clear HN
            go_wp2
            go_roundw
            case rel => first | exact ⟨k + 1, by omega, by go_num, HE, HB2.out, HBK2.out⟩ | ((repeat apply Exists.intro); exact ⟨⟨k + 1, by omega, by go_num, HE, HB2.out, HBK2.out⟩, rfl⟩)
            case measure => simp [intOf]; omega
          · have ev : (bs V).toList.isEmpty = true := HV.out.trans hv
            have HE : Hid (RB = false) := by show _ = _; rw [HN.out, HS1.out, h2, h3, hv]; rfl
            clear HN
            go_wp2
            go_ret
            exact ⟨ret_bool HE.out.symm, HB2.out⟩
      · have e2 : ((bs (mkT Q.m)).toList == [43, 33]) = true := HT2.out.trans h2
        have h3 : (Q.m == 3) = false := by have := beq_iff_eq.1 h2; rw [this]; rfl
        have e3 : ((bs (mkT Q.m)).toList == [43, 94]) = false := HT3.out.trans h3
        cases A with
        | false =>
          have HE : Hid (RB = false) := by show _ = _; rw [HN.out, HS1.out, h2]; rfl
          clear HN
          go_wp2
          go_ret
          exact ⟨ret_bool HE.out.symm, HB2.out⟩
        | true =>
          have HE : Hid (RB = (ps.drop (k + 1)).all (stay1 ps P)) := by show _ = _; rw [HN.out, HS1.out, h2, h3]; rfl
          clear HN
          go_wp2
          go_roundw
          case rel => first | exact ⟨k + 1, by omega, by go_num, HE, HB2.out, HBK2.out⟩ | ((repeat apply Exists.intro); exact ⟨⟨k + 1, by omega, by go_num, HE, HB2.out, HBK2.out⟩, rfl⟩)
          case measure => simp [intOf]; omega
    · have HE : Hid (RB = true) := by show _ = _; rw [HA.out, List.drop_of_length_le (by omega)]; rfl
      clear hb hblk HA
      go_wp2
      go_ret
      exact ⟨ret_bool HE.out.symm, HB.out⟩

end Go.Proofs.YtenbnmbbfeekpabGreatDoor

namespace Go.Proofs.YtenbnmbbfeekpabGreatDoor
open Go.RowKit

theorem below_drewN' {w1 wa : World} {n : Nat} (h : Below (w1.drewN n).heap.size (w1.drewN n) wa) : Below w1.heap.size w1 wa := ⟨h.os, h.tape, h.output, h.size, h.block⟩

set_option maxHeartbeats 3200000 in
set_option maxRecDepth 100000 in
theorem ref_upgraded (ps : List Pk) (P : List UInt8) (c : Cn) (ap : Option Addr) (np cp : Nat) (ai : Option Addr) (ni ci : Nat) (ar : Option Addr) (nr cr : Nat) (au : Option Addr) (nu cu : Nat) (w : World) (hd : RPksAt w (.slice ap np cp) ps) (hok : ∀ p ∈ ps, PkOk p ∧ PkSm p) (hpl : ps.length ≤ 801) (hc : CnOk c) (hP : P.length ≤ 2000) :
    Calls Tryz.prog 111 #[.agg #[.slice ap np cp, .slice ai ni ci, .slice ar nr cr, .slice au nu cu], .string (bs P), .string (bs (cnT c))] w fun e w' => e = .returned (.bool (upgB ps P c)) ∧ Below w.heap.size w w' := by
  have HD : Hid (RPksAt w (.slice ap np cp) ps) := hd
  obtain ⟨hr, rfl⟩ := rrow hd
  have HR : Hid (RRow w ap ps) := hr
  have HOK : Hid (∀ p ∈ ps, PkOk p ∧ PkSm p) := hok
  have HOK1 : Hid (∀ p ∈ ps, PkOk p) := fun p hp => (hok p hp).1
  have HC : Hid (CnOk c) := hc
  have HP : Hid (P.length ≤ 2000) := hP
  have HU : Hid (upgB ps P c = upgV ps c (versT ps P [b8 c.n] false) (versT ps [] [b8 c.n] true)) := rfl
  have hVl := versT_len ps P [b8 c.n] false hpl
  have hOl := versT_len ps [] [b8 c.n] true hpl
  clear hr hd hok hP hc
  generalize hB : upgB ps P c = RB at *
  clear hB
  have hcp := cnT_pos c
  have hc1 : (1 : Int) ≤ ((bs (cnT c)).size : Int) := by omega
  have HX : Hid ((bs (cnT c)).extract 0 1 = bs [b8 c.n]) := cnT_1 c
  go_enter Tryz.func111, Tryz.ntmps111
  go_wp2_with fail
  obtain ⟨W, hW⟩ : ∃ W, W = w.alloc (.cells #[.slice ap ps.length cp, .slice ai ni ci, .slice ar nr cr, .slice au nu cu] 126) := ⟨_, rfl⟩
  have hWb : W.heap[w.heap.size]? = some (.cells #[.slice ap ps.length cp, .slice ai ni ci, .slice ar nr cr, .slice au nu cu] 126 (0, 0)) := by rw [hW]; exact blk_new _ _
  have HWB : Hid (Below w.heap.size w W) := by show Below _ _ _; rw [hW]; exact (Below.refl _ _).alloc (Nat.le_refl _) _
  have hws : w.heap.size < W.heap.size := ltAt hWb
  rw [← hW]
  have d0 : W.cell? ⟨w.heap.size, 0, none⟩ = some (.slice ap ps.length cp) := by rw [cellAt hWb]; rfl
  have d1 : W.cell? ⟨w.heap.size, 1, none⟩ = some (.slice ai ni ci) := by rw [cellAt hWb]; rfl
  have d2 : W.cell? ⟨w.heap.size, 2, none⟩ = some (.slice ar nr cr) := by rw [cellAt hWb]; rfl
  have d3 : W.cell? ⟨w.heap.size, 3, none⟩ = some (.slice au nu cu) := by rw [cellAt hWb]; rfl
  have HK : Hid _ := hWb
  have HDW : Hid (RPksAt W (.slice ap ps.length cp) ps) := HD.out.below HWB.out
  clear hW hWb
  go_region_held3 (fun w' => w'.cell? ⟨w.heap.size, 0, none⟩ = some (.slice ap ps.length cp) ∧ w'.cell? ⟨w.heap.size, 1, none⟩ = some (.slice ai ni ci) ∧ w'.cell? ⟨w.heap.size, 2, none⟩ = some (.slice ar nr cr) ∧ w'.cell? ⟨w.heap.size, 3, none⟩ = some (.slice au nu cu)) (first | exact ⟨d0, d1, d2, d3⟩ | exact ⟨dcell (by assumption) d0, dcell (by assumption) d1, dcell (by assumption) d2, dcell (by assumption) d3⟩)
    (first | (go_at_call 142; rw [HX.out]; refine (ref_versions ps P [b8 c.n] false ap ps.length cp ai ni ci ar nr cr au nu cu _ (by exact HDW.out) HOK1.out hpl (le_max HP.out)).mono ?_; rintro e w1 ⟨rfl, hb1⟩))
  have HB1 : Hid (Below w.heap.size w w1) := HWB.out.trans ((below_drew hb1).mono (by omega))
  have hK1 := blk_below (below_drew hb1) HK.out (ltAt HK.out)
  have e0 : w1.cell? ⟨w.heap.size, 0, none⟩ = some (.slice ap ps.length cp) := by rw [cellAt hK1]; rfl
  have e1 : w1.cell? ⟨w.heap.size, 1, none⟩ = some (.slice ai ni ci) := by rw [cellAt hK1]; rfl
  have e2 : w1.cell? ⟨w.heap.size, 2, none⟩ = some (.slice ar nr cr) := by rw [cellAt hK1]; rfl
  have e3 : w1.cell? ⟨w.heap.size, 3, none⟩ = some (.slice au nu cu) := by rw [cellAt hK1]; rfl
  have HK1 : Hid _ := hK1
  have HD1 : Hid (RPksAt w1 (.slice ap ps.length cp) ps) := HDW.out.below (below_drew hb1)
  have hs1 := HB1.out.size
  clear d0 d1 d2 d3 HK HDW HWB hb1 hK1
  generalize versT ps P [b8 c.n] false = V at *
  go_wp2_with fail
  go_region_held3 (fun w' => w'.cell? ⟨w.heap.size, 0, none⟩ = some (.slice ap ps.length cp) ∧ w'.cell? ⟨w.heap.size, 1, none⟩ = some (.slice ai ni ci) ∧ w'.cell? ⟨w.heap.size, 2, none⟩ = some (.slice ar nr cr) ∧ w'.cell? ⟨w.heap.size, 3, none⟩ = some (.slice au nu cu)) (first | exact ⟨e0, e1, e2, e3⟩ | exact ⟨dcell (by assumption) e0, dcell (by assumption) e1, dcell (by assumption) e2, dcell (by assumption) e3⟩)
    (first | (go_at_call 142; rw [HX.out]; refine (ref_versions ps [] [b8 c.n] true ap ps.length cp ai ni ci ar nr cr au nu cu _ (by exact HD1.out) HOK1.out hpl (Nat.zero_le _)).mono ?_; rintro e w2 ⟨rfl, hb2⟩))
  have HB2 : Hid (Below w.heap.size w w2) := HB1.out.trans ((below_drew hb2).mono (by omega))
  have HK2 : Hid (w2.heap[w.heap.size]? = _) := blk_below (below_drew hb2) HK1.out (ltAt HK1.out)
  clear e0 e1 e2 e3 HK1 HD1 HB1 hb2
  generalize versT ps [] [b8 c.n] true = O at *
  have hVs : (bs V).size = V.length := bs_size V
  have hOs : (bs O).size = O.length := bs_size O
  by_cases hv1 : V.length = 1
  · have hV1 : ((V.length : Int) != 1) = false := by rw [bne_eq_false_iff_eq]; omega
    have HV1 : Hid (V.length = 1) := hv1
    clear hv1
    rcases ho : O.isEmpty with _ | _
    · have ho' : (bs O).toList.isEmpty = false := by rw [tl]; exact ho
      have hOp : 0 < O.length := by
        cases O with
        | nil => simp at ho
        | cons x y => simp
      by_cases hlt : (V.getD 0 0).toNat < (O.getD (O.length - 1) 0).toNat
      · have HE : Hid (RB = false) := by show _ = _; rw [HU.out]; unfold upgV; rw [ho, decide_eq_true hlt]; simp
        clear HU ho
        have hi0 : (0 : Int) < ((bs V).size : Int) := by rw [hVs, HV1.out]; decide
        have hi1 : (O.length : Int) - 1 < ((bs O).size : Int) := by rw [hOs]; omega
        have hi2 : (0 : Int) ≤ (O.length : Int) - 1 := by omega
        have q0 : ∀ h, ((bs V)[0]'h).toNat = (V.getD 0 0).toNat := fun h => by rw [bs_getD]
        have q1 : ∀ h, ((bs O)[O.length - 1]'h).toNat = (O.getD (O.length - 1) 0).toNat := fun h => by rw [bs_getD]
        go_wp2_with fail
        go_quiet (fail)
        go_wp2
        go_ret
        exact ⟨ret_bool HE.out.symm, below_drewN HB2.out _⟩
      · have HE : Hid (RB = fu (b8 c.n :: V) c ps) := by show _ = _; rw [HU.out]; unfold upgV; rw [ho, HV1.out, decide_eq_false hlt]; rfl
        clear HU ho
        have hi0 : (0 : Int) < ((bs V).size : Int) := by rw [hVs, HV1.out]; decide
        have hi1 : (O.length : Int) - 1 < ((bs O).size : Int) := by rw [hOs]; omega
        have hi2 : (0 : Int) ≤ (O.length : Int) - 1 := by omega
        have q0 : ∀ h, ((bs V)[0]'h).toNat = (V.getD 0 0).toNat := fun h => by rw [bs_getD]
        have q1 : ∀ h, ((bs O)[O.length - 1]'h).toNat = (O.getD (O.length - 1) 0).toNat := fun h => by rw [bs_getD]
        have hld : decide ((V[0]?.getD 0).toNat < (O[O.length - 1]?.getD 0).toNat) = false := by rw [decide_eq_false_iff_not, ← List.getD_eq_getElem?_getD, ← List.getD_eq_getElem?_getD]; exact hlt
        clear hlt
        go_wp2_with fail
        go_quiet (fail)
        go_wp2
        clear hld q0 q1 hi0 hi1 hi2
        go_loopw [9] (fun i wr => ∃ k : Nat, k ≤ ps.length ∧ i = .int .i64 k ∧ Hid (RB = fu (b8 c.n :: V) c (ps.drop k)) ∧ Below w.heap.size w wr ∧ wr.heap[w.heap.size]? = some (.cells #[.slice ap ps.length cp, .slice ai ni ci, .slice ar nr cr, .slice au nu cu] 126 (0, 0))) (fun i _ => ps.length - (intOf i).toNat)
        case atStart => exact ⟨0, by omega, rfl, HE, below_drewN HB2.out _, HK2.out⟩
        case round =>
          obtain ⟨k, hk, rfl, HA, hb, hblk⟩ := hrel
          have hbs := hb.size
          have m0 : wr.cell? ⟨w.heap.size, 0, none⟩ = some (.slice ap ps.length cp) := by rw [cellAt hblk]; rfl
          have HB : Hid (Below w.heap.size w wr) := hb
          have HBK : Hid _ := hblk
          by_cases hlt : k < ps.length
          · obtain ⟨g, rfl, hg, an, nn, cn, ac, nc, cc, ap', np, cp', ⟨x0, x1, x2, x3, x4⟩, hpk⟩ := HR.out k hlt
            rw [← hb.cell (p := ⟨g, _, none⟩) hg] at x0 x1 x2 x3 x4
            have HPO : Hid (PkOk ps[k] ∧ PkSm ps[k]) := HOK.out ps[k] (List.getElem_mem _)
            have HP3 : Hid (StAt wr (.slice ap' np cp') (ps[k].prov.map fun c => [b8 c])) := hpk.2.2.below hb
            have HN : Hid (RB = if [b8 ps[k].n, b8 ps[k].v] == b8 c.n :: V then fitB ps[k] c else fu (b8 c.n :: V) c (ps.drop (k + 1))) := by show _ = _; rw [HA.out, List.drop_eq_getElem_cons hlt]; rfl
            clear hpk hb hblk HA
            generalize ps[k] = Q at *
            have HQ : Hid (((bs [b8 Q.n, b8 Q.v]).toList == ((bs (cnT c)).extract 0 1 ++ bs V).toList) = ([b8 Q.n, b8 Q.v] == b8 c.n :: V)) := by show _ = _; rw [HX.out, bs_app, tl, tl]; rfl
            have hg1 : ((bs (cnT c)).extract 0 1).size = 1 := by rw [HX.out]; rfl
            rcases he : ([b8 Q.n, b8 Q.v] == b8 c.n :: V) with _ | _
            · have he' : ((bs [b8 Q.n, b8 Q.v]).toList == ((bs (cnT c)).extract 0 1 ++ bs V).toList) = false := by rw [HQ.out, he]
              have HE : Hid (RB = fu (b8 c.n :: V) c (ps.drop (k + 1))) := by show _ = _; rw [HN.out, he]; rfl
              clear HN HQ he
              go_wp2_with fail
              go_quiet (fail)
              go_wp2
              go_roundw
              case rel => exact ⟨k + 1, by omega, by go_num, HE, below_drewN HB.out _, HBK.out⟩
              case measure => simp [intOf]; omega
            · have he' : ((bs [b8 Q.n, b8 Q.v]).toList == ((bs (cnT c)).extract 0 1 ++ bs V).toList) = true := by rw [HQ.out, he]
              have HE : Hid (RB = fitB Q c) := by show _ = _; rw [HN.out, he]; rfl
              clear HN HQ he
              go_wp2_with fail
              go_quiet (fail)
              go_wp2_with fail
              refine (ref_Fits Q c _ an nn cn ac nc cc ap' np cp' _ HPO.out.1 HC.out HPO.out.2.prov (by exact HP3.out)).mono ?_
              rintro e w3 ⟨rfl, hb3⟩
              go_wp2
              go_ret
              exact ⟨ret_bool HE.out.symm, HB.out.trans ((below_drewN' hb3).mono hbs)⟩
          · have HE : Hid (RB = false) := by show _ = _; rw [HA.out, List.drop_of_length_le (by omega)]; rfl
            clear hb hblk HA
            go_wp2
            go_ret
            exact ⟨ret_bool HE.out.symm, HB.out⟩
    · have ho' : (bs O).toList.isEmpty = true := by rw [tl]; exact ho
      have HE : Hid (RB = fu (b8 c.n :: V) c ps) := by show _ = _; rw [HU.out]; unfold upgV; rw [ho, HV1.out]; rfl
      clear HU ho
      go_wp2_with fail
      go_quiet (fail)
      go_wp2
      go_loopw [9] (fun i wr => ∃ k : Nat, k ≤ ps.length ∧ i = .int .i64 k ∧ Hid (RB = fu (b8 c.n :: V) c (ps.drop k)) ∧ Below w.heap.size w wr ∧ wr.heap[w.heap.size]? = some (.cells #[.slice ap ps.length cp, .slice ai ni ci, .slice ar nr cr, .slice au nu cu] 126 (0, 0))) (fun i _ => ps.length - (intOf i).toNat)
      case atStart => exact ⟨0, by omega, rfl, HE, below_drewN HB2.out _, HK2.out⟩
      case round =>
        obtain ⟨k, hk, rfl, HA, hb, hblk⟩ := hrel
        have hbs := hb.size
        have m0 : wr.cell? ⟨w.heap.size, 0, none⟩ = some (.slice ap ps.length cp) := by rw [cellAt hblk]; rfl
        have HB : Hid (Below w.heap.size w wr) := hb
        have HBK : Hid _ := hblk
        by_cases hlt : k < ps.length
        · obtain ⟨g, rfl, hg, an, nn, cn, ac, nc, cc, ap', np, cp', ⟨x0, x1, x2, x3, x4⟩, hpk⟩ := HR.out k hlt
          rw [← hb.cell (p := ⟨g, _, none⟩) hg] at x0 x1 x2 x3 x4
          have HPO : Hid (PkOk ps[k] ∧ PkSm ps[k]) := HOK.out ps[k] (List.getElem_mem _)
          have HP3 : Hid (StAt wr (.slice ap' np cp') (ps[k].prov.map fun c => [b8 c])) := hpk.2.2.below hb
          have HN : Hid (RB = if [b8 ps[k].n, b8 ps[k].v] == b8 c.n :: V then fitB ps[k] c else fu (b8 c.n :: V) c (ps.drop (k + 1))) := by show _ = _; rw [HA.out, List.drop_eq_getElem_cons hlt]; rfl
          clear hpk hb hblk HA
          generalize ps[k] = Q at *
          have HQ : Hid (((bs [b8 Q.n, b8 Q.v]).toList == ((bs (cnT c)).extract 0 1 ++ bs V).toList) = ([b8 Q.n, b8 Q.v] == b8 c.n :: V)) := by show _ = _; rw [HX.out, bs_app, tl, tl]; rfl
          have hg1 : ((bs (cnT c)).extract 0 1).size = 1 := by rw [HX.out]; rfl
          rcases he : ([b8 Q.n, b8 Q.v] == b8 c.n :: V) with _ | _
          · have he' : ((bs [b8 Q.n, b8 Q.v]).toList == ((bs (cnT c)).extract 0 1 ++ bs V).toList) = false := by rw [HQ.out, he]
            have HE : Hid (RB = fu (b8 c.n :: V) c (ps.drop (k + 1))) := by show _ = _; rw [HN.out, he]; rfl
            clear HN HQ he
            go_wp2_with fail
            go_quiet (fail)
            go_wp2
            go_roundw
            case rel => exact ⟨k + 1, by omega, by go_num, HE, below_drewN HB.out _, HBK.out⟩
            case measure => simp [intOf]; omega
          · have he' : ((bs [b8 Q.n, b8 Q.v]).toList == ((bs (cnT c)).extract 0 1 ++ bs V).toList) = true := by rw [HQ.out, he]
            have HE : Hid (RB = fitB Q c) := by show _ = _; rw [HN.out, he]; rfl
            clear HN HQ he
            go_wp2_with fail
            go_quiet (fail)
            go_wp2_with fail
            refine (ref_Fits Q c _ an nn cn ac nc cc ap' np cp' _ HPO.out.1 HC.out HPO.out.2.prov (by exact HP3.out)).mono ?_
            rintro e w3 ⟨rfl, hb3⟩
            go_wp2
            go_ret
            exact ⟨ret_bool HE.out.symm, HB.out.trans ((below_drewN' hb3).mono hbs)⟩
        · have HE : Hid (RB = false) := by show _ = _; rw [HA.out, List.drop_of_length_le (by omega)]; rfl
          clear hb hblk HA
          go_wp2
          go_ret
          exact ⟨ret_bool HE.out.symm, HB.out⟩
  · have HE : Hid (RB = false) := by show _ = _; rw [HU.out]; unfold upgV; simp [hv1]
    have h1 : ((V.length : Int) != 1) = true := by rw [bne_iff_ne]; omega
    clear HU
    go_wp2_with fail
    go_quiet (fail)
    go_wp2
    go_ret
    exact ⟨ret_bool HE.out.symm, below_drewN HB2.out _⟩

end Go.Proofs.YtenbnmbbfeekpabGreatDoor

namespace Go.Proofs.YtenbnmbbfeekpabGreatDoor
open Go.RowKit

set_option maxHeartbeats 12800000 in
set_option maxRecDepth 100000 in
theorem ref_Rule (d : Dc) (P : List UInt8) (ap : Option Addr) (np cp : Nat) (ai : Option Addr) (ni ci : Nat) (ar : Option Addr) (nr cr : Nat) (au : Option Addr) (nu cu : Nat) (w : World) (hd : RDcAt w d (.slice ap np cp) (.slice ai ni ci) (.slice ar nr cr) (.slice au nu cu)) (hdo : DcOk d) (hok : ∀ p ∈ d.packs, PkOk p ∧ PkSm p ∧ ∀ n ∈ p.needs, (ndT n).length ≤ 800) (hsm : DcSm d) (hP : P.length ≤ 2000) :
    Calls Tryz.prog 62 #[.agg #[.slice ap np cp, .slice ai ni ci, .slice ar nr cr, .slice au nu cu], .string (bs P)] w fun e w' => e = .returned (.int .i64 (ruleN d P : Nat)) ∧ Below w.heap.size w w' := by
  obtain ⟨hr, hn0⟩ := rrow hd.1
  obtain ⟨hri, hn1⟩ := srow hd.2.1
  obtain ⟨hrr, hn2⟩ := srow hd.2.2.1
  obtain ⟨hru, hn3⟩ := srow hd.2.2.2
  rw [List.length_map] at hn1 hn2 hn3
  subst hn0 hn1 hn2 hn3
  have HD : Hid (RDcAt w d (.slice ap d.packs.length cp) (.slice ai d.ins.length ci) (.slice ar d.rem.length cr) (.slice au d.upg.length cu)) := hd
  have HR : Hid (RRow w ap d.packs) := hr
  have HRI : Hid (SRow w ai (d.ins.map cnT)) := hri
  have HRR : Hid (SRow w ar (d.rem.map cnT)) := hrr
  have HRU : Hid (SRow w au (d.upg.map cnT)) := hru
  have HOK : Hid (∀ p ∈ d.packs, PkOk p ∧ PkSm p ∧ ∀ n ∈ p.needs, (ndT n).length ≤ 800) := hok
  have HDO : Hid (DcOk d) := hdo
  have HP : Hid (P.length ≤ 2000) := hP
  have HPL : Hid (d.packs.length ≤ 801) := hsm.packs
  have hl0 := hsm.packs
  have hl1 := hsm.ins
  have hl2 := hsm.rem
  have hl3 := hsm.upg
  clear hr hri hrr hru hd hok hdo hP hsm
  obtain ⟨R6, h⟩ : ∃ x : Nat, x = if d.upg.all (fun c => upgB d.packs P c) then 0 else 6 := ⟨_, rfl⟩
  have H6 : Hid (R6 = _) := h
  clear h
  obtain ⟨R5, h⟩ : ∃ x : Nat, x = if d.rem.all (fun c => !fittedB d.packs P c []) then R6 else 5 := ⟨_, rfl⟩
  have H5 : Hid (R5 = _) := h
  clear h
  obtain ⟨R4, h⟩ : ∃ x : Nat, x = if d.ins.all (fun c => fittedB d.packs P c []) then R5 else 4 := ⟨_, rfl⟩
  have H4 : Hid (R4 = _) := h
  clear h
  obtain ⟨R3, h⟩ : ∃ x : Nat, x = if staysB d.packs P then R4 else 3 := ⟨_, rfl⟩
  have H3 : Hid (R3 = _) := h
  clear h
  obtain ⟨R2, h⟩ : ∃ x : Nat, x = if d.packs.all (r2 d.packs P) then R3 else 2 := ⟨_, rfl⟩
  have H2 : Hid (R2 = _) := h
  clear h
  have H1 : Hid (ruleN d P = if d.packs.all (r1 d.packs P) then R2 else 1) := by show _ = _; rw [H2.out, H3.out, H4.out, H5.out, H6.out]; rfl
  generalize ruleN d P = R at *
  go_enter Tryz.func62, Tryz.ntmps62
  go_wp2
  go_loopw [5] (fun i wr => ∃ k : Nat, k ≤ d.packs.length ∧ i = .int .i64 k ∧ Hid (R = if (d.packs.drop k).all (r1 d.packs P) then R2 else 1) ∧ Below w.heap.size w wr ∧ wr.heap[w.heap.size]? = some (.cells #[.slice ap d.packs.length cp, .slice ai d.ins.length ci, .slice ar d.rem.length cr, .slice au d.upg.length cu] 126 (0, 0))) (fun i _ => d.packs.length - (intOf i).toNat)
  case atStart => exact ⟨0, by omega, rfl, H1, (Below.refl _ _).alloc (Nat.le_refl _) _, blk_new _ _⟩
  case round =>
    obtain ⟨k, hk, rfl, HA, hb, hblk⟩ := hrel
    have hbs := hb.size
    have d0 : wr.cell? ⟨w.heap.size, 0, none⟩ = some (.slice ap d.packs.length cp) := by rw [cellAt hblk]; rfl
    have d1 : wr.cell? ⟨w.heap.size, 1, none⟩ = some (.slice ai d.ins.length ci) := by rw [cellAt hblk]; rfl
    have d2 : wr.cell? ⟨w.heap.size, 2, none⟩ = some (.slice ar d.rem.length cr) := by rw [cellAt hblk]; rfl
    have d3 : wr.cell? ⟨w.heap.size, 3, none⟩ = some (.slice au d.upg.length cu) := by rw [cellAt hblk]; rfl
    have HB : Hid (Below w.heap.size w wr) := hb
    have HBK : Hid _ := hblk
    by_cases hlt : k < d.packs.length
    · obtain ⟨g, rfl, hg, an, nn, cn, ac, nc, cc, ap', np, cp', ⟨x0, x1, x2, x3, x4⟩, hpk⟩ := HR.out k hlt
      rw [← hb.cell (p := ⟨g, _, none⟩) hg] at x0 x1 x2 x3 x4
      have HPO : Hid (PkOk d.packs[k] ∧ PkSm d.packs[k] ∧ ∀ n ∈ d.packs[k].needs, (ndT n).length ≤ 800) := HOK.out _ (List.getElem_mem _)
      have HP1 : Hid (RPkAt wr d.packs[k] (.slice an nn cn) (.slice ac nc cc) (.slice ap' np cp')) := ⟨hpk.1.below hb, hpk.2.1.below hb, hpk.2.2.below hb⟩
      have HDr : Hid (RPksAt wr (.slice (some ⟨g, 0, none⟩) d.packs.length cp) d.packs) := HD.out.1.below hb
      have HN : Hid (R = if (r1 d.packs P d.packs[k] && (d.packs.drop (k + 1)).all (r1 d.packs P)) then R2 else 1) := by show _ = _; rw [HA.out, List.drop_eq_getElem_cons hlt]; rfl
      clear hpk hb hblk HA
      generalize d.packs[k] = Q at *
      have HPR : Hid (r1 d.packs P Q = !(inB P [b8 Q.n, b8 Q.v] && !metB d.packs P Q)) := rfl
      go_wp2_with fail
      refine (ref_in P _ _ (le_max HP.out)).mono ?_
      rintro e w0 ⟨rfl, rfl⟩
      go_wp2_with fail
      go_region_held3 (fun w' => w'.cell? ⟨w.heap.size, 0, none⟩ = some (.slice (some ⟨g, 0, none⟩) d.packs.length cp) ∧ w'.cell? ⟨w.heap.size, 1, none⟩ = some (.slice ai d.ins.length ci) ∧ w'.cell? ⟨w.heap.size, 2, none⟩ = some (.slice ar d.rem.length cr) ∧ w'.cell? ⟨w.heap.size, 3, none⟩ = some (.slice au d.upg.length cu) ∧ w'.cell? ⟨g, k * 5, none⟩ = some (.string (bs [b8 Q.n, b8 Q.v])) ∧ w'.cell? ⟨g, k * 5 + 1, none⟩ = some (.string (bs (mkT Q.m))) ∧ w'.cell? ⟨g, k * 5 + 2, none⟩ = some (.slice an nn cn) ∧ w'.cell? ⟨g, k * 5 + 3, none⟩ = some (.slice ac nc cc) ∧ w'.cell? ⟨g, k * 5 + 4, none⟩ = some (.slice ap' np cp')) (first | exact ⟨d0, d1, d2, d3, x0, x1, x2, x3, x4⟩ | exact ⟨dcell (by assumption) d0, dcell (by assumption) d1, dcell (by assumption) d2, dcell (by assumption) d3, dcell (by assumption) x0, dcell (by assumption) x1, dcell (by assumption) x2, dcell (by assumption) x3, dcell (by assumption) x4⟩)
        (first | (go_at_call 107; refine (ref_met d.packs P Q _ _ (some ⟨g, 0, none⟩) d.packs.length cp ai d.ins.length ci ar d.rem.length cr au d.upg.length cu an nn cn ac nc cc ap' np cp' _ (by exact HDr.out) (fun p hp => ⟨(HOK.out p hp).1, (HOK.out p hp).2.1⟩) HPL.out HP.out HPO.out.1.needs HPO.out.2.1.needs (fun n hn => ⟨HPO.out.2.1.need n hn, HPO.out.2.2 n hn⟩) (by exact HP1.out.1)).mono ?_; rintro e w1 ⟨rfl, hb1⟩; have HB1 : Hid (Below w.heap.size w w1) := HB.out.trans ((below_drew hb1).mono hbs); have HK1 : Hid (w1.heap[w.heap.size]? = _) := blk_below (below_drew hb1) HBK.out (ltAt HBK.out)))
      clear d0 d1 d2 d3 x0 x1 x2 x3 x4 HB HBK hb1 HDr HP1
      generalize inB P [b8 Q.n, b8 Q.v] = A at *
      generalize metB d.packs P Q = B at *
      have hno : r1 d.packs P Q = true → Hid (R = if (d.packs.drop (k + 1)).all (r1 d.packs P) then R2 else 1) := fun h => by show _ = _; rw [HN.out, h, Bool.true_and]
      cases A with
      | false =>
        have HE := hno (by rw [HPR.out]; rfl)
        clear hno HN HPR
        go_wp2
        go_roundw
        case rel => first | exact ⟨k + 1, by omega, by go_num, HE, HB1.out, HK1.out⟩ | ((repeat apply Exists.intro); exact ⟨⟨k + 1, by omega, by go_num, HE, HB1.out, HK1.out⟩, rfl⟩)
        case measure => simp [intOf]; omega
      | true =>
        cases B with
        | true =>
          have HE := hno (by rw [HPR.out]; rfl)
          clear hno HN HPR
          go_wp2
          go_roundw
          case rel => first | exact ⟨k + 1, by omega, by go_num, HE, HB1.out, HK1.out⟩ | ((repeat apply Exists.intro); exact ⟨⟨k + 1, by omega, by go_num, HE, HB1.out, HK1.out⟩, rfl⟩)
          case measure => simp [intOf]; omega
        | false =>
          have HE : Hid (R = 1) := by show _ = _; rw [HN.out, HPR.out]; rfl
          clear hno HN HPR
          go_wp2
          go_ret
          exact ⟨ret_int (by rw [HE.out]; rfl), HB1.out⟩
    · have HE : Hid (R = R2) := by show _ = _; rw [HA.out, List.drop_of_length_le (by omega)]; rfl
      have HBx : Hid (Below w.heap.size w wr) := hb
      have HKx : Hid _ := hblk
      clear hb hblk HA
      clear HB HBK
      have HE2 : Hid (R = _) := HE.out.trans H2.out
      clear HE
      go_wp2
      clear d0 d1 d2 d3
      go_loopw [8] (fun i wr => ∃ k : Nat, k ≤ d.packs.length ∧ i = .int .i64 k ∧ Hid (R = if (d.packs.drop k).all (r2 d.packs P) then R3 else 2) ∧ Below w.heap.size w wr ∧ wr.heap[w.heap.size]? = some (.cells #[.slice ap d.packs.length cp, .slice ai d.ins.length ci, .slice ar d.rem.length cr, .slice au d.upg.length cu] 126 (0, 0))) (fun i _ => d.packs.length - (intOf i).toNat)
      case atStart => exact ⟨0, by omega, rfl, HE2, HBx.out, HKx.out⟩
      case round =>
        obtain ⟨k, hk, rfl, HA, hb, hblk⟩ := hrel
        have hbs := hb.size
        have d0 : wr.cell? ⟨w.heap.size, 0, none⟩ = some (.slice ap d.packs.length cp) := by rw [cellAt hblk]; rfl
        have d1 : wr.cell? ⟨w.heap.size, 1, none⟩ = some (.slice ai d.ins.length ci) := by rw [cellAt hblk]; rfl
        have d2 : wr.cell? ⟨w.heap.size, 2, none⟩ = some (.slice ar d.rem.length cr) := by rw [cellAt hblk]; rfl
        have d3 : wr.cell? ⟨w.heap.size, 3, none⟩ = some (.slice au d.upg.length cu) := by rw [cellAt hblk]; rfl
        have HB : Hid (Below w.heap.size w wr) := hb
        have HBK : Hid _ := hblk
        by_cases hlt : k < d.packs.length
        · obtain ⟨g, rfl, hg, an, nn, cn, ac, nc, cc, ap', np, cp', ⟨x0, x1, x2, x3, x4⟩, hpk⟩ := HR.out k hlt
          rw [← hb.cell (p := ⟨g, _, none⟩) hg] at x0 x1 x2 x3 x4
          have HPO : Hid (PkOk d.packs[k] ∧ PkSm d.packs[k] ∧ ∀ n ∈ d.packs[k].needs, (ndT n).length ≤ 800) := HOK.out _ (List.getElem_mem _)
          have HP1 : Hid (RPkAt wr d.packs[k] (.slice an nn cn) (.slice ac nc cc) (.slice ap' np cp')) := ⟨hpk.1.below hb, hpk.2.1.below hb, hpk.2.2.below hb⟩
          have HDr : Hid (RPksAt wr (.slice (some ⟨g, 0, none⟩) d.packs.length cp) d.packs) := HD.out.1.below hb
          have HN : Hid (R = if (r2 d.packs P d.packs[k] && (d.packs.drop (k + 1)).all (r2 d.packs P)) then R3 else 2) := by show _ = _; rw [HA.out, List.drop_eq_getElem_cons hlt]; rfl
          clear hpk hb hblk HA
          generalize d.packs[k] = Q at *
          have HPR : Hid (r2 d.packs P Q = !(inB P [b8 Q.n, b8 Q.v] && !besideB d.packs P Q)) := rfl
          go_wp2_with fail
          refine (ref_in P _ _ (le_max HP.out)).mono ?_
          rintro e w0 ⟨rfl, rfl⟩
          go_wp2_with fail
          go_region_held3 (fun w' => w'.cell? ⟨w.heap.size, 0, none⟩ = some (.slice (some ⟨g, 0, none⟩) d.packs.length cp) ∧ w'.cell? ⟨w.heap.size, 1, none⟩ = some (.slice ai d.ins.length ci) ∧ w'.cell? ⟨w.heap.size, 2, none⟩ = some (.slice ar d.rem.length cr) ∧ w'.cell? ⟨w.heap.size, 3, none⟩ = some (.slice au d.upg.length cu) ∧ w'.cell? ⟨g, k * 5, none⟩ = some (.string (bs [b8 Q.n, b8 Q.v])) ∧ w'.cell? ⟨g, k * 5 + 1, none⟩ = some (.string (bs (mkT Q.m))) ∧ w'.cell? ⟨g, k * 5 + 2, none⟩ = some (.slice an nn cn) ∧ w'.cell? ⟨g, k * 5 + 3, none⟩ = some (.slice ac nc cc) ∧ w'.cell? ⟨g, k * 5 + 4, none⟩ = some (.slice ap' np cp')) (first | exact ⟨d0, d1, d2, d3, x0, x1, x2, x3, x4⟩ | exact ⟨dcell (by assumption) d0, dcell (by assumption) d1, dcell (by assumption) d2, dcell (by assumption) d3, dcell (by assumption) x0, dcell (by assumption) x1, dcell (by assumption) x2, dcell (by assumption) x3, dcell (by assumption) x4⟩)
            (first | (go_at_call 108; refine (ref_beside d.packs P Q _ (some ⟨g, 0, none⟩) d.packs.length cp ai d.ins.length ci ar d.rem.length cr au d.upg.length cu an nn cn ac nc cc ap' np cp' _ (by exact HDr.out) (fun p hp => ⟨(HOK.out p hp).1, (HOK.out p hp).2.1⟩) HPL.out HP.out HPO.out.1.conf HPO.out.2.1.conf (by exact HP1.out.2.1)).mono ?_; rintro e w1 ⟨rfl, hb1⟩; have HB1 : Hid (Below w.heap.size w w1) := HB.out.trans ((below_drew hb1).mono hbs); have HK1 : Hid (w1.heap[w.heap.size]? = _) := blk_below (below_drew hb1) HBK.out (ltAt HBK.out)))
          clear d0 d1 d2 d3 x0 x1 x2 x3 x4 HB HBK hb1 HDr HP1
          generalize inB P [b8 Q.n, b8 Q.v] = A at *
          generalize besideB d.packs P Q = B at *
          have hno : r2 d.packs P Q = true → Hid (R = if (d.packs.drop (k + 1)).all (r2 d.packs P) then R3 else 2) := fun h => by show _ = _; rw [HN.out, h, Bool.true_and]
          cases A with
          | false =>
            have HE := hno (by rw [HPR.out]; rfl)
            clear hno HN HPR
            go_wp2
            go_roundw
            case rel => first | exact ⟨k + 1, by omega, by go_num, HE, HB1.out, HK1.out⟩ | ((repeat apply Exists.intro); exact ⟨⟨k + 1, by omega, by go_num, HE, HB1.out, HK1.out⟩, rfl⟩)
            case measure => simp [intOf]; omega
          | true =>
            cases B with
            | true =>
              have HE := hno (by rw [HPR.out]; rfl)
              clear hno HN HPR
              go_wp2
              go_roundw
              case rel => first | exact ⟨k + 1, by omega, by go_num, HE, HB1.out, HK1.out⟩ | ((repeat apply Exists.intro); exact ⟨⟨k + 1, by omega, by go_num, HE, HB1.out, HK1.out⟩, rfl⟩)
              case measure => simp [intOf]; omega
            | false =>
              have HE : Hid (R = 2) := by show _ = _; rw [HN.out, HPR.out]; rfl
              clear hno HN HPR
              go_wp2
              go_ret
              exact ⟨ret_int (by rw [HE.out]; rfl), HB1.out⟩
        · have HE : Hid (R = R3) := by show _ = _; rw [HA.out, List.drop_of_length_le (by omega)]; rfl
          have HBx : Hid (Below w.heap.size w wr) := hb
          have HKx : Hid _ := hblk
          clear hb hblk HA
          clear HB HBK
          have HE3 : Hid (R = _) := HE.out.trans H3.out
          clear HE
          have hbs3 := HBx.out.size
          have HDx : Hid (RPksAt wr (.slice ap d.packs.length cp) d.packs) := HD.out.1.below HBx.out
          go_wp2_with fail
          refine (ref_stays d.packs P ap d.packs.length cp ai d.ins.length ci ar d.rem.length cr au d.upg.length cu _ (by exact HDx.out) (fun p hp => (HOK.out p hp).1) HPL.out HP.out).mono ?_
          rintro e w3 ⟨rfl, hb3⟩
          have HBx3 : Hid (Below w.heap.size w w3) := HBx.out.trans (hb3.mono hbs3)
          have HKx3 : Hid (w3.heap[w.heap.size]? = _) := blk_below hb3 HKx.out (ltAt HKx.out)
          clear hb3 HBx HKx HDx d0 d1 d2 d3
          have HBx := HBx3
          have HKx := HKx3
          clear HBx3 HKx3
          rcases hs : staysB d.packs P with _ | _
          · have HE : Hid (R = 3) := by show _ = _; rw [HE3.out, hs]; rfl
            clear HE3 hs
            go_wp2
            go_ret
            exact ⟨ret_int (by rw [HE.out]; rfl), HBx.out⟩
          · have HE4 : Hid (R = _) := (HE3.out.trans (by rw [hs]; rfl : _ = R4)).trans H4.out
            clear HE3 hs
            go_wp2
            go_loopw [12] (fun i wr => ∃ k : Nat, k ≤ d.ins.length ∧ i = .int .i64 k ∧ Hid (R = if (d.ins.drop k).all (fun c => fittedB d.packs P c []) then R5 else 4) ∧ Below w.heap.size w wr ∧ wr.heap[w.heap.size]? = some (.cells #[.slice ap d.packs.length cp, .slice ai d.ins.length ci, .slice ar d.rem.length cr, .slice au d.upg.length cu] 126 (0, 0))) (fun i _ => d.ins.length - (intOf i).toNat)
            case atStart => exact ⟨0, by omega, rfl, HE4, HBx.out, HKx.out⟩
            case round =>
              obtain ⟨k, hk, rfl, HA, hb, hblk⟩ := hrel
              have hbs := hb.size
              have d0 : wr.cell? ⟨w.heap.size, 0, none⟩ = some (.slice ap d.packs.length cp) := by rw [cellAt hblk]; rfl
              have d1 : wr.cell? ⟨w.heap.size, 1, none⟩ = some (.slice ai d.ins.length ci) := by rw [cellAt hblk]; rfl
              have d2 : wr.cell? ⟨w.heap.size, 2, none⟩ = some (.slice ar d.rem.length cr) := by rw [cellAt hblk]; rfl
              have d3 : wr.cell? ⟨w.heap.size, 3, none⟩ = some (.slice au d.upg.length cu) := by rw [cellAt hblk]; rfl
              have HB : Hid (Below w.heap.size w wr) := hb
              have HBK : Hid _ := hblk
              by_cases hlt : k < d.ins.length
              · obtain ⟨g, rfl, hg, x0⟩ := HRI.out k (by simpa using hlt)
                rw [← hb.cell (p := ⟨g, _, none⟩) hg, List.getElem_map] at x0
                have HCO : Hid (CnOk d.ins[k]) := HDO.out.ins _ (List.getElem_mem _)
                have HDr : Hid (RPksAt wr (.slice ap d.packs.length cp) d.packs) := HD.out.1.below hb
                have HN : Hid (R = if (((fun c => fittedB d.packs P c []) d.ins[k]) && (d.ins.drop (k + 1)).all (fun c => fittedB d.packs P c [])) then R5 else 4) := by show _ = _; rw [HA.out, List.drop_eq_getElem_cons hlt]; rfl
                clear hb hblk HA
                generalize d.ins[k] = C at *
                change Hid (R = if (fittedB d.packs P C [] && (d.ins.drop (k + 1)).all (fun c => fittedB d.packs P c [])) then R5 else 4) at HN
                go_wp2_with fail
                go_region_held3 (fun w' => w'.cell? ⟨w.heap.size, 0, none⟩ = some (.slice ap d.packs.length cp) ∧ w'.cell? ⟨w.heap.size, 1, none⟩ = some (.slice (some ⟨g, 0, none⟩) d.ins.length ci) ∧ w'.cell? ⟨w.heap.size, 2, none⟩ = some (.slice ar d.rem.length cr) ∧ w'.cell? ⟨w.heap.size, 3, none⟩ = some (.slice au d.upg.length cu) ∧ w'.cell? ⟨g, k, none⟩ = some (.string (bs (cnT C)))) (first | exact ⟨d0, d1, d2, d3, x0⟩ | exact ⟨dcell (by assumption) d0, dcell (by assumption) d1, dcell (by assumption) d2, dcell (by assumption) d3, dcell (by assumption) x0⟩)
                  (first | (go_at_call 110; refine (ref_fitted d.packs P C [] ap d.packs.length cp (some ⟨g, 0, none⟩) d.ins.length ci ar d.rem.length cr au d.upg.length cu _ (by exact HDr.out) (fun p hp => ⟨(HOK.out p hp).1, (HOK.out p hp).2.1⟩) HPL.out HCO.out HP.out).mono ?_; rintro e w1 ⟨rfl, hb1⟩; have HB1 : Hid (Below w.heap.size w w1) := HB.out.trans ((below_drew hb1).mono hbs); have HK1 : Hid (w1.heap[w.heap.size]? = _) := blk_below (below_drew hb1) HBK.out (ltAt HBK.out)))
                clear d0 d1 d2 d3 x0 HB HBK hb1 HDr
                generalize fittedB d.packs P C [] = A at *
                cases A with
                | true =>
                  have HE : Hid (R = if (d.ins.drop (k + 1)).all (fun c => fittedB d.packs P c []) then R5 else 4) := HN.out
                  clear HN
                  go_wp2
                  go_roundw
                  case rel => first | exact ⟨k + 1, by omega, by go_num, HE, HB1.out, HK1.out⟩ | ((repeat apply Exists.intro); exact ⟨⟨k + 1, by omega, by go_num, HE, HB1.out, HK1.out⟩, rfl⟩)
                  case measure => simp [intOf]; omega
                | false =>
                  have HE : Hid (R = 4) := HN.out
                  clear HN
                  go_wp2
                  go_ret
                  exact ⟨ret_int (by rw [HE.out]; rfl), HB1.out⟩
              · have HE : Hid (R = R5) := by show _ = _; rw [HA.out, List.drop_of_length_le (by omega)]; rfl
                have HBx : Hid (Below w.heap.size w wr) := hb
                have HKx : Hid _ := hblk
                clear hb hblk HA
                clear HB HBK
                have HE5 : Hid (R = _) := HE.out.trans H5.out
                clear HE
                go_wp2
                clear d0 d1 d2 d3
                go_loopw [13] (fun i wr => ∃ k : Nat, k ≤ d.rem.length ∧ i = .int .i64 k ∧ Hid (R = if (d.rem.drop k).all (fun c => !fittedB d.packs P c []) then R6 else 5) ∧ Below w.heap.size w wr ∧ wr.heap[w.heap.size]? = some (.cells #[.slice ap d.packs.length cp, .slice ai d.ins.length ci, .slice ar d.rem.length cr, .slice au d.upg.length cu] 126 (0, 0))) (fun i _ => d.rem.length - (intOf i).toNat)
                case atStart => exact ⟨0, by omega, rfl, HE5, HBx.out, HKx.out⟩
                case round =>
                  obtain ⟨k, hk, rfl, HA, hb, hblk⟩ := hrel
                  have hbs := hb.size
                  have d0 : wr.cell? ⟨w.heap.size, 0, none⟩ = some (.slice ap d.packs.length cp) := by rw [cellAt hblk]; rfl
                  have d1 : wr.cell? ⟨w.heap.size, 1, none⟩ = some (.slice ai d.ins.length ci) := by rw [cellAt hblk]; rfl
                  have d2 : wr.cell? ⟨w.heap.size, 2, none⟩ = some (.slice ar d.rem.length cr) := by rw [cellAt hblk]; rfl
                  have d3 : wr.cell? ⟨w.heap.size, 3, none⟩ = some (.slice au d.upg.length cu) := by rw [cellAt hblk]; rfl
                  have HB : Hid (Below w.heap.size w wr) := hb
                  have HBK : Hid _ := hblk
                  by_cases hlt : k < d.rem.length
                  · obtain ⟨g, rfl, hg, x0⟩ := HRR.out k (by simpa using hlt)
                    rw [← hb.cell (p := ⟨g, _, none⟩) hg, List.getElem_map] at x0
                    have HCO : Hid (CnOk d.rem[k]) := HDO.out.rem _ (List.getElem_mem _)
                    have HDr : Hid (RPksAt wr (.slice ap d.packs.length cp) d.packs) := HD.out.1.below hb
                    have HN : Hid (R = if (((fun c => !fittedB d.packs P c []) d.rem[k]) && (d.rem.drop (k + 1)).all (fun c => !fittedB d.packs P c [])) then R6 else 5) := by show _ = _; rw [HA.out, List.drop_eq_getElem_cons hlt]; rfl
                    clear hb hblk HA
                    generalize d.rem[k] = C at *
                    change Hid (R = if (!fittedB d.packs P C [] && (d.rem.drop (k + 1)).all (fun c => !fittedB d.packs P c [])) then R6 else 5) at HN
                    go_wp2_with fail
                    go_region_held3 (fun w' => w'.cell? ⟨w.heap.size, 0, none⟩ = some (.slice ap d.packs.length cp) ∧ w'.cell? ⟨w.heap.size, 1, none⟩ = some (.slice ai d.ins.length ci) ∧ w'.cell? ⟨w.heap.size, 2, none⟩ = some (.slice (some ⟨g, 0, none⟩) d.rem.length cr) ∧ w'.cell? ⟨w.heap.size, 3, none⟩ = some (.slice au d.upg.length cu) ∧ w'.cell? ⟨g, k, none⟩ = some (.string (bs (cnT C)))) (first | exact ⟨d0, d1, d2, d3, x0⟩ | exact ⟨dcell (by assumption) d0, dcell (by assumption) d1, dcell (by assumption) d2, dcell (by assumption) d3, dcell (by assumption) x0⟩)
                      (first | (go_at_call 110; refine (ref_fitted d.packs P C [] ap d.packs.length cp ai d.ins.length ci (some ⟨g, 0, none⟩) d.rem.length cr au d.upg.length cu _ (by exact HDr.out) (fun p hp => ⟨(HOK.out p hp).1, (HOK.out p hp).2.1⟩) HPL.out HCO.out HP.out).mono ?_; rintro e w1 ⟨rfl, hb1⟩; have HB1 : Hid (Below w.heap.size w w1) := HB.out.trans ((below_drew hb1).mono hbs); have HK1 : Hid (w1.heap[w.heap.size]? = _) := blk_below (below_drew hb1) HBK.out (ltAt HBK.out)))
                    clear d0 d1 d2 d3 x0 HB HBK hb1 HDr
                    generalize fittedB d.packs P C [] = A at *
                    cases A with
                    | false =>
                      have HE : Hid (R = if (d.rem.drop (k + 1)).all (fun c => !fittedB d.packs P c []) then R6 else 5) := HN.out
                      clear HN
                      go_wp2
                      go_roundw
                      case rel => first | exact ⟨k + 1, by omega, by go_num, HE, HB1.out, HK1.out⟩ | ((repeat apply Exists.intro); exact ⟨⟨k + 1, by omega, by go_num, HE, HB1.out, HK1.out⟩, rfl⟩)
                      case measure => simp [intOf]; omega
                    | true =>
                      have HE : Hid (R = 5) := HN.out
                      clear HN
                      go_wp2
                      go_ret
                      exact ⟨ret_int (by rw [HE.out]; rfl), HB1.out⟩
                  · have HE : Hid (R = R6) := by show _ = _; rw [HA.out, List.drop_of_length_le (by omega)]; rfl
                    have HBx : Hid (Below w.heap.size w wr) := hb
                    have HKx : Hid _ := hblk
                    clear hb hblk HA
                    clear HB HBK
                    have HE6 : Hid (R = _) := HE.out.trans H6.out
                    clear HE
                    go_wp2
                    clear d0 d1 d2 d3
                    go_loopw [14] (fun i wr => ∃ k : Nat, k ≤ d.upg.length ∧ i = .int .i64 k ∧ Hid (R = if (d.upg.drop k).all (fun c => upgB d.packs P c) then 0 else 6) ∧ Below w.heap.size w wr ∧ wr.heap[w.heap.size]? = some (.cells #[.slice ap d.packs.length cp, .slice ai d.ins.length ci, .slice ar d.rem.length cr, .slice au d.upg.length cu] 126 (0, 0))) (fun i _ => d.upg.length - (intOf i).toNat)
                    case atStart => exact ⟨0, by omega, rfl, HE6, HBx.out, HKx.out⟩
                    case round =>
                      obtain ⟨k, hk, rfl, HA, hb, hblk⟩ := hrel
                      have hbs := hb.size
                      have d0 : wr.cell? ⟨w.heap.size, 0, none⟩ = some (.slice ap d.packs.length cp) := by rw [cellAt hblk]; rfl
                      have d1 : wr.cell? ⟨w.heap.size, 1, none⟩ = some (.slice ai d.ins.length ci) := by rw [cellAt hblk]; rfl
                      have d2 : wr.cell? ⟨w.heap.size, 2, none⟩ = some (.slice ar d.rem.length cr) := by rw [cellAt hblk]; rfl
                      have d3 : wr.cell? ⟨w.heap.size, 3, none⟩ = some (.slice au d.upg.length cu) := by rw [cellAt hblk]; rfl
                      have HB : Hid (Below w.heap.size w wr) := hb
                      have HBK : Hid _ := hblk
                      by_cases hlt : k < d.upg.length
                      · obtain ⟨g, rfl, hg, x0⟩ := HRU.out k (by simpa using hlt)
                        rw [← hb.cell (p := ⟨g, _, none⟩) hg, List.getElem_map] at x0
                        have HCO : Hid (CnOk d.upg[k]) := HDO.out.upg _ (List.getElem_mem _)
                        have HDr : Hid (RPksAt wr (.slice ap d.packs.length cp) d.packs) := HD.out.1.below hb
                        have HN : Hid (R = if (((fun c => upgB d.packs P c) d.upg[k]) && (d.upg.drop (k + 1)).all (fun c => upgB d.packs P c)) then 0 else 6) := by show _ = _; rw [HA.out, List.drop_eq_getElem_cons hlt]; rfl
                        clear hb hblk HA
                        generalize d.upg[k] = C at *
                        change Hid (R = if (upgB d.packs P C && (d.upg.drop (k + 1)).all (fun c => upgB d.packs P c)) then 0 else 6) at HN
                        go_wp2_with fail
                        go_region_held3 (fun w' => w'.cell? ⟨w.heap.size, 0, none⟩ = some (.slice ap d.packs.length cp) ∧ w'.cell? ⟨w.heap.size, 1, none⟩ = some (.slice ai d.ins.length ci) ∧ w'.cell? ⟨w.heap.size, 2, none⟩ = some (.slice ar d.rem.length cr) ∧ w'.cell? ⟨w.heap.size, 3, none⟩ = some (.slice (some ⟨g, 0, none⟩) d.upg.length cu) ∧ w'.cell? ⟨g, k, none⟩ = some (.string (bs (cnT C)))) (first | exact ⟨d0, d1, d2, d3, x0⟩ | exact ⟨dcell (by assumption) d0, dcell (by assumption) d1, dcell (by assumption) d2, dcell (by assumption) d3, dcell (by assumption) x0⟩)
                          (first | (go_at_call 111; refine (ref_upgraded d.packs P C ap d.packs.length cp ai d.ins.length ci ar d.rem.length cr (some ⟨g, 0, none⟩) d.upg.length cu _ (by exact HDr.out) (fun p hp => ⟨(HOK.out p hp).1, (HOK.out p hp).2.1⟩) HPL.out HCO.out HP.out).mono ?_; rintro e w1 ⟨rfl, hb1⟩; have HB1 : Hid (Below w.heap.size w w1) := HB.out.trans ((below_drew hb1).mono hbs); have HK1 : Hid (w1.heap[w.heap.size]? = _) := blk_below (below_drew hb1) HBK.out (ltAt HBK.out)))
                        clear d0 d1 d2 d3 x0 HB HBK hb1 HDr
                        generalize upgB d.packs P C = A at *
                        cases A with
                        | true =>
                          have HE : Hid (R = if (d.upg.drop (k + 1)).all (fun c => upgB d.packs P c) then 0 else 6) := HN.out
                          clear HN
                          go_wp2
                          go_roundw
                          case rel => first | exact ⟨k + 1, by omega, by go_num, HE, HB1.out, HK1.out⟩ | ((repeat apply Exists.intro); exact ⟨⟨k + 1, by omega, by go_num, HE, HB1.out, HK1.out⟩, rfl⟩)
                          case measure => simp [intOf]; omega
                        | false =>
                          have HE : Hid (R = 6) := HN.out
                          clear HN
                          go_wp2
                          go_ret
                          exact ⟨ret_int (by rw [HE.out]; rfl), HB1.out⟩
                      · have HE : Hid (R = 0) := by show _ = _; rw [HA.out, List.drop_of_length_le (by omega)]; rfl
                        have HBx : Hid (Below w.heap.size w wr) := hb
                        have HKx : Hid _ := hblk
                        clear hb hblk HA
                        clear HB HBK
                        go_wp2
                        go_ret
                        exact ⟨ret_int (by rw [HE.out]; rfl), HBx.out⟩

end Go.Proofs.YtenbnmbbfeekpabGreatDoor

namespace Go.Proofs.YtenbnmbbfeekpabGreatDoor
open Go.RowKit

set_option maxHeartbeats 3200000 in
set_option maxRecDepth 100000 in
theorem ref_Valid (s q : ByteArray) (w : World) (hs : s.size ≤ maxLen) (hq : q.size ≤ maxLen) : Calls Tryz.prog 32 #[.string s, .string q] w fun e w' => e = .returned (.tuple #[.int .i64 (vaR s.data.toList q.data.toList : Nat), .int .i64 (vaE s.data.toList q.data.toList : Nat)]) ∧ Below w.heap.size w w' := by
  by_cases h : rdE s.data.toList = 0
  · obtain ⟨r1, r2, r3, r4, _⟩ := rd_ok h
    have hsm := dc_small r2 (by rw [← r1]; exact r3)
    have hnd := dc_nds r1 r3
    have HE : Hid (rdE s.data.toList = 0) := h
    have HV1 : Hid (vaE s.data.toList q.data.toList = if pickB (dcV s.data.toList).packs q.data.toList then 0 else 5) := by show _ = _; unfold vaE; rw [if_pos h]
    have HV2 : Hid (vaR s.data.toList q.data.toList = if pickB (dcV s.data.toList).packs q.data.toList then ruleN (dcV s.data.toList) q.data.toList else 0) := by show _ = _; unfold vaR; rw [if_pos h]
    have hs8 : s.size ≤ 800 := by rw [← sz]; exact r3
    have HOK : Hid (DcOk (dcV s.data.toList)) := r2
    have HR1 : Hid (s.data.toList = dcT (dcV s.data.toList)) := r1
    have HQ : Hid (q = bs q.data.toList) := (bs_toList q).symm
    clear r1 r2 r3 h
    generalize vaE s.data.toList q.data.toList = E at *
    generalize vaR s.data.toList q.data.toList = R at *
    generalize hd : dcV s.data.toList = d at *
    have HSM : Hid (DcSm d) := hsm
    have HND : Hid (∀ p ∈ d.packs, PkOk p ∧ PkSm p ∧ ∀ n ∈ p.needs, (ndT n).length ≤ 800) := fun p hp => ⟨HOK.out.packs p hp, hsm.pack p hp, hnd p hp⟩
    have hpl := hsm.packs
    clear hd hsm hnd
    obtain ⟨P, hP⟩ : ∃ P, q.data.toList = P := ⟨_, rfl⟩
    rw [hP] at HV1 HV2
    have hqP : q = bs P := by rw [← hP]; rfl
    subst hqP
    have hPl : P.length ≤ maxLen := by rw [← bs_size]; exact hq
    clear hP HQ hq
    go_enter Tryz.func32, Tryz.ntmps32
    go_wp2_with fail
    refine (ref_Check s _ hs).mono ?_
    rintro e w1 ⟨rfl, hb1⟩
    have HB1 : Hid (Below w.heap.size w w1) := hb1
    have hz : ((rdE s.data.toList : Int) != 0) = false := by rw [HE.out]; rfl
    clear hb1
    go_wp2_with fail
    refine (ref_read d HOK.out s HR1.out _ hs8).mono ?_
    rintro e w2 ⟨ap, np, cp, ai, ni, ci, ar, nr, cr, au, nu, cu, rfl, hd, hb2⟩
    have HB2 : Hid (Below w.heap.size w w2) := HB1.out.trans (hb2.mono HB1.out.size)
    have hw2 : w.heap.size ≤ w2.heap.size := HB2.out.size
    have HD : Hid (RDcAt w2 d (.slice ap np cp) (.slice ai ni ci) (.slice ar nr cr) (.slice au nu cu)) := hd
    clear hb2 HB1 HR1 hd
    go_wp2_with fail
    obtain ⟨W, hW⟩ : ∃ W, W = w2.alloc (.cells #[.slice ap np cp, .slice ai ni ci, .slice ar nr cr, .slice au nu cu] 126) := ⟨_, rfl⟩
    have HWB : Hid (Below w2.heap.size w2 W) := by show Below _ _ _; rw [hW]; exact (Below.refl _ _).alloc (Nat.le_refl _) _
    have hWb : W.heap[w2.heap.size]? = some (.cells #[.slice ap np cp, .slice ai ni ci, .slice ar nr cr, .slice au nu cu] 126 (0, 0)) := by rw [hW]; exact blk_new _ _
    rw [← hW]
    clear hW
    have HDW : Hid (RDcAt W d (.slice ap np cp) (.slice ai ni ci) (.slice ar nr cr) (.slice au nu cu)) := HD.out.below HWB.out
    have HBW : Hid (Below w.heap.size w W) := HB2.out.trans (HWB.out.mono hw2)
    have HKW : Hid _ := hWb
    clear hWb HWB HD HB2
    refine (ref_Pick d.packs P ap np cp ai ni ci ar nr cr au nu cu _ HDW.out.1 hpl hPl).mono ?_
    rintro e w3 ⟨rfl, hb3⟩
    have hK3 := blk_below hb3 HKW.out (ltAt HKW.out)
    have HD3 : Hid (RDcAt w3 d (.slice ap np cp) (.slice ai ni ci) (.slice ar nr cr) (.slice au nu cu)) := HDW.out.below hb3
    have HB3 : Hid (Below w.heap.size w w3) := HBW.out.trans (hb3.mono HBW.out.size)
    have d0 : w3.cell? ⟨w2.heap.size, 0, none⟩ = some (.slice ap np cp) := by rw [cellAt hK3]; rfl
    have d1 : w3.cell? ⟨w2.heap.size, 1, none⟩ = some (.slice ai ni ci) := by rw [cellAt hK3]; rfl
    have d2 : w3.cell? ⟨w2.heap.size, 2, none⟩ = some (.slice ar nr cr) := by rw [cellAt hK3]; rfl
    have d3 : w3.cell? ⟨w2.heap.size, 3, none⟩ = some (.slice au nu cu) := by rw [cellAt hK3]; rfl
    have hs3 := HB3.out.size
    clear hb3 hK3 HKW HDW HBW
    rcases hp : pickB d.packs P with _ | _
    · have HE1 : Hid (E = 5 ∧ R = 0) := by show _ ∧ _; rw [HV1.out, HV2.out, hp]; exact ⟨rfl, rfl⟩
      clear HV1 HV2 hp
      go_wp2
      go_ret2
      exact ⟨by rw [HE1.out.1, HE1.out.2]; rfl, HB3.out⟩
    · have HE1 : Hid (E = 0 ∧ R = ruleN d P) := by show _ ∧ _; rw [HV1.out, HV2.out, hp]; exact ⟨rfl, rfl⟩
      have HP2 : Hid (P.length ≤ 2000) := pick_len hp hpl
      clear HV1 HV2 hp
      go_wp2_with fail
      refine (ref_Rule d P ap np cp ai ni ci ar nr cr au nu cu _ HD3.out HOK.out HND.out HSM.out HP2.out).mono ?_
      rintro e w4 ⟨rfl, hb4⟩
      go_wp2
      go_ret2
      exact ⟨by rw [HE1.out.1, HE1.out.2]; rfl, HB3.out.trans (hb4.mono hs3)⟩
  · have HT : Hid (vaE s.data.toList q.data.toList = rdE s.data.toList ∧ vaR s.data.toList q.data.toList = 0) := by show _ ∧ _; unfold vaE vaR; rw [if_neg h, if_neg h]; exact ⟨rfl, rfl⟩
    have hz : ((rdE s.data.toList : Int) != 0) = true := by rw [bne_iff_ne]; omega
    go_enter Tryz.func32, Tryz.ntmps32
    go_wp2_with fail
    refine (ref_Check s _ hs).mono ?_
    rintro e w1 ⟨rfl, hb1⟩
    go_wp2
    go_ret2
    exact ⟨by rw [HT.out.1, HT.out.2]; rfl, hb1⟩

end Go.Proofs.YtenbnmbbfeekpabGreatDoor
