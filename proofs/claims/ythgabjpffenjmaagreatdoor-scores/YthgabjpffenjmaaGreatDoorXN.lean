import Derived.Test.YthgabjpffenjmaaGreatDoorXM

namespace Go.Proofs.YthgabjpffenjmaaGreatDoor
open Go.RowKit

/-- The packages of a pick; none: the text is no pick. -/
def rdL (ps : List Pk) : List UInt8 → List UInt8 → Option (List Pk)
  | last, a :: b :: r => match ps[nbT ps a.toNat b.toNat]? with
    | none => none
    | some p => if gtB [a, b] last then (rdL ps [a, b] r).map (p :: ·) else none
  | _, _ => some []
def prL (ps : List Pk) (P : List UInt8) : Option (List Pk) := if 800 < P.length then none else if P.length % 2 = 0 then rdL ps [] P else none
def prE (ps : List Pk) (P : List UInt8) : Nat := if (prL ps P).isSome then 0 else 5

theorem own_blk_ne {base : Nat} {w : World} {e : TypeId} {size : Nat} {v : Value} {n : Nat} {xs : List Value} (h : w.ownsRow base e size v n xs) {k : Nat} {cur : Array Value} {T : TypeId} {m : Nat × Nat} (hk : w.heap[k]? = some (.cells cur T m)) (hT : e ≠ T) : some k ≠ v.ownBlock := by
  rcases h.2 with ⟨rfl, _⟩ | ⟨g, cap, cur', rfl, _, hg, _⟩
  · simp [Value.ownBlock]
  · intro e
    simp [Value.ownBlock] at e
    subst e
    rw [hg] at hk
    simp at hk
    exact hT hk.2.1
theorem PO.setT {w wr : World} {v : Value} {l : List Pk} (h : PO w wr v l) {k : Nat} {cur : Array Value} {T : TypeId} {m : Nat × Nat} (hk : wr.heap[k]? = some (.cells cur T m)) (hT : 101 ≠ T) (o : Nat) (u : Value) : PO w (wr.setCell ⟨k, o, none⟩ u) v l := by
  obtain ⟨css, h1, h2⟩ := h
  exact ⟨css, own_setT h1 hk hT o u, h2⟩
theorem PO.pv2 {w wr : World} {v : Value} {l : List Pk} (h : PO w wr v l) (hb : Below w.heap.size w wr) (hl : l.length ≤ 801) : ∃ ao cap, v = .slice ao l.length cap ∧ l.length ≤ cap ∧ PV wr ao l := by
  obtain ⟨ao, cap, h1, h2⟩ := h.pv hb hl
  obtain ⟨css, h3, _⟩ := h
  refine ⟨ao, cap, h1, ?_, h2⟩
  subst h1
  rcases own_shape h3 with ⟨h, h0⟩ | ⟨g, cap', h, hc⟩
  · injection h with _ _ h; omega
  · injection h with _ _ h; omega
theorem rdL_len (ps : List Pk) : ∀ (n : Nat) (last P : List UInt8) (L : List Pk), P.length ≤ n → rdL ps last P = some L → 2 * L.length ≤ P.length
  | 0, last, P, L, hn, h => by
    have : P = [] := List.eq_nil_of_length_eq_zero (by omega)
    subst this
    simp [rdL] at h
    subst h
    simp
  | n + 1, last, P, L, hn, h => by
    match P, hn, h with
    | [], _, h => simp [rdL] at h; subst h; simp
    | [x], _, h => simp [rdL] at h; subst h; simp
    | a :: b :: r, hn, h =>
      rw [rdL] at h
      split at h
      · cases h
      · split at h
        · cases hr : rdL ps [a, b] r with
          | none => rw [hr] at h; simp at h
          | some M =>
            rw [hr] at h
            simp at h
            subst h
            have := rdL_len ps n [a, b] r M (by simp at hn; omega) hr
            simp; omega
        · cases h

theorem bs_at0 (l : List UInt8) (i : Nat) (h : i < (bs l).size) (h' : i < l.length) : ((bs l)[i]'h) = l[i] := rfl

set_option maxHeartbeats 3200000 in
set_option maxRecDepth 100000 in
theorem pk_Read (ao : Option Addr) (cap : Nat) (ps : List Pk) (P : List UInt8) (w : World) (hPm : (P.length : Int) ≤ maxLen) (hp : PV w ao ps) :
    Calls Tryz.prog 25 #[.slice ao ps.length cap, .string (bs P)] w fun e w' => ∃ a n c, e = .returned (.agg #[.slice a n c, .int .i64 (prE ps P : Nat)]) ∧ Below w.heap.size w w' ∧
      (∀ L, prL ps P = some L → n = L.length ∧ L.length ≤ c ∧ PV w' a L) := by
  obtain ⟨i0, hi0, hz0, hz1, hz2⟩ := info_parts Tryz.infoPk
  have hsz : (bs P).size = P.length := bs_size P
  unfold maxLen at hPm
  have hl := hp.1
  have HR : Hid (∀ j (h : j < ps.length), PRw w ao j ps[j]) := hp.2
  have HV : Hid (∀ w', Below w.heap.size w w' → PV w' ao ps) := fun w' hb => hp.below hb
  have HBK0 : Hid ((w.alloc (.cells #[.slice none 0 0, .int .i64 0] 56)).heap[w.heap.size]? = some (.cells #[.slice none 0 0, .int .i64 0] 56 (0, 0))) := blk_new _ _
  clear hp
  by_cases hlong : 800 < P.length
  · have HF : Hid (prL ps P = none) := by show _ = _; unfold prL; rw [if_pos hlong]
    have hl8 : (800 : Int) < (P.length : Int) := by omega
    go_enter Tryz.func25, Tryz.ntmps25
    go_wp2
    refine bodyPost_ret (v := .agg #[.slice none 0 0, .int .i64 5]) ?_ rfl ⟨none, 0, 0, ?_, ?_, fun L h => ?_⟩
    · simp [results, Tryz.results25, go_sem]
    · unfold prE; rw [HF.out]; rfl
    · exact (Below.refl _ _).alloc (Nat.le_refl _) _
    · rw [HF.out] at h; cases h
  have hl8 : ¬ (800 : Int) < (P.length : Int) := by omega
  by_cases hev : P.length % 2 = 0
  · have hev' : (P.length : Int) % 2 = 0 := by omega
    have HPR : Hid (prL ps P = rdL ps [] P) := by show _ = _; unfold prL; rw [if_neg hlong, if_pos hev]
    have HEV : Hid (P.length % 2 = 0) := hev
    have HLG : Hid (P.length ≤ 800) := by show _ ≤ _; omega
    clear hev hlong
    go_enter Tryz.func25, Tryz.ntmps25
    go_wp2
    go_loopw [5, 6, 7] (fun o l i wr => ∃ (k : Nat) (LT : List UInt8) (acc : List Pk), 2 * k ≤ P.length ∧ i = .int .i64 ((2 * k : Nat) : Int) ∧ l = .string (bs LT) ∧ acc.length = k ∧ Hid (PO w wr o acc) ∧ Hid (rdL ps [] P = (rdL ps LT (P.drop (2 * k))).map (acc ++ ·)) ∧ Below w.heap.size w wr ∧ wr.heap[w.heap.size]? = some (.cells #[.slice none 0 0, .int .i64 0] 56 (0, 0))) (fun _ _ i _ => P.length - (intOf i).toNat)
    case atStart => exact ⟨0, [], [], by omega, rfl, rfl, rfl, PO.nil _ _, by show _ = Option.map id _; rw [Option.map_id]; rfl, (Below.refl _ _).alloc (Nat.le_refl _) _, HBK0.out⟩
    case round =>
      obtain ⟨k, LT, acc, hk, rfl, rfl, hacc, HO, HQ, hb, hblk⟩ := hrel
      have hbs := hb.size
      have hltb := ltAt hblk
      have HBK : Hid (wr.heap[w.heap.size]? = some (.cells #[.slice none 0 0, .int .i64 0] 56 (0, 0))) := hblk
      have d0 : wr.cell? ⟨w.heap.size, 0, none⟩ = some (.slice none 0 0) := by rw [cellAt hblk]; rfl
      have d1 : wr.cell? ⟨w.heap.size, 1, none⟩ = some (.int .i64 0) := by rw [cellAt hblk]; rfl
      have f0 := freeAt hblk 0
      have f1 := freeAt hblk 1
      have HB : Hid (Below w.heap.size w wr) := hb
      clear hb hblk
      by_cases hlt : 2 * k < P.length
      · have hlt1 : 2 * k + 1 < P.length := by have := HEV.out; omega
        obtain ⟨a, b, r, hd⟩ : ∃ a b r, P.drop (2 * k) = a :: b :: r := ⟨_, _, _, by rw [List.drop_eq_getElem_cons hlt, List.drop_eq_getElem_cons hlt1]⟩
        have hr : P.drop (2 * (k + 1)) = r := by rw [show 2 * (k + 1) = 2 * k + 2 by omega, ← List.drop_drop, hd]; rfl
        obtain ⟨HDs, hX⟩ : ∃ S, (bs P).extract (2 * k) (2 * k + 2) = S := ⟨_, rfl⟩
        have hXb : HDs = bs [a, b] := by rw [← hX, extract_bs, bs_list, List.drop_take, hd, show 2 * k + 2 - 2 * k = 2 by omega]; rfl
        obtain ⟨A, hA⟩ : ∃ A, a.toNat = A := ⟨_, rfl⟩
        obtain ⟨B, hB⟩ : ∃ B, b.toNat = B := ⟨_, rfl⟩
        have hs2 : HDs.size = 2 := by rw [hXb, bs_size]; rfl
        have q0 : ∀ h, (HDs[0]'h).toNat = A := by subst hXb; intro h; rw [bs_at0 _ _ h (by simp), ← hA]; rfl
        have q1 : ∀ h, (HDs[1]'h).toNat = B := by subst hXb; intro h; rw [bs_at0 _ _ h (by simp), ← hB]; rfl
        have HXB : Hid (HDs = bs [a, b]) := hXb
        have i0' : (0 : Int) < (HDs.size : Int) := by rw [hs2]; decide
        have i1' : (1 : Int) < (HDs.size : Int) := by rw [hs2]; decide
        have HD : Hid (rdL ps [] P = (match ps[nbT ps A B]? with | none => none | some p => if gtB [a, b] LT then (rdL ps [a, b] (P.drop (2 * (k + 1)))).map (p :: ·) else none).map (acc ++ ·)) := by
          show _ = _
          rw [HQ.out, hd, hr, rdL, hA, hB]
        clear hd hr hXb HQ hA hB
        have hleq : (2 * (k : Int)) + 2 ≤ (P.length : Int) := by omega
        have hk4 : k ≤ 400 := by have := HLG.out; omega
        obtain ⟨N, hN⟩ : ∃ N, nbT ps A B = N := ⟨_, rfl⟩
        rw [hN] at HD
        have HN : Hid (nbT ps A B = N) := hN
        clear hN
        by_cases hNn : N < ps.length
        · have hNi : ¬ (ps.length : Int) ≤ (N : Int) := by omega
          have hNd : decide (ps.length ≤ N) = false := by simp; omega
          have HD2 : Hid (rdL ps [] P = (if gtB [a, b] LT then (rdL ps [a, b] (P.drop (2 * (k + 1)))).map (ps[N] :: ·) else none).map (acc ++ ·)) := by
            show _ = _; rw [HD.out, List.getElem?_eq_getElem hNn]
          clear HD
          rcases hbl : gtB [a, b] LT with _ | _
          · have hb' : (Op.bytesLess HDs.toList (bs LT).toList || HDs.toList == (bs LT).toList) = true := by rw [HXB.out, tl, tl]; unfold gtB at hbl; rwa [Bool.not_eq_false'] at hbl
            have HF : Hid (prL ps P = none) := by show _ = _; rw [HPR.out, HD2.out, hbl]; rfl
            clear hbl HD2
            go_wp2_with fail
            try rw [hX]
            go_region_held3 (fun w' => w'.cell? ⟨w.heap.size, 0, none⟩ = some (.slice none 0 0)) (first | exact d0 | exact dcell0 (by assumption) d0)
              (first | (go_at_call 52; refine (doc_Number ao ps.length cap ps A B _ hl rfl (HV.out _ (Below.drew HB.out)).rows).mono ?_; rintro e w1 ⟨rfl, hb1⟩; rw [HN.out]; have HB1 : Hid (Below wr.heap.size wr w1) := below_drew0 hb1; have HBW1 : Hid (Below w.heap.size w w1) := HB.out.trans (HB1.out.mono hbs); have HBK1 : Hid (w1.heap[w.heap.size]? = some (.cells #[.slice none 0 0, .int .i64 0] 56 (0, 0))) := blk_below HB1.out HBK.out hltb; have d0' : w1.cell? ⟨w.heap.size, 0, none⟩ = some (.slice none 0 0) := (cellAt HBK1.out 0).trans rfl; have d1' : w1.cell? ⟨w.heap.size, 1, none⟩ = some (.int .i64 0) := (cellAt HBK1.out 1).trans rfl; have f0' := freeAt HBK1.out 0; have f1' := freeAt HBK1.out 1; have hlt1b := ltAt HBK1.out))
            all_goals (try go_wp2)
            all_goals
              refine bodyPost_ret (v := .agg #[.slice none 0 0, .int .i64 5]) ?_ rfl ⟨none, 0, 0, ?_, ?_, fun L h => ?_⟩
              · simp [results, Tryz.results25, go_sem, d0', d1']
              · unfold prE; rw [HF.out]; rfl
              · exact ((HBW1.out.setCell (by simp) _).setCell (by simp) _)
              · rw [HF.out] at h; cases h
          · have hb' : (Op.bytesLess HDs.toList (bs LT).toList || HDs.toList == (bs LT).toList) = false := by rw [HXB.out, tl, tl]; unfold gtB at hbl; rwa [Bool.not_eq_true'] at hbl
            have HE : Hid (rdL ps [] P = (rdL ps [a, b] (P.drop (2 * (k + 1)))).map ((acc ++ [ps[N]]) ++ ·)) := by
              show _ = _; rw [HD2.out, hbl]; cases rdL ps [a, b] (P.drop (2 * (k + 1))) <;> simp
            obtain ⟨g, off, an, nn, cn, ac, nc, cc, ap, np, cp, rfl, hg, ⟨x0, x1, x2, x3, x4, x5⟩, hv⟩ := HR.out N hNn
            have HPV : Hid (PkV w ps[N] an nn cn ac nc cc ap np cp) := hv
            clear hbl HD2 hv
            generalize ps[N] = p at *
            go_wp2_with fail
            try rw [hX]
            go_region_held3 (fun w' => w'.cell? ⟨w.heap.size, 0, none⟩ = some (.slice none 0 0)) (first | exact d0 | exact dcell0 (by assumption) d0)
              (first | (go_at_call 52; refine (doc_Number (some ⟨g, off, none⟩) ps.length cap ps A B _ hl rfl (HV.out _ (Below.drew HB.out)).rows).mono ?_; rintro e w1 ⟨rfl, hb1⟩; rw [HN.out]; have HB1 : Hid (Below wr.heap.size wr w1) := below_drew0 hb1; have HBW1 : Hid (Below w.heap.size w w1) := HB.out.trans (HB1.out.mono hbs); have HBK1 : Hid (w1.heap[w.heap.size]? = some (.cells #[.slice none 0 0, .int .i64 0] 56 (0, 0))) := blk_below HB1.out HBK.out hltb; have d0' : w1.cell? ⟨w.heap.size, 0, none⟩ = some (.slice none 0 0) := (cellAt HBK1.out 0).trans rfl; have d1' : w1.cell? ⟨w.heap.size, 1, none⟩ = some (.int .i64 0) := (cellAt HBK1.out 1).trans rfl; have f0' := freeAt HBK1.out 0; have f1' := freeAt HBK1.out 1; have hlt1b := ltAt HBK1.out; have z0 := (HBW1.out.cell (p := ⟨g, off + N * 6, none⟩) hg).trans x0; have z1 := (HBW1.out.cell (p := ⟨g, off + N * 6 + 1, none⟩) hg).trans x1; have z2 := (HBW1.out.cell (p := ⟨g, off + N * 6 + 2, none⟩) hg).trans x2; have z3 := (HBW1.out.cell (p := ⟨g, off + N * 6 + 3, none⟩) hg).trans x3; have z4 := (HBW1.out.cell (p := ⟨g, off + N * 6 + 4, none⟩) hg).trans x4; have z5 := (HBW1.out.cell (p := ⟨g, off + N * 6 + 5, none⟩) hg).trans x5))
            all_goals
              have HO1 : Hid (PO w w1 u5 acc) := HO.out.kept HB1.out
              clear HO
              obtain ⟨css, hown, hal⟩ := HO1.out
              have HAL : Hid (All2 (PvC w) css acc) := hal
              clear hal HO1
              go_wp2_with (at_builtin; refine wpList_append_own _ rfl _ _ 47 rfl w.heap.size 101 i0 (.agg #[.int .u8 0, .int .u8 0, .int .i64 0, .slice none 0 0, .slice none 0 0, .slice none 0 0]) 6 88 Tryz.underlying47 hi0 hz0 hz1 hz2 rfl (by decide) _ _ _ rfl (hown.alloc _) ⟨w1.heap.size, 0, none⟩ 1 1 (pkCells p (.slice an nn cn) (.slice ac nc cc) (.slice ap np cp)) rfl rfl ?c1 ?c2 ?c3 ?c4 ?c5 ?_)
              case c1 => exact cell_new w1 (pkCells p (.slice an nn cn) (.slice ac nc cc) (.slice ap np cp)) 101
              case c2 => intro u hu; simp [pkCells] at hu; rcases hu with rfl | rfl | rfl | rfl | rfl | rfl <;> rfl
              case c3 => unfold maxLen; omega
              case c4 => omega
              case c5 => simp; omega
              intro v' w2 hown' hgrow _
              have HB2 : Hid (Below w.heap.size w w2) := (HBW1.out.alloc (by omega) _).grown hgrow (by simp; omega) (fun j hj => (hown.lt j hj).1)
              have HBK2 : Hid (w2.heap[w.heap.size]? = some (.cells #[.slice none 0 0, .int .i64 0] 56 (0, 0))) := (hgrow.block _ (by simp; omega) (own_blk_ne hown HBK1.out (by decide))).trans (blk_old HBK1.out _)
              have HO2 : Hid (PO w w2 v' (acc ++ [p])) := by
                show PO _ _ _ _
                exact ⟨css ++ [pkCells p (.slice an nn cn) (.slice ac nc cc) (.slice ap np cp)], by simpa [hacc] using hown', All2.snoc ⟨_, _, _, _, _, _, _, _, _, rfl, HPV.out⟩ HAL.out⟩
              clear hown' hgrow hown
              go_wp2
              go_roundw
              case rel => exact ⟨k + 1, [a, b], acc ++ [p], by omega, by go_num, by rw [HXB.out], by simp; omega, HO2, HE, HB2.out, HBK2.out⟩
              case measure => simp [intOf]; omega
        · have hNi : (ps.length : Int) ≤ (N : Int) := by omega
          have HF : Hid (prL ps P = none) := by show _ = _; rw [HPR.out, HD.out, List.getElem?_eq_none (by omega)]; rfl
          clear HD
          go_wp2_with fail
          try rw [hX]
          go_region_held3 (fun w' => w'.cell? ⟨w.heap.size, 0, none⟩ = some (.slice none 0 0)) (first | exact d0 | exact dcell0 (by assumption) d0)
            (first | (go_at_call 52; refine (doc_Number ao ps.length cap ps A B _ hl rfl (HV.out _ (Below.drew HB.out)).rows).mono ?_; rintro e w1 ⟨rfl, hb1⟩; rw [HN.out]; have HB1 : Hid (Below wr.heap.size wr w1) := below_drew0 hb1; have HBW1 : Hid (Below w.heap.size w w1) := HB.out.trans (HB1.out.mono hbs); have HBK1 : Hid (w1.heap[w.heap.size]? = some (.cells #[.slice none 0 0, .int .i64 0] 56 (0, 0))) := blk_below HB1.out HBK.out hltb; have d0' : w1.cell? ⟨w.heap.size, 0, none⟩ = some (.slice none 0 0) := (cellAt HBK1.out 0).trans rfl; have d1' : w1.cell? ⟨w.heap.size, 1, none⟩ = some (.int .i64 0) := (cellAt HBK1.out 1).trans rfl; have f0' := freeAt HBK1.out 0; have f1' := freeAt HBK1.out 1; have hlt1b := ltAt HBK1.out))
          all_goals (try go_wp2)
          all_goals
            refine bodyPost_ret (v := .agg #[.slice none 0 0, .int .i64 5]) ?_ rfl ⟨none, 0, 0, ?_, ?_, fun L h => ?_⟩
            · simp [results, Tryz.results25, go_sem, d0', d1']
            · unfold prE; rw [HF.out]; rfl
            · exact ((HBW1.out.setCell (by simp) _).setCell (by simp) _)
            · rw [HF.out] at h; cases h
      · have hkl : 2 * k = P.length := by omega
        have hleq : ¬ (2 * (k : Int)) + 2 ≤ (P.length : Int) := by omega
        have HF : Hid (prL ps P = some acc) := by show _ = _; rw [HPR.out, HQ.out, hkl, List.drop_of_length_le (Nat.le_refl _)]; simp [rdL]
        obtain ⟨ax, cx, hux, _⟩ := HO.out.pv2 HB.out (by have := HLG.out; omega)
        subst hux
        clear hkl HQ
        go_wp2
        refine bodyPost_ret (v := .agg #[.slice ax acc.length cx, .int .i64 0]) ?_ rfl ⟨ax, acc.length, cx, ?_, ?_, fun L h => ?_⟩
        · simp [results, Tryz.results25, go_sem, d0, d1, hacc]
        · unfold prE; rw [HF.out]; rfl
        · exact ((HB.out.setCell (by simp) _).setCell (by simp) _)
        · rw [HF.out] at h
          injection h with h
          subst h
          obtain ⟨a2, c2, h2, h3, h4⟩ := ((HO.out.setT HBK.out (by decide) 0 _).setT (setAt HBK.out 0 _) (by decide) 1 _).pv2 ((HB.out.setCell (by simp) _).setCell (by simp) _) (by have := HLG.out; omega)
          injection h2 with e1 e2 e3
          subst e1 e3
          exact ⟨rfl, h3, h4⟩
  · have hev' : ¬ (P.length : Int) % 2 = 0 := by omega
    have HF : Hid (prL ps P = none) := by show _ = _; unfold prL; rw [if_neg hlong, if_neg hev]
    go_enter Tryz.func25, Tryz.ntmps25
    go_wp2
    refine bodyPost_ret (v := .agg #[.slice none 0 0, .int .i64 5]) ?_ rfl ⟨none, 0, 0, ?_, ?_, fun L h => ?_⟩
    · simp [results, Tryz.results25, go_sem]
    · unfold prE; rw [HF.out]; rfl
    · exact (Below.refl _ _).alloc (Nat.le_refl _) _
    · rw [HF.out] at h; cases h

end Go.Proofs.YthgabjpffenjmaaGreatDoor

namespace Go.Proofs.YthgabjpffenjmaaGreatDoor
open Go.RowKit

/-- The first rule that a pick breaks, as the program goes through them. -/
def fb6 (d : Dc) (pq : List Pk) : Nat := if d.upg.all (up1 (nowL d.packs) pq) then 0 else 6
def fb5 (d : Dc) (pq : List Pk) : Nat := if d.rem.all (fun c => !fdB pq c) then fb6 d pq else 5
def fb4 (d : Dc) (pq : List Pk) : Nat := if d.ins.all (fdB pq) then fb5 d pq else 4
def fb3 (d : Dc) (pq : List Pk) : Nat := if d.packs.all (mk1 pq) then fb4 d pq else 3
def fb2 (d : Dc) (pq : List Pk) : Nat := if ncB pq then fb3 d pq else 2
def fbN (d : Dc) (pq : List Pk) : Nat := if pq.all (fun p => nmetB pq p.needs) then fb2 d pq else 1

set_option maxHeartbeats 3200000 in
set_option maxRecDepth 100000 in
theorem pk_FirstBroken (d : Dc) (ao : Option Addr) (cap : Nat) (ai : Option Addr) (ni ci : Nat) (ar : Option Addr) (nr cr : Nat) (au : Option Addr) (nu cu : Nat) (aq : Option Addr) (cq : Nat) (pq : List Pk) (w : World) (hcq : pq.length ≤ cq) (hp : PV w ao d.packs) (hi : CV w (.slice ai ni ci) d.ins) (hr : CV w (.slice ar nr cr) d.rem) (hu : CV w (.slice au nu cu) d.upg) (hq : PV w aq pq) :
    Calls Tryz.prog 26 #[.agg #[.slice ao d.packs.length cap, .slice ai ni ci, .slice ar nr cr, .slice au nu cu], .slice aq pq.length cq] w fun e w' => e = .returned (.int .i64 (fbN d pq : Nat)) ∧ Below w.heap.size w w' := by
  have HP : Hid (∀ w', Below w.heap.size w w' → PV w' ao d.packs) := fun w' hb => hp.below hb
  have HI : Hid (∀ w', Below w.heap.size w w' → CV w' (.slice ai ni ci) d.ins) := fun w' hb => hi.below hb
  have HRM : Hid (∀ w', Below w.heap.size w w' → CV w' (.slice ar nr cr) d.rem) := fun w' hb => hr.below hb
  have HU : Hid (∀ w', Below w.heap.size w w' → CV w' (.slice au nu cu) d.upg) := fun w' hb => hu.below hb
  have HQ : Hid (∀ w', Below w.heap.size w w' → PV w' aq pq) := fun w' hb => hq.below hb
  have HB0 : Hid (Below w.heap.size w (w.alloc (.cells #[.slice ao d.packs.length cap, .slice ai ni ci, .slice ar nr cr, .slice au nu cu] 50))) := (Below.refl _ _).alloc (Nat.le_refl _) _
  have HK0 : Hid ((w.alloc (.cells #[.slice ao d.packs.length cap, .slice ai ni ci, .slice ar nr cr, .slice au nu cu] 50)).heap[w.heap.size]? = some (.cells #[.slice ao d.packs.length cap, .slice ai ni ci, .slice ar nr cr, .slice au nu cu] 50 (0, 0))) := blk_new _ _
  clear hp hi hr hu hq
  generalize hRB : fbN d pq = R at *
  have HR0 : Hid (fbN d pq = R) := hRB
  clear hRB
  go_enter Tryz.func26, Tryz.ntmps26
  go_wp2_with fail
  refine (pk_needsMet aq cq pq _ (HQ.out _ HB0.out)).mono ?_
  rintro e w1 ⟨rfl, hb1⟩
  have HB1 : Hid (Below w.heap.size w w1) := HB0.out.trans (hb1.mono (by simp))
  have HK1 : Hid (w1.heap[w.heap.size]? = some (.cells #[.slice ao d.packs.length cap, .slice ai ni ci, .slice ar nr cr, .slice au nu cu] 50 (0, 0))) := blk_below hb1 HK0.out (by simp)
  clear hb1
  cases hf0 : pq.all (fun p => nmetB pq p.needs) with
  | false =>
    have HF : Hid (R = 1) := by show _ = _; rw [← HR0.out]; unfold fbN; rw [hf0]; rfl
    go_wp2
    go_ret
    exact ⟨ret_int (by simp [HF.out]), HB1.out⟩
  | true =>
    have HR1 : Hid (fb2 d pq = R) := by show _ = _; rw [← HR0.out]; (conv => rhs; unfold fbN); rw [hf0, if_pos rfl]
    clear hf0 HR0
    have y10 : w1.cell? ⟨w.heap.size, 0, none⟩ = some (.slice ao d.packs.length cap) := (cellAt HK1.out 0).trans rfl
    have y11 : w1.cell? ⟨w.heap.size, 1, none⟩ = some (.slice ai ni ci) := (cellAt HK1.out 1).trans rfl
    have y12 : w1.cell? ⟨w.heap.size, 2, none⟩ = some (.slice ar nr cr) := (cellAt HK1.out 2).trans rfl
    have y13 : w1.cell? ⟨w.heap.size, 3, none⟩ = some (.slice au nu cu) := (cellAt HK1.out 3).trans rfl
    have hl1 := ltAt HK1.out
    go_wp2_with fail
    refine (pk_noConflict aq cq pq _ hcq (HQ.out _ HB1.out)).mono ?_
    rintro e w2 ⟨rfl, hb2⟩
    have HB2 : Hid (Below w.heap.size w w2) := HB1.out.trans (hb2.mono HB1.out.size)
    have HK2 : Hid (w2.heap[w.heap.size]? = some (.cells #[.slice ao d.packs.length cap, .slice ai ni ci, .slice ar nr cr, .slice au nu cu] 50 (0, 0))) := blk_below hb2 HK1.out hl1
    clear hb2 y10 y11 y12 y13 hl1
    cases hf1 : ncB pq with
    | false =>
      have HF : Hid (R = 2) := by show _ = _; rw [← HR1.out]; unfold fb2; rw [hf1]; rfl
      go_wp2
      go_ret
      exact ⟨ret_int (by simp [HF.out]), HB2.out⟩
    | true =>
      have HR2 : Hid (fb3 d pq = R) := by show _ = _; rw [← HR1.out]; (conv => rhs; unfold fb2); rw [hf1, if_pos rfl]
      clear hf1 HR1
      have y20 : w2.cell? ⟨w.heap.size, 0, none⟩ = some (.slice ao d.packs.length cap) := (cellAt HK2.out 0).trans rfl
      have y21 : w2.cell? ⟨w.heap.size, 1, none⟩ = some (.slice ai ni ci) := (cellAt HK2.out 1).trans rfl
      have y22 : w2.cell? ⟨w.heap.size, 2, none⟩ = some (.slice ar nr cr) := (cellAt HK2.out 2).trans rfl
      have y23 : w2.cell? ⟨w.heap.size, 3, none⟩ = some (.slice au nu cu) := (cellAt HK2.out 3).trans rfl
      have hl2 := ltAt HK2.out
      go_wp2_with fail
      refine (pk_marksKept ao cap d.packs aq cq pq _ (HP.out _ HB2.out) (HQ.out _ HB2.out)).mono ?_
      rintro e w3 ⟨rfl, hb3⟩
      have HB3 : Hid (Below w.heap.size w w3) := HB2.out.trans (hb3.mono HB2.out.size)
      have HK3 : Hid (w3.heap[w.heap.size]? = some (.cells #[.slice ao d.packs.length cap, .slice ai ni ci, .slice ar nr cr, .slice au nu cu] 50 (0, 0))) := blk_below hb3 HK2.out hl2
      clear hb3 y20 y21 y22 y23 hl2
      cases hf2 : d.packs.all (mk1 pq) with
      | false =>
        have HF : Hid (R = 3) := by show _ = _; rw [← HR2.out]; unfold fb3; rw [hf2]; rfl
        go_wp2
        go_ret
        exact ⟨ret_int (by simp [HF.out]), HB3.out⟩
      | true =>
        have HR3 : Hid (fb4 d pq = R) := by show _ = _; rw [← HR2.out]; (conv => rhs; unfold fb3); rw [hf2, if_pos rfl]
        clear hf2 HR2
        have y30 : w3.cell? ⟨w.heap.size, 0, none⟩ = some (.slice ao d.packs.length cap) := (cellAt HK3.out 0).trans rfl
        have y31 : w3.cell? ⟨w.heap.size, 1, none⟩ = some (.slice ai ni ci) := (cellAt HK3.out 1).trans rfl
        have y32 : w3.cell? ⟨w.heap.size, 2, none⟩ = some (.slice ar nr cr) := (cellAt HK3.out 2).trans rfl
        have y33 : w3.cell? ⟨w.heap.size, 3, none⟩ = some (.slice au nu cu) := (cellAt HK3.out 3).trans rfl
        have hl3 := ltAt HK3.out
        go_wp2_with fail
        refine (pk_installed (.slice ai ni ci) d.ins aq cq pq _ (HI.out _ HB3.out) (HQ.out _ HB3.out)).mono ?_
        rintro e w4 ⟨rfl, hb4⟩
        have HB4 : Hid (Below w.heap.size w w4) := HB3.out.trans (hb4.mono HB3.out.size)
        have HK4 : Hid (w4.heap[w.heap.size]? = some (.cells #[.slice ao d.packs.length cap, .slice ai ni ci, .slice ar nr cr, .slice au nu cu] 50 (0, 0))) := blk_below hb4 HK3.out hl3
        clear hb4 y30 y31 y32 y33 hl3
        cases hf3 : d.ins.all (fdB pq) with
        | false =>
          have HF : Hid (R = 4) := by show _ = _; rw [← HR3.out]; unfold fb4; rw [hf3]; rfl
          go_wp2
          go_ret
          exact ⟨ret_int (by simp [HF.out]), HB4.out⟩
        | true =>
          have HR4 : Hid (fb5 d pq = R) := by show _ = _; rw [← HR3.out]; (conv => rhs; unfold fb4); rw [hf3, if_pos rfl]
          clear hf3 HR3
          have y40 : w4.cell? ⟨w.heap.size, 0, none⟩ = some (.slice ao d.packs.length cap) := (cellAt HK4.out 0).trans rfl
          have y41 : w4.cell? ⟨w.heap.size, 1, none⟩ = some (.slice ai ni ci) := (cellAt HK4.out 1).trans rfl
          have y42 : w4.cell? ⟨w.heap.size, 2, none⟩ = some (.slice ar nr cr) := (cellAt HK4.out 2).trans rfl
          have y43 : w4.cell? ⟨w.heap.size, 3, none⟩ = some (.slice au nu cu) := (cellAt HK4.out 3).trans rfl
          have hl4 := ltAt HK4.out
          go_wp2_with fail
          refine (pk_removed (.slice ar nr cr) d.rem aq cq pq _ (HRM.out _ HB4.out) (HQ.out _ HB4.out)).mono ?_
          rintro e w5 ⟨rfl, hb5⟩
          have HB5 : Hid (Below w.heap.size w w5) := HB4.out.trans (hb5.mono HB4.out.size)
          have HK5 : Hid (w5.heap[w.heap.size]? = some (.cells #[.slice ao d.packs.length cap, .slice ai ni ci, .slice ar nr cr, .slice au nu cu] 50 (0, 0))) := blk_below hb5 HK4.out hl4
          clear hb5 y40 y41 y42 y43 hl4
          cases hf4 : d.rem.all (fun c => !fdB pq c) with
          | false =>
            have HF : Hid (R = 5) := by show _ = _; rw [← HR4.out]; unfold fb5; rw [hf4]; rfl
            go_wp2
            go_ret
            exact ⟨ret_int (by simp [HF.out]), HB5.out⟩
          | true =>
            have HR5 : Hid (fb6 d pq = R) := by show _ = _; rw [← HR4.out]; (conv => rhs; unfold fb5); rw [hf4, if_pos rfl]
            clear hf4 HR4
            have y50 : w5.cell? ⟨w.heap.size, 0, none⟩ = some (.slice ao d.packs.length cap) := (cellAt HK5.out 0).trans rfl
            have y51 : w5.cell? ⟨w.heap.size, 1, none⟩ = some (.slice ai ni ci) := (cellAt HK5.out 1).trans rfl
            have y52 : w5.cell? ⟨w.heap.size, 2, none⟩ = some (.slice ar nr cr) := (cellAt HK5.out 2).trans rfl
            have y53 : w5.cell? ⟨w.heap.size, 3, none⟩ = some (.slice au nu cu) := (cellAt HK5.out 3).trans rfl
            have hl5 := ltAt HK5.out
            go_wp2_with fail
            refine (pk_upgraded ao cap d.packs ai ni ci ar nr cr au nu cu d.upg aq cq pq _ (HP.out _ HB5.out) (HU.out _ HB5.out) (HQ.out _ HB5.out)).mono ?_
            rintro e w6 ⟨rfl, hb6⟩
            have HB6 : Hid (Below w.heap.size w w6) := HB5.out.trans (hb6.mono HB5.out.size)
            clear hb6 y50 y51 y52 y53 hl5
            cases hf5 : d.upg.all (up1 (nowL d.packs) pq) with
            | false =>
              have HF : Hid (R = 6) := by show _ = _; rw [← HR5.out]; unfold fb6; rw [hf5]; rfl
              go_wp2
              go_ret
              exact ⟨ret_int (by simp [HF.out]), HB6.out⟩
            | true =>
              have HF : Hid (R = 0) := by show _ = _; rw [← HR5.out]; unfold fb6; rw [hf5]; rfl
              go_wp2
              go_ret
              exact ⟨ret_int (by simp [HF.out]), HB6.out⟩

end Go.Proofs.YthgabjpffenjmaaGreatDoor

namespace Go.Proofs.YthgabjpffenjmaaGreatDoor
open Go.RowKit

structure DcV (w : World) (d : Dc) (ap : Option Addr) (np cp : Nat) (ai : Option Addr) (ni ci : Nat) (ar : Option Addr) (nr cr : Nat) (au : Option Addr) (nu cu : Nat) : Prop where
  len : np = d.packs.length
  packs : PV w ap d.packs
  ins : CV w (.slice ai ni ci) d.ins
  rem : CV w (.slice ar nr cr) d.rem
  upg : CV w (.slice au nu cu) d.upg
theorem DcAt.views {B : Nat} {w : World} {d : Dc} {ap : Option Addr} {np cp : Nat} {ai : Option Addr} {ni ci : Nat} {ar : Option Addr} {nr cr : Nat} {au : Option Addr} {nu cu : Nat} (h : DcAt B w d (.slice ap np cp) (.slice ai ni ci) (.slice ar nr cr) (.slice au nu cu)) (hs : DcSm d) : DcV w d ap np cp ai ni ci ar nr cr au nu cu := by
  obtain ⟨e, hp⟩ := h.1.pv hs.packs hs.pack
  exact ⟨e, hp, h.2.1.cv hs.ins, h.2.2.1.cv hs.rem, h.2.2.2.cv hs.upg⟩
theorem DcV.below {w w' : World} {d : Dc} {ap : Option Addr} {np cp : Nat} {ai : Option Addr} {ni ci : Nat} {ar : Option Addr} {nr cr : Nat} {au : Option Addr} {nu cu : Nat} (h : DcV w d ap np cp ai ni ci ar nr cr au nu cu) (hb : Below w.heap.size w w') : DcV w' d ap np cp ai ni ci ar nr cr au nu cu :=
  ⟨h.len, h.packs.below hb, h.ins.below hb, h.rem.below hb, h.upg.below hb⟩

def uvE (t P : List UInt8) : Nat := if rdE t = 0 then prE (dcV t).packs P else rdE t
def uvR (t P : List UInt8) : Nat := if rdE t = 0 then (match prL (dcV t).packs P with | some L => fbN (dcV t) L | none => 0) else 0
theorem bs_data (q : ByteArray) : bs q.data.toList = q := by cases q; simp [bs]

set_option maxHeartbeats 1600000 in
set_option maxRecDepth 100000 in
theorem up_Valid (s q : ByteArray) (w : World) (hs : s.size ≤ maxLen) (hq : q.size ≤ maxLen) : Calls Tryz.prog 13 #[.string s, .string q] w fun e w' => e = .returned (.tuple #[.int .i64 (uvR s.data.toList q.data.toList : Nat), .int .i64 (uvE s.data.toList q.data.toList : Nat)]) ∧ Below w.heap.size w w' := by
  obtain ⟨P, rfl⟩ : ∃ P, q = bs P := ⟨_, (bs_data q).symm⟩
  have hPm : (P.length : Int) ≤ maxLen := by rw [bs_size] at hq; exact_mod_cast hq
  rw [bs_list]
  by_cases h : rdE s.data.toList = 0
  · obtain ⟨r1, r2, r3, _⟩ := rd_ok h
    have HSM : Hid (DcSm (dcV s.data.toList)) := dc_small r2 (by rw [← r1]; exact r3)
    have HTE : Hid (uvE s.data.toList P = prE (dcV s.data.toList).packs P) := by show _ = _; unfold uvE; rw [if_pos h]
    have HTR : Hid (uvR s.data.toList P = match prL (dcV s.data.toList).packs P with | some L => fbN (dcV s.data.toList) L | none => 0) := by show _ = _; unfold uvR; rw [if_pos h]
    have HE : Hid (rdE s.data.toList = 0) := h
    clear r1 r2 r3 h
    go_enter Tryz.func13, Tryz.ntmps13
    go_wp2_with fail
    refine (doc_Read s _ hs).mono ?_
    rintro e w1 ⟨ap, np, cp, ai, ni, ci, ar, nr, cr, au, nu, cu, rfl, hb, hd⟩
    have HD : Hid (∀ w', Below w1.heap.size w1 w' → DcV w' (dcV s.data.toList) ap np cp ai ni ci ar nr cr au nu cu) := fun w' hb => ((hd HE.out).views HSM.out).below hb
    have hnp := ((hd HE.out).views HSM.out).len
    have HB : Hid (Below w.heap.size w w1) := hb
    have hws := hb.size
    have hz : ((rdE s.data.toList : Int) != 0) = false := by rw [HE.out]; rfl
    clear hd hb
    generalize dcV s.data.toList = D at *
    subst hnp
    have HBA : Hid (Below w1.heap.size w1 (w1.alloc (.cells #[.slice ap D.packs.length cp, .slice ai ni ci, .slice ar nr cr, .slice au nu cu, .int .i64 (rdE s.data.toList), .int .i64 (rdP s.data.toList)] 52))) := (Below.refl _ _).alloc (Nat.le_refl _) _
    have HKA : Hid ((w1.alloc (.cells #[.slice ap D.packs.length cp, .slice ai ni ci, .slice ar nr cr, .slice au nu cu, .int .i64 (rdE s.data.toList), .int .i64 (rdP s.data.toList)] 52)).heap[w1.heap.size]? = some (.cells #[.slice ap D.packs.length cp, .slice ai ni ci, .slice ar nr cr, .slice au nu cu, .int .i64 (rdE s.data.toList), .int .i64 (rdP s.data.toList)] 52 (0, 0))) := blk_new _ _
    go_wp2_with fail
    refine (pk_Read ap cp D.packs P _ hPm (HD.out _ HBA.out).packs).mono ?_
    rintro e w2 ⟨aq, nq, cq, rfl, hb2, hq2⟩
    have HK2 : Hid (w2.heap[w1.heap.size]? = some (.cells #[.slice ap D.packs.length cp, .slice ai ni ci, .slice ar nr cr, .slice au nu cu, .int .i64 (rdE s.data.toList), .int .i64 (rdP s.data.toList)] 52 (0, 0))) := blk_below hb2 HKA.out (by simp)
    have HB2 : Hid (Below w1.heap.size w1 w2) := HBA.out.trans (hb2.mono (by simp))
    have y0 : w2.cell? ⟨w1.heap.size, 0, none⟩ = some (.slice ap D.packs.length cp) := (cellAt HK2.out 0).trans rfl
    have y1 : w2.cell? ⟨w1.heap.size, 1, none⟩ = some (.slice ai ni ci) := (cellAt HK2.out 1).trans rfl
    have y2 : w2.cell? ⟨w1.heap.size, 2, none⟩ = some (.slice ar nr cr) := (cellAt HK2.out 2).trans rfl
    have y3 : w2.cell? ⟨w1.heap.size, 3, none⟩ = some (.slice au nu cu) := (cellAt HK2.out 3).trans rfl
    have hl2 := ltAt HK2.out
    have HQ2 : Hid _ := hq2
    clear hb2 hq2 HKA HBA
    rcases hpr : prL D.packs P with _ | L
    · have hpe : prE D.packs P = 5 := by unfold prE; rw [hpr]; rfl
      have HF : Hid (uvR s.data.toList P = 0) := by show _ = _; rw [HTR.out, hpr]
      have HF2 : Hid (uvE s.data.toList P = 5) := by show _ = _; rw [HTE.out, hpe]
      rw [hpe]
      clear hpr hpe HQ2
      go_wp2_with fail
      go_quiet (fail)
      go_wp2
      go_ret2
      exact ⟨by rw [HF.out, HF2.out]; rfl, ((HB.out.trans (HB2.out.mono hws)).alloc (by omega) _).trans ⟨rfl, rfl, rfl, Nat.le_refl _, fun _ _ => rfl⟩⟩
    · have hpe : prE D.packs P = 0 := by unfold prE; rw [hpr]; rfl
      have HF : Hid (uvR s.data.toList P = fbN D L) := by show _ = _; rw [HTR.out, hpr]
      have HF2 : Hid (uvE s.data.toList P = 0) := by show _ = _; rw [HTE.out, hpe]
      obtain ⟨hn, hcq, hpv⟩ := HQ2.out L hpr
      subst hn
      rw [hpe]
      have HPV : Hid (PV w2 aq L) := hpv
      clear hpr hpe HQ2 hpv
      have HB3 : Hid (Below w2.heap.size w2 (w2.alloc (.cells #[.slice aq L.length cq, .int .i64 0] 56))) := (Below.refl _ _).alloc (Nat.le_refl _) _
      have HB13 : Hid (Below w1.heap.size w1 (w2.alloc (.cells #[.slice aq L.length cq, .int .i64 0] 56))) := HB2.out.alloc HB2.out.size _
      go_wp2_with fail
      refine (pk_FirstBroken D ap cp ai ni ci ar nr cr au nu cu aq cq L _ hcq (HD.out _ HB13.out).packs (HD.out _ HB13.out).ins (HD.out _ HB13.out).rem (HD.out _ HB13.out).upg (HPV.out.below HB3.out)).mono ?_
      rintro e w3 ⟨rfl, hb3⟩
      have HB4 : Hid (Below w.heap.size w w3) := HB.out.trans ((HB13.out.trans (hb3.mono (by simp; omega))).mono hws)
      clear hb3
      go_wp2
      go_ret2
      exact ⟨by rw [HF.out, HF2.out]; rfl, HB4.out⟩
  · have HT : Hid (uvR s.data.toList P = 0) := by show _ = _; unfold uvR; rw [if_neg h]
    have HT2 : Hid (uvE s.data.toList P = rdE s.data.toList) := by show _ = _; unfold uvE; rw [if_neg h]
    have hz : ((rdE s.data.toList : Int) != 0) = true := by rw [bne_iff_ne]; omega
    go_enter Tryz.func13, Tryz.ntmps13
    go_wp2_with fail
    refine (doc_Read s _ hs).mono ?_
    rintro e w1 ⟨ap, np, cp, ai, ni, ci, ar, nr, cr, au, nu, cu, rfl, hb, hd⟩
    have HB : Hid (Below w.heap.size w w1) := hb
    clear hd hb
    go_wp2_with fail
    go_quiet (fail)
    go_wp2
    go_ret2
    exact ⟨by rw [HT.out, HT2.out]; rfl, (HB.out.alloc HB.out.size _).trans ⟨rfl, rfl, rfl, Nat.le_refl _, fun _ _ => rfl⟩⟩

end Go.Proofs.YthgabjpffenjmaaGreatDoor
