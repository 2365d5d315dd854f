import Derived.Test.YtenbnmbbfeekpabGreatDoorXH
import Derived.Test.YtenbnmbbfeekpabGreatDoorXNc
import Derived.Test.YtenbnmbbfeekpabGreatDoorXBt
import Derived.Test.YtenbnmbbfeekpabGreatDoorXNa
import Derived.Deep.RegionHeld3
import Derived.Laws.IdiomStrings
import Derived.Laws.BytesArg

namespace Go.Proofs.YtenbnmbbfeekpabGreatDoor
open Go.RowKit

theorem ex_one (X : ByteArray) (hX : ∀ j : Fin 10, ((X.data.toList.take (j.val + 1)).drop j.val) = digT j.val) (i : Nat) (h : i < 10) : X.extract i (i + 1) = bs (digT i) := by
  rw [extract_bs, hX ⟨i, h⟩]
theorem ex_two (X : ByteArray) (hX : ∀ j : Fin 17, ((X.data.toList.take ((j.val + 10) * 2 + 2)).drop ((j.val + 10) * 2)) = digT (j.val + 10)) (i : Nat) (h : ¬ i < 10) (hi : i ≤ 26) : X.extract (i * 2) (i * 2 + 2) = bs (digT i) := by
  have := hX ⟨i - 10, by omega⟩
  simp only [show i - 10 + 10 = i by omega] at this
  rw [extract_bs, this]

set_option maxHeartbeats 800000 in
set_option maxRecDepth 100000 in
theorem it_small (i : Nat) (w : World) (hi : i ≤ 26) : Calls Tryz.prog 156 #[.int .i64 i] w fun e w' => e = .returned (.string (bs (digT i))) ∧ w' = w := by
  by_cases h : i < 10
  · have h' : (i : Int) < 10 := by omega
    go_enter Tryz.func156, Tryz.ntmps156
    go_wp2
    go_ret
    exact ⟨ret_str (ex_one _ (by decide +kernel) i h), rfl⟩
  · have h' : ¬ (i : Int) < 10 := by omega
    go_enter Tryz.func156, Tryz.ntmps156
    go_wp2
    go_ret
    exact ⟨ret_str (ex_two _ (by decide +kernel) i h hi), rfl⟩

set_option maxHeartbeats 800000 in
theorem it_FormatInt (i : Nat) (w : World) (hi : i ≤ 26) : Calls Tryz.prog 147 #[.int .i64 i, .int .i64 10] w fun e w' => e = .returned (.string (bs (digT i))) ∧ w' = w := by
  have h0 : (0 : Int) ≤ (i : Int) := by omega
  have h1 : (i : Int) < 100 := by omega
  go_enter Tryz.func147, Tryz.ntmps147
  go_wp2_with fail
  refine (it_small i _ hi).mono ?_
  rintro e w1 ⟨rfl, rfl⟩
  go_wp2
  go_ret
  exact ⟨rfl, rfl⟩
theorem it_Itoa (i : Nat) (w : World) (hi : i ≤ 26) : Calls Tryz.prog 121 #[.int .i64 i] w fun e w' => e = .returned (.string (bs (digT i))) ∧ w' = w := by
  go_enter Tryz.func121, Tryz.ntmps121
  go_wp2_with fail
  refine (it_FormatInt i _ hi).mono ?_
  rintro e w1 ⟨rfl, rfl⟩
  go_wp2
  go_ret
  exact ⟨rfl, rfl⟩
theorem std_Itoa (i : Nat) (w : World) (hi : i ≤ 26) : Calls Tryz.prog 87 #[.int .i64 i] w fun e w' => e = .returned (.string (bs (digT i))) ∧ w' = w := by
  go_enter Tryz.func87, Tryz.ntmps87
  go_wp2_with fail
  refine (it_Itoa i _ hi).mono ?_
  rintro e w1 ⟨rfl, rfl⟩
  go_wp2
  go_ret
  exact ⟨rfl, rfl⟩

end Go.Proofs.YtenbnmbbfeekpabGreatDoor

namespace Go.Proofs.YtenbnmbbfeekpabGreatDoor
open Go.RowKit

theorem Tryz.infoCrU8 : (Tryz.prog.info? 5).map (fun i => (i.zero, i.size, i.bytes)) = some (some (.int .u8 0), 1, 1) := by kernel_rfl

set_option maxHeartbeats 800000 in
theorem sc_isSign (x : Nat) (w : World) : Calls Tryz.prog 50 #[.int .u8 x] w fun e w' => e = .returned (.bool (sgnB x)) ∧ w' = w := by
  by_cases h1 : x = 45
  · have e1 : ((x : Int) == 45) = true := by rw [beq_iff_eq]; omega
    have HF : Hid (true = sgnB x) := by show _ = _; unfold sgnB; simp [h1]
    clear h1
    go_enter Tryz.func50, Tryz.ntmps50
    go_wp2
    go_ret
    exact ⟨ret_bool HF.out, rfl⟩
  · have e1 : ((x : Int) == 45) = false := by rw [beq_eq_false_iff_ne]; omega
    have HF : Hid (((x : Int) == 43) = sgnB x) := by
      show _ = _
      unfold sgnB
      rw [Bool.eq_iff_iff]
      simp [h1]
      omega
    clear h1
    go_enter Tryz.func50, Tryz.ntmps50
    go_wp2
    go_ret
    exact ⟨ret_bool HF.out, rfl⟩

set_option maxHeartbeats 800000 in
theorem sc_isLetter (x : Nat) (w : World) : Calls Tryz.prog 51 #[.int .u8 x] w fun e w' => e = .returned (.bool (letB x)) ∧ w' = w := by
  have HB : Hid (letB x = (x == 114 || x == 110 || x == 99 || x == 117)) := rfl
  by_cases h1 : x = 114
  · have e1 : ((x : Int) == 114) = true := by rw [beq_iff_eq]; omega
    have HF : Hid (true = letB x) := by show _ = _; rw [HB.out]; simp [h1]
    clear h1
    go_enter Tryz.func51, Tryz.ntmps51
    go_wp2
    go_ret
    exact ⟨ret_bool HF.out, rfl⟩
  have e1 : ((x : Int) == 114) = false := by rw [beq_eq_false_iff_ne]; omega
  by_cases h2 : x = 110
  · have e2 : ((x : Int) == 110) = true := by rw [beq_iff_eq]; omega
    have HF : Hid (true = letB x) := by show _ = _; rw [HB.out]; simp [h2]
    clear h1 h2
    go_enter Tryz.func51, Tryz.ntmps51
    go_wp2
    go_ret
    exact ⟨ret_bool HF.out, rfl⟩
  have e2 : ((x : Int) == 110) = false := by rw [beq_eq_false_iff_ne]; omega
  by_cases h3 : x = 99
  · have e3 : ((x : Int) == 99) = true := by rw [beq_iff_eq]; omega
    have HF : Hid (true = letB x) := by show _ = _; rw [HB.out]; simp [h3]
    clear h1 h2 h3
    go_enter Tryz.func51, Tryz.ntmps51
    go_wp2
    go_ret
    exact ⟨ret_bool HF.out, rfl⟩
  have e3 : ((x : Int) == 99) = false := by rw [beq_eq_false_iff_ne]; omega
  have HF : Hid (((x : Int) == 117) = letB x) := by
    show _ = _
    rw [HB.out, Bool.eq_iff_iff]
    simp [h1, h2, h3]
    omega
  clear h1 h2 h3
  go_enter Tryz.func51, Tryz.ntmps51
  go_wp2
  go_ret
  exact ⟨ret_bool HF.out, rfl⟩

def ckE (C : List UInt8) : Nat := if (crK C).isSome then 0 else 6
theorem ck_bad {C : List UInt8} (h : crK C = none) : ckE C = 6 := by unfold ckE; rw [h]; rfl

set_option maxHeartbeats 3200000 in
set_option maxRecDepth 100000 in
theorem sc_Read (C : List UInt8) (w : World) (hCm : (C.length : Int) ≤ maxLen) :
    Calls Tryz.prog 25 #[.string (bs C)] w fun e w' => ∃ a n c, e = .returned (.agg #[.slice a n c, .int .i64 (ckE C : Nat)]) ∧ Below w.heap.size w w' ∧ (∀ L, crK C = some L → CrV w' (.slice a n c) L) := by
  obtain ⟨i0, hi0, hz0, hz1, hz2⟩ := info_parts Tryz.infoCr
  have hsz : (bs C).size = C.length := bs_size C
  unfold maxLen at hCm
  have HBK0 : Hid ((w.alloc (.cells #[.slice none 0 0, .int .i64 0] 69)).heap[w.heap.size]? = some (.cells #[.slice none 0 0, .int .i64 0] 69 (0, 0))) := blk_new _ _
  by_cases h0 : C.length = 0
  · have e0 : ((C.length : Int) == 0) = true := by rw [beq_iff_eq]; omega
    have HF : Hid (crK C = none) := by show _ = _; unfold crK; rw [if_pos h0]
    clear h0
    go_enter Tryz.func25, Tryz.ntmps25
    go_wp2
    refine bodyPost_ret (v := .agg #[.slice none 0 0, .int .i64 6]) ?_ rfl ⟨none, 0, 0, ?_, ?_, fun L h => ?_⟩
    · simp [results, Tryz.results25, go_sem]
    · rw [ck_bad HF.out]; rfl
    · exact (Below.refl _ _).alloc (Nat.le_refl _) _
    · rw [HF.out] at h; cases h
  have e0 : ((C.length : Int) == 0) = false := by rw [beq_eq_false_iff_ne]; omega
  by_cases h8 : 8 < C.length
  · have e8 : (8 : Int) < (C.length : Int) := by omega
    have HF : Hid (crK C = none) := by show _ = _; unfold crK; rw [if_neg h0, if_pos h8]
    clear h0 h8
    go_enter Tryz.func25, Tryz.ntmps25
    go_wp2
    refine bodyPost_ret (v := .agg #[.slice none 0 0, .int .i64 6]) ?_ rfl ⟨none, 0, 0, ?_, ?_, fun L h => ?_⟩
    · simp [results, Tryz.results25, go_sem]
    · rw [ck_bad HF.out]; rfl
    · exact (Below.refl _ _).alloc (Nat.le_refl _) _
    · rw [HF.out] at h; cases h
  have e8 : ¬ (8 : Int) < (C.length : Int) := by omega
  have d8 : decide (8 < C.length) = false := by simp; omega
  by_cases hev : C.length % 2 = 0
  · have hev' : (C.length : Int) % 2 = 0 := by omega
    have HPR : Hid (crK C = rdK C) := by show _ = _; unfold crK; rw [if_neg h0, if_neg h8, if_pos hev]
    have HEV : Hid (C.length % 2 = 0) := hev
    have HLG : Hid (C.length ≤ 8) := by show _ ≤ _; omega
    clear hev h8 h0
    go_enter Tryz.func25, Tryz.ntmps25
    go_wp2
    go_loopw [3, 4] (fun o i wr => ∃ (k : Nat) (acc : List Cr), 2 * k ≤ C.length ∧ i = .int .i64 ((2 * k : Nat) : Int) ∧ acc.length = k ∧ Hid (CrO w.heap.size wr o acc) ∧ Hid (rdK C = (rdK (C.drop (2 * k))).map (acc ++ ·)) ∧ Below w.heap.size w wr ∧ wr.heap[w.heap.size]? = some (.cells #[.slice none 0 0, .int .i64 0] 69 (0, 0))) (fun _ i _ => C.length - (intOf i).toNat)
    case atStart => exact ⟨0, [], by omega, rfl, rfl, World.ownsRow_nil _ _ _ _, by show _ = Option.map id _; rw [Option.map_id]; rfl, (Below.refl _ _).alloc (Nat.le_refl _) _, HBK0.out⟩
    case round =>
      obtain ⟨k, acc, hk, rfl, hacc, HO, HQ, hb, hblk⟩ := hrel
      have hbs := hb.size
      have hltb := ltAt hblk
      have HBK : Hid (wr.heap[w.heap.size]? = some (.cells #[.slice none 0 0, .int .i64 0] 69 (0, 0))) := hblk
      have d0 : wr.cell? ⟨w.heap.size, 0, none⟩ = some (.slice none 0 0) := by rw [cellAt hblk]; rfl
      have d1 : wr.cell? ⟨w.heap.size, 1, none⟩ = some (.int .i64 0) := by rw [cellAt hblk]; rfl
      have f0 := freeAt hblk 0
      have f1 := freeAt hblk 1
      have HB : Hid (Below w.heap.size w wr) := hb
      clear hb hblk
      by_cases hlt : 2 * k < C.length
      · have hlt1 : 2 * k + 1 < C.length := by have := HEV.out; omega
        have hi0' : (2 * (k : Int)) < ((bs C).size : Int) := by rw [hsz]; omega
        have hi1' : (2 * (k : Int)) + 1 < ((bs C).size : Int) := by rw [hsz]; omega
        have hleq : (2 * (k : Int)) + 2 ≤ (C.length : Int) := by omega
        have hk4 : k ≤ 4 := by have := HLG.out; omega
        obtain ⟨X, hX⟩ : ∃ X, X = C[2 * k].toNat := ⟨_, rfl⟩
        obtain ⟨Y, hY⟩ : ∃ Y, Y = C[2 * k + 1].toNat := ⟨_, rfl⟩
        have q0 : ∀ h, ((bs C)[2 * k]'h).toNat = X := fun h => by rw [bs_at, hX]
        have q1 : ∀ h, ((bs C)[2 * k + 1]'h).toNat = Y := fun h => by rw [bs_at, hY]
        have HD : Hid (rdK C = (if sgnB X && letB Y then (rdK (C.drop (2 * (k + 1)))).map ((X == 43, Y) :: ·) else none).map (acc ++ ·)) := by
          show _ = _; rw [HQ.out, List.drop_eq_getElem_cons hlt, List.drop_eq_getElem_cons hlt1, rdK, hX, hY]; rfl
        clear HQ hX hY
        cases hs : sgnB X with
        | false =>
          have HF : Hid (crK C = none) := by show _ = _; rw [HPR.out, HD.out, hs]; rfl
          have HS : Hid (sgnB X = false) := hs
          clear hs HD
          go_wp2_with fail
          refine (sc_isSign X _).mono ?_
          rintro e w1 ⟨rfl, rfl⟩
          rw [HS.out]
          go_wp2
          refine bodyPost_ret (v := .agg #[.slice none 0 0, .int .i64 6]) ?_ rfl ⟨none, 0, 0, ?_, ?_, fun L h => ?_⟩
          · simp [results, Tryz.results25, go_sem, d0, d1]
          · rw [ck_bad HF.out]; rfl
          · exact ((HB.out.setCell (by simp) _).setCell (by simp) _)
          · rw [HF.out] at h; cases h
        | true =>
          have HS : Hid (sgnB X = true) := hs
          cases ht : letB Y with
          | false =>
            have HF : Hid (crK C = none) := by show _ = _; rw [HPR.out, HD.out, hs, ht]; rfl
            have HT : Hid (letB Y = false) := ht
            clear hs ht HD
            go_wp2_with fail
            refine (sc_isSign X _).mono ?_
            rintro e w1 ⟨rfl, rfl⟩
            rw [HS.out]
            go_wp2_with fail
            refine (sc_isLetter Y _).mono ?_
            rintro e w1 ⟨rfl, rfl⟩
            rw [HT.out]
            go_wp2
            refine bodyPost_ret (v := .agg #[.slice none 0 0, .int .i64 6]) ?_ rfl ⟨none, 0, 0, ?_, ?_, fun L h => ?_⟩
            · simp [results, Tryz.results25, go_sem, d0, d1]
            · rw [ck_bad HF.out]; rfl
            · exact ((HB.out.setCell (by simp) _).setCell (by simp) _)
            · rw [HF.out] at h; cases h
          | true =>
            have HT : Hid (letB Y = true) := ht
            have HE : Hid (rdK C = (rdK (C.drop (2 * (k + 1)))).map ((acc ++ [(X == 43, Y)]) ++ ·)) := by
              show _ = _; rw [HD.out, hs, ht]; cases rdK (C.drop (2 * (k + 1))) <;> simp
            have hown : wr.ownsRow w.heap.size 114 2 u3 acc.length (acc.map crCells).flatten := HO.out
            obtain ⟨Z, hZ⟩ : ∃ Z, (X == 43) = Z := ⟨_, rfl⟩
            have hZi : ((X : Int) == 43) = Z := by rw [← hZ, Bool.eq_iff_iff, beq_iff_eq, beq_iff_eq]; omega
            rw [hZ] at HE
            clear hZ
            clear hs ht HD HO
            go_wp2_with fail
            refine (sc_isSign X _).mono ?_
            rintro e w1 ⟨rfl, rfl⟩
            rw [HS.out]
            go_wp2_with fail
            refine (sc_isLetter Y _).mono ?_
            rintro e w1 ⟨rfl, rfl⟩
            rw [HT.out]
            go_wp2_with (at_builtin; refine wpList_append_own _ rfl _ _ 67 rfl w.heap.size 114 i0 (.agg #[.bool false, .int .u8 0]) 2 2 Tryz.underlying67 hi0 hz0 hz1 hz2 rfl (by decide) _ _ _ rfl (hown.alloc _) ⟨w1.heap.size, 0, none⟩ 1 1 (crCells (Z, Y)) rfl rfl ?c1 ?c2 ?c3 ?c4 ?c5 ?_)
            case c1 => exact cell_new w1 (crCells (Z, Y)) 114
            case c2 => intro u hu; simp [crCells] at hu; rcases hu with rfl | rfl <;> rfl
            case c3 => unfold maxLen; omega
            case c4 => omega
            case c5 => simp; omega
            intro v' w2 hown' hgrow _
            have HB2 : Hid (Below w.heap.size w w2) := (HB.out.alloc (by omega) _).grown hgrow (by simp; omega) (fun j hj => (hown.lt j hj).1)
            have HBK2 : Hid (w2.heap[w.heap.size]? = some (.cells #[.slice none 0 0, .int .i64 0] 69 (0, 0))) := (hgrow.block _ (by simp; omega) (own_blk_ne hown HBK.out (by decide))).trans (blk_old HBK.out _)
            have HO2 : Hid (CrO w.heap.size w2 v' (acc ++ [(Z, Y)])) := by
              show World.ownsRow _ _ _ _ _ _ _
              simpa [hacc] using hown'
            clear hown' hgrow hown
            go_wp2
            go_roundw
            case rel => exact ⟨k + 1, acc ++ [(Z, Y)], by omega, by go_num, by simp; omega, HO2, HE, HB2.out, HBK2.out⟩
            case measure => simp [intOf]; omega
      · have hkl : 2 * k = C.length := by omega
        have hleq : ¬ (2 * (k : Int)) + 2 ≤ (C.length : Int) := by omega
        have HF : Hid (crK C = some acc) := by show _ = _; rw [HPR.out, HQ.out, hkl, List.drop_of_length_le (Nat.le_refl _)]; simp [rdK]
        obtain ⟨ax, cx, hux⟩ := HO.out.shape
        subst hux
        clear hkl HQ
        go_wp2
        refine bodyPost_ret (v := .agg #[.slice ax acc.length cx, .int .i64 0]) ?_ rfl ⟨ax, acc.length, cx, ?_, ?_, fun L h => ?_⟩
        · simp [results, Tryz.results25, go_sem, d0, d1, hacc]
        · unfold ckE; rw [HF.out]; rfl
        · exact ((HB.out.setCell (by simp) _).setCell (by simp) _)
        · rw [HF.out] at h
          injection h with h
          subst h
          exact CrO.cv (own_setT (own_setT HO.out HBK.out (by decide) 0 _) (setAt HBK.out 0 _) (by decide) 1 _) (by have := HLG.out; omega)
  · have hev' : ¬ (C.length : Int) % 2 = 0 := by omega
    have HF : Hid (crK C = none) := by show _ = _; unfold crK; rw [if_neg h0, if_neg h8, if_neg hev]
    clear h0 h8 hev
    go_enter Tryz.func25, Tryz.ntmps25
    go_wp2
    all_goals
      refine bodyPost_ret (v := .agg #[.slice none 0 0, .int .i64 6]) ?_ rfl ⟨none, 0, 0, ?_, ?_, fun L h => ?_⟩
      · simp [results, Tryz.results25, go_sem]
      · rw [ck_bad HF.out]; rfl
      · exact (Below.refl _ _).alloc (Nat.le_refl _) _
      · rw [HF.out] at h; cases h

set_option maxHeartbeats 3200000 in
set_option maxRecDepth 100000 in
theorem sc_Text (v : Value) (cs : List Cr) (vn : Value) (ns : List Nm) (S : Nat) (w : World) (hv : CrV w v cs) (hl4 : cs.length ≤ 4) (hn : NmV w vn ns) (h26 : ns.length ≤ 26) (hsm : ∀ n ∈ ns, NmSm n) (hS : S < 2 ^ 20) :
    Calls Tryz.prog 42 #[v, vn, .int .u32 S] w fun e w' => e = .returned (.string (bs (txQ ns S (cs.map Prod.snd) cs.length))) ∧ Below w.heap.size w w' := by
  obtain ⟨_, al, cl, rfl, hrow⟩ := hv
  have HR : Hid _ := hrow
  have HV : Hid (∀ w', Below w.heap.size w w' → NmV w' vn ns) := fun w' hb => hn.below hb
  have HSM : Hid (∀ n ∈ ns, NmSm n) := hsm
  obtain ⟨_, an, cn, rfl, _⟩ := hn
  clear hrow hsm
  obtain ⟨ls, hls⟩ : ∃ ls, cs.map Prod.snd = ls := ⟨_, rfl⟩
  have HLS : Hid (∀ m (h : m < cs.length), ls.getD m 0 = cs[m].2) := fun m h => by rw [← hls, List.getD_eq_getElem?_getD, List.getElem?_map, List.getElem?_eq_getElem h]; rfl
  rw [hls]
  clear hls
  go_enter Tryz.func42, Tryz.ntmps42
  go_wp2_with fail
  refine (doc_Just S _).mono ?_
  rintro e w0 ⟨rfl, hb0⟩
  have HB0 : Hid (Below w.heap.size w (w0.alloc (.cells #[.int .u32 S, .int .u32 S] 98))) := hb0.alloc hb0.size _
  have HK0 : Hid _ := blk_new w0 (.cells #[.int .u32 S, .int .u32 S] 98)
  have hw0 := hb0.size
  clear hb0
  go_wp2
  go_loopw [8, 16] (fun t i wr => ∃ m : Nat, m ≤ cs.length ∧ i = .int .i64 m ∧ t = .string (bs (txQ ns S ls m)) ∧ Below w.heap.size w wr ∧ wr.heap[w0.heap.size]? = some (.cells #[.int .u32 S, .int .u32 S] 98 (0, 0))) (fun _ i _ => cs.length - (intOf i).toNat)
  case atStart => exact ⟨0, by omega, rfl, rfl, HB0.out, HK0.out⟩
  case round =>
    obtain ⟨m, hm, rfl, rfl, hb, hbx⟩ := hrel
    have hbs := hb.size
    have y0 := cellAt hbx 0
    have y1 := cellAt hbx 1
    have hlx := ltAt hbx
    have HBX : Hid (wr.heap[w0.heap.size]? = some (.cells #[.int .u32 S, .int .u32 S] 98 (0, 0))) := hbx
    simp at y0 y1
    clear hbx
    have HB : Hid (Below w.heap.size w wr) := hb
    by_cases hlt : m < cs.length
    · obtain ⟨g, off, rfl, hg, x0, x1⟩ := HR.out m hlt
      rw [← hb.cell (p := ⟨g, _, none⟩) hg] at x0 x1
      have HN : Hid (txQ ns S ls (m + 1) = (if 0 < m then txQ ns S ls m ++ [44] else txQ ns S ls m) ++ digT (fewN cs[m].2 ns S S)) := by
        show _ = _; rw [txQ, HLS.out m hlt]
      have hTl : (bs (txQ ns S ls m)).size ≤ 30 := by rw [bs_size]; have := txQ_len ns S ls m; omega
      have HBA : Hid (Below w.heap.size w (wr.alloc (.cells #[.bool cs[m].1, .int .u8 (cs[m].2 : Int)] 114))) := hb.alloc hbs _
      have HKA : Hid _ := blk_old HBX.out (.cells #[.bool cs[m].1, .int .u8 (cs[m].2 : Int)] 114)
      clear hb
      generalize txQ ns S ls m = T at *
      generalize cs[m] = q at *
      have hD2 := digT_len (fewN q.2 ns S S)
      have hNl : fewN q.2 ns S S ≤ 26 := Nat.le_trans (few_le q.2 ns S S) h26
      by_cases hm0 : m = 0
      · have HE : Hid (txQ ns S ls (m + 1) = T ++ digT (fewN q.2 ns S S)) := by show _ = _; rw [HN.out, if_neg (by omega)]
        have hmz : ¬ (0 : Int) < (m : Int) := by omega
        clear HN hm0
        go_wp2_with fail
        refine (sc_fewest q.2 _ ns S S _ (HV.out _ HBA.out) HSM.out hS hS).mono ?_
        rintro e w1 ⟨rfl, hb1⟩
        have HB1 : Hid (Below w.heap.size w w1) := HBA.out.trans (hb1.mono (by simp; omega))
        have HK1 : Hid _ := blk_below hb1 HKA.out (by simp; omega)
        clear hb1
        generalize fewN q.2 ns S S = M at *
        go_wp2_with fail
        refine (std_Itoa M _ hNl).mono ?_
        rintro e w2 ⟨rfl, rfl⟩
        have hD3 : (bs (digT M)).size ≤ 2 := by rw [bs_size]; exact hD2
        go_wp2
        go_roundw
        case rel => first | exact ⟨m + 1, by omega, by go_num, by rw [HE.out]; rw [bs_app], HB1.out, HK1.out⟩ | ((repeat apply Exists.intro); exact ⟨⟨m + 1, by omega, by go_num, by rw [HE.out]; rw [bs_app], HB1.out, HK1.out⟩, rfl⟩)
        case measure => simp [intOf]; omega
      · have HE : Hid (txQ ns S ls (m + 1) = T ++ [44] ++ digT (fewN q.2 ns S S)) := by show _ = _; rw [HN.out, if_pos (by omega)]
        have hmz : (0 : Int) < (m : Int) := by omega
        clear HN hm0
        go_wp2_with fail
        refine (sc_fewest q.2 _ ns S S _ (HV.out _ HBA.out) HSM.out hS hS).mono ?_
        rintro e w1 ⟨rfl, hb1⟩
        have HB1 : Hid (Below w.heap.size w w1) := HBA.out.trans (hb1.mono (by simp; omega))
        have HK1 : Hid _ := blk_below hb1 HKA.out (by simp; omega)
        clear hb1
        generalize fewN q.2 ns S S = M at *
        go_wp2_with fail
        refine (std_Itoa M _ hNl).mono ?_
        rintro e w2 ⟨rfl, rfl⟩
        have hD3 : (bs (digT M)).size ≤ 2 := by rw [bs_size]; exact hD2
        go_wp2
        go_roundw
        case rel => first | exact ⟨m + 1, by omega, by go_num, by rw [HE.out]; rw [← bs_app, ← bs_app]; rfl, HB1.out, HK1.out⟩ | ((repeat apply Exists.intro); exact ⟨⟨m + 1, by omega, by go_num, by rw [HE.out]; rw [← bs_app, ← bs_app]; rfl, HB1.out, HK1.out⟩, rfl⟩)
        case measure => simp [intOf]; omega
    · have hml : m = cs.length := by omega
      subst hml
      clear hb
      obtain ⟨T, HT⟩ : ∃ T, Hid (txQ ns S ls cs.length = T) := ⟨_, rfl⟩
      rw [HT.out]
      go_wp2
      go_ret
      exact ⟨ret_str (by rw [HT.out]), HB.out⟩

end Go.Proofs.YtenbnmbbfeekpabGreatDoor

namespace Go.Proofs.YtenbnmbbfeekpabGreatDoor
open Go.RowKit

def psE (ps : List Pk) (P : List UInt8) : Nat := if (prS ps P).isSome then 0 else 5

set_option maxHeartbeats 3200000 in
set_option maxRecDepth 100000 in
theorem pk_Read (ao : Option Addr) (cap : Nat) (ps : List Pk) (P : List UInt8) (w : World) (hPm : (P.length : Int) ≤ maxLen) (hp : PV w ao ps) :
    Calls Tryz.prog 37 #[.slice ao ps.length cap, .string (bs P)] w fun e w' => ∃ S : Nat, e = .returned (.agg #[.int .u32 S, .int .i64 (psE ps P : Nat)]) ∧ Below w.heap.size w w' ∧ S < 2 ^ 20 ∧ (∀ T, prS ps P = some T → S = T) := by
  have hsz : (bs P).size = P.length := bs_size P
  unfold maxLen at hPm
  have hl := hp.1
  have HR : Hid (∀ j (h : j < ps.length), PRw w ao j ps[j]) := hp.2
  have HV : Hid (∀ w', Below w.heap.size w w' → PV w' ao ps) := fun w' hb => hp.below hb
  have HBK0 : Hid ((w.alloc (.cells #[.int .u32 0, .int .i64 0] 89)).heap[w.heap.size]? = some (.cells #[.int .u32 0, .int .i64 0] 89 (0, 0))) := blk_new _ _
  clear hp
  by_cases hlong : 800 < P.length
  · have HF : Hid (prS ps P = none) := by show _ = _; unfold prS; rw [if_pos hlong]
    have hl8 : (800 : Int) < (P.length : Int) := by omega
    go_enter Tryz.func37, Tryz.ntmps37
    go_wp2
    refine bodyPost_ret (v := .agg #[.int .u32 0, .int .i64 5]) ?_ rfl ⟨0, ?_, ?_, by decide, fun L h => ?_⟩
    · simp [results, Tryz.results37, go_sem]
    · unfold psE; rw [HF.out]; rfl
    · exact (Below.refl _ _).alloc (Nat.le_refl _) _
    · rw [HF.out] at h; cases h
  have hl8 : ¬ (800 : Int) < (P.length : Int) := by omega
  by_cases hev : P.length % 2 = 0
  · have hev' : (P.length : Int) % 2 = 0 := by omega
    have HPR : Hid (prS ps P = rdS ps 0 [] P) := by show _ = _; unfold prS; rw [if_neg hlong, if_pos hev]
    have HEV : Hid (P.length % 2 = 0) := hev
    have HLG : Hid (P.length ≤ 800) := by show _ ≤ _; omega
    clear hev hlong
    go_enter Tryz.func37, Tryz.ntmps37
    go_wp2
    go_loopw [5, 6, 7] (fun o l i wr => ∃ (k : Nat) (LT : List UInt8) (acc : Nat), 2 * k ≤ P.length ∧ i = .int .i64 ((2 * k : Nat) : Int) ∧ l = .string (bs LT) ∧ o = .int .u32 (acc : Nat) ∧ acc < 2 ^ 20 ∧ Hid (rdS ps 0 [] P = rdS ps acc LT (P.drop (2 * k))) ∧ Below w.heap.size w wr ∧ wr.heap[w.heap.size]? = some (.cells #[.int .u32 0, .int .i64 0] 89 (0, 0))) (fun _ _ i _ => P.length - (intOf i).toNat)
    case atStart => exact ⟨0, [], 0, by omega, rfl, rfl, rfl, by decide, rfl, (Below.refl _ _).alloc (Nat.le_refl _) _, HBK0.out⟩
    case round =>
      obtain ⟨k, LT, acc, hk, rfl, rfl, rfl, hacc, HQ, hb, hblk⟩ := hrel
      have hbs := hb.size
      have hltb := ltAt hblk
      have HBK : Hid (wr.heap[w.heap.size]? = some (.cells #[.int .u32 0, .int .i64 0] 89 (0, 0))) := hblk
      have d0 : wr.cell? ⟨w.heap.size, 0, none⟩ = some (.int .u32 0) := by rw [cellAt hblk]; rfl
      have d1 : wr.cell? ⟨w.heap.size, 1, none⟩ = some (.int .i64 0) := by rw [cellAt hblk]; rfl
      have f0 := freeAt hblk 0
      have f1 := freeAt hblk 1
      have HB : Hid (Below w.heap.size w wr) := hb
      clear hb hblk
      by_cases hlt : 2 * k < P.length
      · have hlt1 : 2 * k + 1 < P.length := by have := HEV.out; omega
        obtain ⟨a, b, r, hd⟩ : ∃ a b r, P.drop (2 * k) = a :: b :: r := ⟨_, _, _, by rw [List.drop_eq_getElem_cons hlt, List.drop_eq_getElem_cons hlt1]⟩
        have hr : P.drop (2 * (k + 1)) = r := by rw [show 2 * (k + 1) = 2 * k + 2 by omega, ← List.drop_drop, hd]; rfl
        obtain ⟨HDs, hX⟩ : ∃ S, (bs P).extract (2 * k) (2 * k + 2) = S := ⟨_, rfl⟩
        have hXb : HDs = bs [a, b] := by rw [← hX, extract_bs, bs_list, List.drop_take, hd, show 2 * k + 2 - 2 * k = 2 by omega]; rfl
        obtain ⟨A, hA⟩ : ∃ A, a.toNat = A := ⟨_, rfl⟩
        obtain ⟨B, hB⟩ : ∃ B, b.toNat = B := ⟨_, rfl⟩
        have hs2 : HDs.size = 2 := by rw [hXb, bs_size]; rfl
        have q0 : ∀ h, (HDs[0]'h).toNat = A := by subst hXb; intro h; rw [bs_at0 _ _ h (by simp), ← hA]; rfl
        have q1 : ∀ h, (HDs[1]'h).toNat = B := by subst hXb; intro h; rw [bs_at0 _ _ h (by simp), ← hB]; rfl
        have HXB : Hid (HDs = bs [a, b]) := hXb
        have i0' : (0 : Int) < (HDs.size : Int) := by rw [hs2]; decide
        have i1' : (1 : Int) < (HDs.size : Int) := by rw [hs2]; decide
        have HD : Hid (rdS ps 0 [] P = if nbT ps A B < ps.length ∧ gtB [a, b] LT = true then rdS ps (acc ||| oneN (nbT ps A B)) [a, b] (P.drop (2 * (k + 1))) else none) := by
          show _ = _
          rw [HQ.out, hd, hr, rdS, hA, hB]
        clear hd hr hXb HQ hA hB
        have hleq : (2 * (k : Int)) + 2 ≤ (P.length : Int) := by omega
        have hk4 : k ≤ 400 := by have := HLG.out; omega
        obtain ⟨N, hN⟩ : ∃ N, nbT ps A B = N := ⟨_, rfl⟩
        rw [hN] at HD
        have HN : Hid (nbT ps A B = N) := hN
        clear hN
        by_cases hNn : N < ps.length
        · have hNi : ¬ (ps.length : Int) ≤ (N : Int) := by omega
          have hNd : decide (ps.length ≤ N) = false := by simp; omega
          have HD2 : Hid (rdS ps 0 [] P = if gtB [a, b] LT = true then rdS ps (acc ||| oneN N) [a, b] (P.drop (2 * (k + 1))) else none) := by
            show _ = _; rw [HD.out]; simp [hNn]
          clear HD
          rcases hbl : gtB [a, b] LT with _ | _
          · have hb' : (Op.bytesLess HDs.toList (bs LT).toList || HDs.toList == (bs LT).toList) = true := by rw [HXB.out, tl, tl]; unfold gtB at hbl; rwa [Bool.not_eq_false'] at hbl
            have HF : Hid (prS ps P = none) := by show _ = _; rw [HPR.out, HD2.out, hbl]; rfl
            clear hbl HD2
            go_wp2_with fail
            try rw [hX]
            go_region_held3 (fun w' => w'.cell? ⟨w.heap.size, 0, none⟩ = some (.int .u32 0)) (first | exact d0 | exact dcell0 (by assumption) d0)
              (first | (go_at_call 55; refine (doc_Number ao ps.length cap ps A B _ hl rfl (HV.out _ (Below.drew HB.out)).rows).mono ?_; rintro e w1 ⟨rfl, hb1⟩; rw [HN.out]; have HB1 : Hid (Below wr.heap.size wr w1) := below_drew0 hb1; have HBW1 : Hid (Below w.heap.size w w1) := HB.out.trans (HB1.out.mono hbs); have HBK1 : Hid (w1.heap[w.heap.size]? = some (.cells #[.int .u32 0, .int .i64 0] 89 (0, 0))) := blk_below HB1.out HBK.out hltb; have d0' : w1.cell? ⟨w.heap.size, 0, none⟩ = some (.int .u32 0) := (cellAt HBK1.out 0).trans rfl; have d1' : w1.cell? ⟨w.heap.size, 1, none⟩ = some (.int .i64 0) := (cellAt HBK1.out 1).trans rfl; have f0' := freeAt HBK1.out 0; have f1' := freeAt HBK1.out 1; have hlt1b := ltAt HBK1.out))
            all_goals (try go_wp2)
            all_goals
              refine bodyPost_ret (v := .agg #[.int .u32 0, .int .i64 5]) ?_ rfl ⟨0, ?_, ?_, by decide, fun L h => ?_⟩
              · simp [results, Tryz.results37, go_sem, d0', d1']
              · unfold psE; rw [HF.out]; rfl
              · exact ((HBW1.out.setCell (by simp) _).setCell (by simp) _)
              · rw [HF.out] at h; cases h
          · have hb' : (Op.bytesLess HDs.toList (bs LT).toList || HDs.toList == (bs LT).toList) = false := by rw [HXB.out, tl, tl]; unfold gtB at hbl; rwa [Bool.not_eq_true'] at hbl
            have HE : Hid (rdS ps 0 [] P = rdS ps (acc ||| oneN N) [a, b] (P.drop (2 * (k + 1)))) := by
              show _ = _; rw [HD2.out, hbl]; rfl
            clear hbl HD2
            have l1 := oneN_lt N
            have o1 := or_u32 acc (oneN N) (by omega) (by omega)
            have l2 := or_lt hacc l1
            go_wp2_with fail
            try rw [hX]
            go_region_held3 (fun w' => w'.cell? ⟨w.heap.size, 0, none⟩ = some (.int .u32 0)) (first | exact d0 | exact dcell0 (by assumption) d0)
              (first | (go_at_call 55; refine (doc_Number ao ps.length cap ps A B _ hl rfl (HV.out _ (Below.drew HB.out)).rows).mono ?_; rintro e w1 ⟨rfl, hb1⟩; rw [HN.out]; have HB1 : Hid (Below wr.heap.size wr w1) := below_drew0 hb1; have HBW1 : Hid (Below w.heap.size w w1) := HB.out.trans (HB1.out.mono hbs); have HBK1 : Hid (w1.heap[w.heap.size]? = some (.cells #[.int .u32 0, .int .i64 0] 89 (0, 0))) := blk_below HB1.out HBK.out hltb; have d0' : w1.cell? ⟨w.heap.size, 0, none⟩ = some (.int .u32 0) := (cellAt HBK1.out 0).trans rfl; have d1' : w1.cell? ⟨w.heap.size, 1, none⟩ = some (.int .i64 0) := (cellAt HBK1.out 1).trans rfl; have f0' := freeAt HBK1.out 0; have f1' := freeAt HBK1.out 1; have hlt1b := ltAt HBK1.out))
            all_goals (try go_wp2_with fail)
            all_goals
              refine (doc_One N _).mono ?_
              rintro e w2 ⟨rfl, rfl⟩
              go_wp2
              go_roundw
              case rel => exact ⟨k + 1, [a, b], acc ||| oneN N, by omega, by go_num, by rw [HXB.out], rfl, l2, HE, HBW1.out, HBK1.out⟩
              case measure => simp [intOf]; omega
        · have hNi : (ps.length : Int) ≤ (N : Int) := by omega
          have HF : Hid (prS ps P = none) := by show _ = _; rw [HPR.out, HD.out, if_neg (by omega)]
          clear HD
          go_wp2_with fail
          try rw [hX]
          go_region_held3 (fun w' => w'.cell? ⟨w.heap.size, 0, none⟩ = some (.int .u32 0)) (first | exact d0 | exact dcell0 (by assumption) d0)
            (first | (go_at_call 55; refine (doc_Number ao ps.length cap ps A B _ hl rfl (HV.out _ (Below.drew HB.out)).rows).mono ?_; rintro e w1 ⟨rfl, hb1⟩; rw [HN.out]; have HB1 : Hid (Below wr.heap.size wr w1) := below_drew0 hb1; have HBW1 : Hid (Below w.heap.size w w1) := HB.out.trans (HB1.out.mono hbs); have HBK1 : Hid (w1.heap[w.heap.size]? = some (.cells #[.int .u32 0, .int .i64 0] 89 (0, 0))) := blk_below HB1.out HBK.out hltb; have d0' : w1.cell? ⟨w.heap.size, 0, none⟩ = some (.int .u32 0) := (cellAt HBK1.out 0).trans rfl; have d1' : w1.cell? ⟨w.heap.size, 1, none⟩ = some (.int .i64 0) := (cellAt HBK1.out 1).trans rfl; have f0' := freeAt HBK1.out 0; have f1' := freeAt HBK1.out 1; have hlt1b := ltAt HBK1.out))
          all_goals (try go_wp2)
          all_goals
            refine bodyPost_ret (v := .agg #[.int .u32 0, .int .i64 5]) ?_ rfl ⟨0, ?_, ?_, by decide, fun L h => ?_⟩
            · simp [results, Tryz.results37, go_sem, d0', d1']
            · unfold psE; rw [HF.out]; rfl
            · exact ((HBW1.out.setCell (by simp) _).setCell (by simp) _)
            · rw [HF.out] at h; cases h
      · have hkl : 2 * k = P.length := by omega
        have hleq : ¬ (2 * (k : Int)) + 2 ≤ (P.length : Int) := by omega
        have HF : Hid (prS ps P = some acc) := by show _ = _; rw [HPR.out, HQ.out, hkl, List.drop_of_length_le (Nat.le_refl _)]; simp [rdS]
        clear hkl HQ
        go_wp2
        refine bodyPost_ret (v := .agg #[.int .u32 acc, .int .i64 0]) ?_ rfl ⟨acc, ?_, ?_, hacc, fun L h => ?_⟩
        · simp [results, Tryz.results37, go_sem, d0, d1]
        · unfold psE; rw [HF.out]; rfl
        · exact ((HB.out.setCell (by simp) _).setCell (by simp) _)
        · rw [HF.out] at h
          injection h
  · have hev' : ¬ (P.length : Int) % 2 = 0 := by omega
    have HF : Hid (prS ps P = none) := by show _ = _; unfold prS; rw [if_neg hlong, if_neg hev]
    go_enter Tryz.func37, Tryz.ntmps37
    go_wp2
    refine bodyPost_ret (v := .agg #[.int .u32 0, .int .i64 5]) ?_ rfl ⟨0, ?_, ?_, by decide, fun L h => ?_⟩
    · simp [results, Tryz.results37, go_sem]
    · unfold psE; rw [HF.out]; rfl
    · exact (Below.refl _ _).alloc (Nat.le_refl _) _
    · rw [HF.out] at h; cases h

end Go.Proofs.YtenbnmbbfeekpabGreatDoor

namespace Go.Proofs.YtenbnmbbfeekpabGreatDoor
open Go.RowKit

/-- Bytes of an own row. -/
def TO (b : Nat) (w : World) (v : Value) (l : List UInt8) : Prop := w.ownsRow b 5 1 v l.length (l.map fun b => .int .u8 (b.toNat : Int))
theorem Tryz.infoTx : (Tryz.prog.info? 5).map (fun i => (i.zero, i.size, i.bytes)) = some (some (.int .u8 0), 1, 1) := by kernel_rfl
theorem TO.conv {b : Nat} {wr : World} {v : Value} {l : List UInt8} (h : TO b wr v l) : (convert 46 9 v).run Tryz.prog wr = .ok (.string (bs l)) wr := by
  rcases own_shape h with ⟨rfl, h0⟩ | ⟨g, cap, rfl, hc⟩
  · have : l = [] := List.eq_nil_of_length_eq_zero h0
    subst this
    exact run_convert_bytes_nil (P := Tryz.prog) (w := wr) 46 5 Tryz.underlying46 Tryz.underlying5 0 0 9 Tryz.underlying9
  · refine run_convert_bytes_back (P := Tryz.prog) _ 46 9 5 ⟨g, 0, none⟩ cap l Tryz.underlying46 Tryz.underlying5 Tryz.underlying9 (fun j hj => ?_)
    rw [Addr.add_lit, Nat.zero_add]
    exact own_cell h j _ (by simp [hj])
theorem tx1_len (ps : List Pk) (S a v : Nat) : (tx1 ps S a v).length ≤ 2 := by unfold tx1; split <;> simp
theorem txV_len (ps : List Pk) (S a : Nat) : ∀ k, (txV ps S a k).length ≤ 2 * k
  | 0 => by simp [txV]
  | k + 1 => by
    have h1 := txV_len ps S a k
    have h2 := tx1_len ps S a (49 + k)
    rw [txV, List.length_append]
    omega
theorem txN_len (ps : List Pk) (S : Nat) : ∀ k, (txN ps S k).length ≤ 18 * k
  | 0 => by simp [txN]
  | k + 1 => by
    have h1 := txN_len ps S k
    have h2 := txV_len ps S (97 + k) 9
    rw [txN, List.length_append]
    omega
theorem own_kept0 {b : Nat} {w w' : World} {e : TypeId} {sz : Nat} {v : Value} {n : Nat} {xs : List Value} (h : w.ownsRow b e sz v n xs) (hb : Below w.heap.size w w') : w'.ownsRow b e sz v n xs :=
  World.ownsRow.kept (row := none) h ⟨hb.os, hb.tape, hb.output, hb.size, fun k hk _ => hb.block k hk⟩ (by rcases Value.ownBlock _ with _ | k <;> simp)
theorem kRetT {a b : List UInt8} (h : a = b) : Ending.returned (.string (bs a)) = .returned (.string (bs b)) := by rw [h]

set_option maxHeartbeats 6400000 in
set_option maxRecDepth 100000 in
theorem pk_Text (ao : Option Addr) (cap : Nat) (ps : List Pk) (S : Nat) (hS : S < 2 ^ 20) (w : World) (hp : PV w ao ps) :
    Calls Tryz.prog 27 #[.slice ao ps.length cap, .int .u32 S] w fun e w' => e = .returned (.string (bs (txN ps S 26))) ∧ Below w.heap.size w w' := by
  obtain ⟨i0, hi0, hz0, hz1, hz2⟩ := info_parts Tryz.infoTx
  have hl := hp.1
  have HV : Hid (∀ w', Below w.heap.size w w' → PV w' ao ps) := fun w' hb => hp.below hb
  clear hp
  obtain ⟨R, hR⟩ : ∃ R, R = txN ps S := ⟨_, rfl⟩
  have HZ : Hid (R 0 = []) := by show _ = _; rw [hR]; rfl
  have HG : Hid (∀ k, R (k + 1) = R k ++ txV ps S (97 + k) 9) := fun k => by rw [hR]; rfl
  have HLN : Hid (∀ k, (R k).length ≤ 18 * k) := fun k => by rw [hR]; exact txN_len ps S k
  rw [← hR]
  clear hR
  go_enter Tryz.func27, Tryz.ntmps27
  go_wp2
  go_loopw [5, 6] (fun o v wr => ∃ (a B : Nat) (acc : List UInt8), a ≤ 26 ∧ B = 97 + a ∧ v = .int .u8 (B : Int) ∧ acc.length ≤ 18 * a ∧ Hid (TO w.heap.size wr o acc) ∧ Hid (R a = acc) ∧ Below w.heap.size w wr) (fun _ v _ => 130 - (intOf v).toNat)
  case atStart => exact ⟨0, 97, [], by omega, rfl, rfl, by simp, World.ownsRow_nil _ _ _ _, HZ, Below.refl _ _⟩
  case round =>
    obtain ⟨a, B, acc, ha, hB, rfl, hacc, HO, HI, hb⟩ := hrel
    have HB : Hid (Below w.heap.size w wr) := hb
    have HBE : Hid (B = 97 + a) := hB
    have hB9 : 97 ≤ B := by omega
    have hB3 : B ≤ 123 := by omega
    have hbs := hb.size
    clear hb
    by_cases ha9 : a < 26
    · have HN : Hid (R (a + 1) = acc ++ txV ps S B 9) := by show _ = _; rw [HG.out, HI.out, hB]
      have hle : (B : Int) ≤ 122 := by omega
      clear hB HI
      obtain ⟨Q, hQ⟩ : ∃ Q, Q = txV ps S B := ⟨_, rfl⟩
      have HQZ : Hid (Q 0 = []) := by show _ = _; rw [hQ]; rfl
      have HQG : Hid (∀ k, Q (k + 1) = Q k ++ tx1 ps S B (49 + k)) := fun k => by rw [hQ]; rfl
      have HQL : Hid (∀ k, (Q k).length ≤ 2 * k) := fun k => by rw [hQ]; exact txV_len ps S B k
      rw [← hQ] at HN
      clear hQ
      go_wp2
      go_loopw [5, 7] (fun o v wx => ∃ (c V : Nat) (T : List UInt8), c ≤ 9 ∧ V = 49 + c ∧ v = .int .u8 (V : Int) ∧ T.length ≤ 18 * a + 2 * c ∧ Hid (TO w.heap.size wx o T) ∧ Hid (acc ++ Q c = T) ∧ Below w.heap.size w wx) (fun _ v _ => 60 - (intOf v).toNat)
      case atStart => exact ⟨0, 49, acc, by omega, rfl, rfl, by omega, HO, by show _ = _; rw [HQZ.out]; simp, HB.out⟩
      case round =>
        obtain ⟨c, V, T, hc, hV, rfl, hT, HOT, HJ, hbx⟩ := hrel
        have HVE : Hid (V = 49 + c) := hV
        have hV9 : 49 ≤ V := by omega
        have hV3 : V ≤ 58 := by omega
        have hbxs := hbx.size
        have HBX : Hid (Below w.heap.size w wr) := hbx
        clear hbx
        by_cases hc9 : c < 9
        · have HE : Hid (acc ++ Q (c + 1) = T ++ tx1 ps S B V) := by show _ = _; rw [HQG.out, ← List.append_assoc, HJ.out, hV]
          have hlv : (V : Int) ≤ 57 := by omega
          clear hV HJ
          go_wp2_with fail
          refine (doc_Number ao ps.length cap ps B V _ hl rfl (HV.out _ HBX.out).rows).mono ?_
          rintro e w1 ⟨rfl, hb1⟩
          have HT1 : Hid (tx1 ps S B V = if hasN S (nbT ps B V) then [b8 B, b8 V] else []) := rfl
          generalize nbT ps B V = N at *
          have HB1 : Hid (Below w.heap.size w w1) := HBX.out.trans (hb1.mono hbxs)
          have hown : w1.ownsRow w.heap.size 5 1 u5 T.length (T.map fun b => .int .u8 (b.toNat : Int)) := own_kept0 HOT.out hb1
          have hs1 := HB1.out.size
          clear hb1 HOT
          cases hh : hasN S N with
          | false =>
            have HF : Hid (acc ++ Q (c + 1) = T) := by show _ = _; rw [HE.out, HT1.out, hh]; simp
            have HH : Hid (hasN S N = false) := hh
            have HO1 : Hid (TO w.heap.size w1 u5 T) := hown
            clear hh HE HT1 hown
            go_wp2_with fail
            refine (set_Has S N hS _).mono ?_
            rintro e w2 ⟨rfl, rfl⟩
            rw [HH.out]
            go_wp2
            go_roundw
            case rel => exact ⟨c + 1, V + 1, T, by omega, by have := HVE.out; omega, by go_num, by omega, HO1, HF, HB1.out⟩
            case measure => simp [intOf]; omega
          | true =>
            have HF : Hid (acc ++ Q (c + 1) = T ++ [b8 B, b8 V]) := by show _ = _; rw [HE.out, HT1.out, hh]; rfl
            have HH : Hid (hasN S N = true) := hh
            clear hh HE HT1
            go_wp2_with fail
            refine (set_Has S N hS _).mono ?_
            rintro e w2 ⟨rfl, rfl⟩
            rw [HH.out]
            go_wp2_with (at_builtin; refine wpList_append_own _ rfl _ _ 46 rfl w.heap.size 5 i0 (.int .u8 0) 1 1 Tryz.underlying46 hi0 hz0 hz1 hz2 rfl (by decide) _ _ _ rfl (hown.alloc _) ⟨w2.heap.size, 0, none⟩ 2 2 [.int .u8 (B : Int), .int .u8 (V : Int)] rfl rfl ?c1 ?c2 ?c3 ?c4 ?c5 ?_)
            case c1 => exact cell_new w2 [.int .u8 (B : Int), .int .u8 (V : Int)] 5
            case c2 => intro u hu; simp at hu; rcases hu with rfl | rfl <;> rfl
            case c3 => unfold maxLen; omega
            case c4 => omega
            case c5 => simp; omega
            intro v' w3 hown' hgrow _
            have HB3 : Hid (Below w.heap.size w w3) := (HB1.out.alloc (by omega) _).grown hgrow (by simp; omega) (fun j hj => (hown.lt j hj).1)
            have HO3 : Hid (TO w.heap.size w3 v' (T ++ [b8 B, b8 V])) := by
              show World.ownsRow _ _ _ _ _ _ _
              simpa [b8_val (show B < 256 by omega), b8_val (show V < 256 by omega)] using hown'
            clear hown' hgrow hown
            go_wp2
            go_roundw
            case rel => exact ⟨c + 1, V + 1, T ++ [b8 B, b8 V], by omega, by have := HVE.out; omega, by go_num, by simp; omega, HO3, HF, HB3.out⟩
            case measure => simp [intOf]; omega
        · have hc' : c = 9 := by omega
          have hlv : ¬ (V : Int) ≤ 57 := by omega
          have HF : Hid (R (a + 1) = T) := by show _ = _; rw [HN.out, ← HJ.out, hc']
          have hTl : T.length ≤ 18 * (a + 1) := by omega
          clear hc' hV HJ
          go_wp2
          go_roundw
          case rel => exact ⟨a + 1, B + 1, T, by omega, by have := HBE.out; omega, by go_num, hTl, HOT, HF, HBX.out⟩
          case measure => simp [intOf]; omega
    · have ha' : a = 26 := by omega
      have hle : ¬ (B : Int) ≤ 122 := by omega
      have HF : Hid (acc = R 26) := by show _ = _; rw [← HI.out, ha']
      have hcv := TO.conv HO.out
      clear ha' hB HI
      go_wp2
      go_ret
      exact ⟨kRetT HF.out, HB.out⟩

end Go.Proofs.YtenbnmbbfeekpabGreatDoor
