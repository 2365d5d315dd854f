import Derived.Test.YthgabjpffenjmaaGreatDoorXN
import Derived.Test.YthgabjpffenjmaaGreatDoorXH
import Derived.Test.YthgabjpffenjmaaGreatDoorXO

namespace Go.Proofs.YthgabjpffenjmaaGreatDoor
open Go.RowKit

theorem ex_one (X : ByteArray) (hX : ∀ j : Fin 10, ((X.data.toList.take (j.val + 1)).drop j.val) = digT j.val) (i : Nat) (h : i < 10) : X.extract i (i + 1) = bs (digT i) := by
  rw [extract_bs, hX ⟨i, h⟩]
theorem ex_two (X : ByteArray) (hX : ∀ j : Fin 17, ((X.data.toList.take ((j.val + 10) * 2 + 2)).drop ((j.val + 10) * 2)) = digT (j.val + 10)) (i : Nat) (h : ¬ i < 10) (hi : i ≤ 26) : X.extract (i * 2) (i * 2 + 2) = bs (digT i) := by
  have := hX ⟨i - 10, by omega⟩
  simp only [show i - 10 + 10 = i by omega] at this
  rw [extract_bs, this]

set_option maxHeartbeats 800000 in
set_option maxRecDepth 100000 in
theorem it_small (i : Nat) (w : World) (hi : i ≤ 26) : Calls Tryz.prog 130 #[.int .i64 i] w fun e w' => e = .returned (.string (bs (digT i))) ∧ w' = w := by
  by_cases h : i < 10
  · have h' : (i : Int) < 10 := by omega
    go_enter Tryz.func130, Tryz.ntmps130
    go_wp2
    go_ret
    exact ⟨ret_str (ex_one _ (by decide +kernel) i h), rfl⟩
  · have h' : ¬ (i : Int) < 10 := by omega
    go_enter Tryz.func130, Tryz.ntmps130
    go_wp2
    go_ret
    exact ⟨ret_str (ex_two _ (by decide +kernel) i h hi), rfl⟩

set_option maxHeartbeats 800000 in
theorem it_FormatInt (i : Nat) (w : World) (hi : i ≤ 26) : Calls Tryz.prog 124 #[.int .i64 i, .int .i64 10] w fun e w' => e = .returned (.string (bs (digT i))) ∧ w' = w := by
  have h0 : (0 : Int) ≤ (i : Int) := by omega
  have h1 : (i : Int) < 100 := by omega
  go_enter Tryz.func124, Tryz.ntmps124
  go_wp2_with fail
  refine (it_small i _ hi).mono ?_
  rintro e w1 ⟨rfl, rfl⟩
  go_wp2
  go_ret
  exact ⟨rfl, rfl⟩
theorem it_Itoa (i : Nat) (w : World) (hi : i ≤ 26) : Calls Tryz.prog 103 #[.int .i64 i] w fun e w' => e = .returned (.string (bs (digT i))) ∧ w' = w := by
  go_enter Tryz.func103, Tryz.ntmps103
  go_wp2_with fail
  refine (it_FormatInt i _ hi).mono ?_
  rintro e w1 ⟨rfl, rfl⟩
  go_wp2
  go_ret
  exact ⟨rfl, rfl⟩
theorem std_Itoa (i : Nat) (w : World) (hi : i ≤ 26) : Calls Tryz.prog 62 #[.int .i64 i] w fun e w' => e = .returned (.string (bs (digT i))) ∧ w' = w := by
  go_enter Tryz.func62, Tryz.ntmps62
  go_wp2_with fail
  refine (it_Itoa i _ hi).mono ?_
  rintro e w1 ⟨rfl, rfl⟩
  go_wp2
  go_ret
  exact ⟨rfl, rfl⟩

end Go.Proofs.YthgabjpffenjmaaGreatDoor

namespace Go.Proofs.YthgabjpffenjmaaGreatDoor
open Go.RowKit

def sgnB (x : Nat) : Bool := x == 45 || x == 43
def letB (y : Nat) : Bool := y == 114 || y == 110 || y == 99 || y == 117

set_option maxHeartbeats 800000 in
theorem sc_isSign (x : Nat) (w : World) : Calls Tryz.prog 59 #[.int .u8 x] w fun e w' => e = .returned (.bool (sgnB x)) ∧ w' = w := by
  by_cases h1 : x = 45
  · have e1 : ((x : Int) == 45) = true := by rw [beq_iff_eq]; omega
    have HF : Hid (sgnB x = true) := by show _ = _; simp [sgnB, h1]
    clear h1
    go_enter Tryz.func59, Tryz.ntmps59
    go_wp2
    go_ret
    exact ⟨ret_bool HF.out.symm, rfl⟩
  · have e1 : ((x : Int) == 45) = false := by rw [beq_eq_false_iff_ne]; omega
    have HF : Hid (((x : Int) == 43) = sgnB x) := by show _ = _; rw [Bool.eq_iff_iff]; simp [sgnB, h1]; omega
    clear h1
    go_enter Tryz.func59, Tryz.ntmps59
    go_wp2
    go_ret
    exact ⟨ret_bool HF.out, rfl⟩

set_option maxHeartbeats 800000 in
theorem sc_isLetter (x : Nat) (w : World) : Calls Tryz.prog 60 #[.int .u8 x] w fun e w' => e = .returned (.bool (letB x)) ∧ w' = w := by
  by_cases h1 : x = 114
  · have e1 : ((x : Int) == 114) = true := by rw [beq_iff_eq]; omega
    have HF : Hid (letB x = true) := by show _ = _; simp [letB, h1]
    clear h1
    go_enter Tryz.func60, Tryz.ntmps60
    go_wp2
    go_ret
    exact ⟨ret_bool HF.out.symm, rfl⟩
  have e1 : ((x : Int) == 114) = false := by rw [beq_eq_false_iff_ne]; omega
  by_cases h2 : x = 110
  · have e2 : ((x : Int) == 110) = true := by rw [beq_iff_eq]; omega
    have HF : Hid (letB x = true) := by show _ = _; simp [letB, h2]
    clear h1 h2
    go_enter Tryz.func60, Tryz.ntmps60
    go_wp2
    go_ret
    exact ⟨ret_bool HF.out.symm, rfl⟩
  have e2 : ((x : Int) == 110) = false := by rw [beq_eq_false_iff_ne]; omega
  by_cases h3 : x = 99
  · have e3 : ((x : Int) == 99) = true := by rw [beq_iff_eq]; omega
    have HF : Hid (letB x = true) := by show _ = _; simp [letB, h3]
    clear h1 h2 h3
    go_enter Tryz.func60, Tryz.ntmps60
    go_wp2
    go_ret
    exact ⟨ret_bool HF.out.symm, rfl⟩
  have e3 : ((x : Int) == 99) = false := by rw [beq_eq_false_iff_ne]; omega
  have HF : Hid (((x : Int) == 117) = letB x) := by show _ = _; rw [Bool.eq_iff_iff]; simp [letB, h1, h2, h3]; omega
  clear h1 h2 h3
  go_enter Tryz.func60, Tryz.ntmps60
  go_wp2
  go_ret
  exact ⟨ret_bool HF.out, rfl⟩

/-- The letters of criteria; none: the text is none. -/
def rdC : List UInt8 → Option (List Nat)
  | a :: b :: r => if sgnB a.toNat && letB b.toNat then (rdC r).map (b.toNat :: ·) else none
  | _ => some []
def crL (C : List UInt8) : Option (List Nat) := if C.length = 0 then none else if 8 < C.length then none else if C.length % 2 = 0 then rdC C else none
def crE (C : List UInt8) : Nat := if (crL C).isSome then 0 else 6
/-- Bytes of an own row. -/
def BO (w wr : World) (v : Value) (l : List Nat) : Prop := wr.ownsRow w.heap.size 5 1 v l.length (l.map fun (c : Nat) => .int .u8 (c : Int))
theorem BO.bv {w wr : World} {v : Value} {l : List Nat} (h : BO w wr v l) (hl : l.length ≤ 801) : BV wr v l := by
  rcases own_shape h with ⟨rfl, h0⟩ | ⟨g, cap, rfl, hc⟩
  · have : l = [] := List.eq_nil_of_length_eq_zero h0
    subst this
    exact ⟨hl, none, 0, rfl, fun j h => by simp at h⟩
  · exact ⟨hl, _, _, rfl, fun j hj => ⟨g, 0, rfl, own_lt h, by rw [Nat.zero_add]; exact own_cell h j _ (by simp [hj])⟩⟩

end Go.Proofs.YthgabjpffenjmaaGreatDoor

namespace Go.Proofs.YthgabjpffenjmaaGreatDoor
open Go.RowKit

theorem sc_bad {C : List UInt8} (h : crL C = none) : crE C = 6 := by unfold crE; rw [h]; rfl

set_option maxHeartbeats 3200000 in
set_option maxRecDepth 100000 in
theorem sc_Read (C : List UInt8) (w : World) (hCm : (C.length : Int) ≤ maxLen) :
    Calls Tryz.prog 27 #[.string (bs C)] w fun e w' => ∃ a n c, e = .returned (.agg #[.slice a n c, .int .i64 (crE C : Nat)]) ∧ Below w.heap.size w w' ∧ (∀ L, crL C = some L → BV w' (.slice a n c) L) := by
  obtain ⟨i0, hi0, hz0, hz1, hz2⟩ := info_parts Tryz.infoU8
  have hsz : (bs C).size = C.length := bs_size C
  unfold maxLen at hCm
  have HBK0 : Hid ((w.alloc (.cells #[.slice none 0 0, .int .i64 0] 61)).heap[w.heap.size]? = some (.cells #[.slice none 0 0, .int .i64 0] 61 (0, 0))) := blk_new _ _
  by_cases h0 : C.length = 0
  · have e0 : ((C.length : Int) == 0) = true := by rw [beq_iff_eq]; omega
    have HF : Hid (crL C = none) := by show _ = _; unfold crL; rw [if_pos h0]
    clear h0
    go_enter Tryz.func27, Tryz.ntmps27
    go_wp2
    refine bodyPost_ret (v := .agg #[.slice none 0 0, .int .i64 6]) ?_ rfl ⟨none, 0, 0, ?_, ?_, fun L h => ?_⟩
    · simp [results, Tryz.results27, go_sem]
    · rw [sc_bad HF.out]; rfl
    · exact (Below.refl _ _).alloc (Nat.le_refl _) _
    · rw [HF.out] at h; cases h
  have e0 : ((C.length : Int) == 0) = false := by rw [beq_eq_false_iff_ne]; omega
  by_cases h8 : 8 < C.length
  · have e8 : (8 : Int) < (C.length : Int) := by omega
    have HF : Hid (crL C = none) := by show _ = _; unfold crL; rw [if_neg h0, if_pos h8]
    clear h0 h8
    go_enter Tryz.func27, Tryz.ntmps27
    go_wp2
    refine bodyPost_ret (v := .agg #[.slice none 0 0, .int .i64 6]) ?_ rfl ⟨none, 0, 0, ?_, ?_, fun L h => ?_⟩
    · simp [results, Tryz.results27, go_sem]
    · rw [sc_bad HF.out]; rfl
    · exact (Below.refl _ _).alloc (Nat.le_refl _) _
    · rw [HF.out] at h; cases h
  have e8 : ¬ (8 : Int) < (C.length : Int) := by omega
  have d8 : decide (8 < C.length) = false := by simp; omega
  by_cases hev : C.length % 2 = 0
  · have hev' : (C.length : Int) % 2 = 0 := by omega
    have HPR : Hid (crL C = rdC C) := by show _ = _; unfold crL; rw [if_neg h0, if_neg h8, if_pos hev]
    have HEV : Hid (C.length % 2 = 0) := hev
    have HLG : Hid (C.length ≤ 8) := by show _ ≤ _; omega
    clear hev h8 h0
    go_enter Tryz.func27, Tryz.ntmps27
    go_wp2
    go_loopw [3, 4] (fun o i wr => ∃ (k : Nat) (acc : List Nat), 2 * k ≤ C.length ∧ i = .int .i64 ((2 * k : Nat) : Int) ∧ acc.length = k ∧ Hid (BO w wr o acc) ∧ Hid (rdC C = (rdC (C.drop (2 * k))).map (acc ++ ·)) ∧ Below w.heap.size w wr ∧ wr.heap[w.heap.size]? = some (.cells #[.slice none 0 0, .int .i64 0] 61 (0, 0))) (fun _ i _ => C.length - (intOf i).toNat)
    case atStart => exact ⟨0, [], by omega, rfl, rfl, World.ownsRow_nil _ _ _ _, by show _ = Option.map id _; rw [Option.map_id]; rfl, (Below.refl _ _).alloc (Nat.le_refl _) _, HBK0.out⟩
    case round =>
      obtain ⟨k, acc, hk, rfl, hacc, HO, HQ, hb, hblk⟩ := hrel
      have hbs := hb.size
      have hltb := ltAt hblk
      have HBK : Hid (wr.heap[w.heap.size]? = some (.cells #[.slice none 0 0, .int .i64 0] 61 (0, 0))) := hblk
      have d0 : wr.cell? ⟨w.heap.size, 0, none⟩ = some (.slice none 0 0) := by rw [cellAt hblk]; rfl
      have d1 : wr.cell? ⟨w.heap.size, 1, none⟩ = some (.int .i64 0) := by rw [cellAt hblk]; rfl
      have f0 := freeAt hblk 0
      have f1 := freeAt hblk 1
      have HB : Hid (Below w.heap.size w wr) := hb
      clear hb hblk
      by_cases hlt : 2 * k < C.length
      · have hlt1 : 2 * k + 1 < C.length := by have := HEV.out; omega
        have hi0' : (2 * (k : Int)) < ((bs C).size : Int) := by rw [hsz]; omega
        have hi1' : (2 * (k : Int)) + 1 < ((bs C).size : Int) := by rw [hsz]; omega
        have hleq : (2 * (k : Int)) + 2 ≤ (C.length : Int) := by omega
        have hk4 : k ≤ 4 := by have := HLG.out; omega
        obtain ⟨X, hX⟩ : ∃ X, X = C[2 * k].toNat := ⟨_, rfl⟩
        obtain ⟨Y, hY⟩ : ∃ Y, Y = C[2 * k + 1].toNat := ⟨_, rfl⟩
        have q0 : ∀ h, ((bs C)[2 * k]'h).toNat = X := fun h => by rw [bs_at, hX]
        have q1 : ∀ h, ((bs C)[2 * k + 1]'h).toNat = Y := fun h => by rw [bs_at, hY]
        have HD : Hid (rdC C = (if sgnB X && letB Y then (rdC (C.drop (2 * (k + 1)))).map (Y :: ·) else none).map (acc ++ ·)) := by
          show _ = _; rw [HQ.out, List.drop_eq_getElem_cons hlt, List.drop_eq_getElem_cons hlt1, rdC, hX, hY]; rfl
        clear HQ hX hY
        cases hs : sgnB X with
        | false =>
          have HF : Hid (crL C = none) := by show _ = _; rw [HPR.out, HD.out, hs]; rfl
          have HS : Hid (sgnB X = false) := hs
          clear hs HD
          go_wp2_with fail
          refine (sc_isSign X _).mono ?_
          rintro e w1 ⟨rfl, rfl⟩
          rw [HS.out]
          go_wp2
          refine bodyPost_ret (v := .agg #[.slice none 0 0, .int .i64 6]) ?_ rfl ⟨none, 0, 0, ?_, ?_, fun L h => ?_⟩
          · simp [results, Tryz.results27, go_sem, d0, d1]
          · rw [sc_bad HF.out]; rfl
          · exact ((HB.out.setCell (by simp) _).setCell (by simp) _)
          · rw [HF.out] at h; cases h
        | true =>
          have HS : Hid (sgnB X = true) := hs
          cases ht : letB Y with
          | false =>
            have HF : Hid (crL C = none) := by show _ = _; rw [HPR.out, HD.out, hs, ht]; rfl
            have HT : Hid (letB Y = false) := ht
            clear hs ht HD
            go_wp2_with fail
            refine (sc_isSign X _).mono ?_
            rintro e w1 ⟨rfl, rfl⟩
            rw [HS.out]
            go_wp2_with fail
            refine (sc_isLetter Y _).mono ?_
            rintro e w1 ⟨rfl, rfl⟩
            rw [HT.out]
            go_wp2
            refine bodyPost_ret (v := .agg #[.slice none 0 0, .int .i64 6]) ?_ rfl ⟨none, 0, 0, ?_, ?_, fun L h => ?_⟩
            · simp [results, Tryz.results27, go_sem, d0, d1]
            · rw [sc_bad HF.out]; rfl
            · exact ((HB.out.setCell (by simp) _).setCell (by simp) _)
            · rw [HF.out] at h; cases h
          | true =>
            have HT : Hid (letB Y = true) := ht
            have HE : Hid (rdC C = (rdC (C.drop (2 * (k + 1)))).map ((acc ++ [Y]) ++ ·)) := by
              show _ = _; rw [HD.out, hs, ht]; cases rdC (C.drop (2 * (k + 1))) <;> simp
            have hown : wr.ownsRow w.heap.size 5 1 _ acc.length (acc.map fun (c : Nat) => .int .u8 (c : Int)) := HO.out
            clear hs ht HD HO
            go_wp2_with fail
            refine (sc_isSign X _).mono ?_
            rintro e w1 ⟨rfl, rfl⟩
            rw [HS.out]
            go_wp2_with fail
            refine (sc_isLetter Y _).mono ?_
            rintro e w1 ⟨rfl, rfl⟩
            rw [HT.out]
            go_wp2_with (at_builtin; refine wpList_append_own _ rfl _ _ 59 rfl w.heap.size 5 i0 (.int .u8 0) 1 1 Tryz.underlying59 hi0 hz0 hz1 hz2 rfl (by decide) _ _ _ rfl (hown.alloc _) ⟨w1.heap.size, 0, none⟩ 1 1 [.int .u8 Y] rfl rfl ?c1 ?c2 ?c3 ?c4 ?c5 ?_)
            case c1 => exact cell_one_new _ _ _
            case c2 => intro u hu; simp at hu; subst hu; rfl
            case c3 => unfold maxLen; omega
            case c4 => omega
            case c5 => simp; omega
            intro v' w2 hown' hgrow _
            have HB2 : Hid (Below w.heap.size w w2) := (HB.out.alloc (by omega) _).grown hgrow (by simp; omega) (fun j hj => (hown.lt j hj).1)
            have HBK2 : Hid (w2.heap[w.heap.size]? = some (.cells #[.slice none 0 0, .int .i64 0] 61 (0, 0))) := (hgrow.block _ (by simp; omega) (own_blk_ne hown HBK.out (by decide))).trans (blk_old HBK.out _)
            have HO2 : Hid (BO w w2 v' (acc ++ [Y])) := by
              show World.ownsRow _ _ _ _ _ _ _
              simpa [hacc] using hown'
            clear hown' hgrow hown
            go_wp2
            go_roundw
            case rel => exact ⟨k + 1, acc ++ [Y], by omega, by go_num, by simp; omega, HO2, HE, HB2.out, HBK2.out⟩
            case measure => simp [intOf]; omega
      · have hkl : 2 * k = C.length := by omega
        have hleq : ¬ (2 * (k : Int)) + 2 ≤ (C.length : Int) := by omega
        have HF : Hid (crL C = some acc) := by show _ = _; rw [HPR.out, HQ.out, hkl, List.drop_of_length_le (Nat.le_refl _)]; simp [rdC]
        obtain ⟨_, ax, cx, hux, _⟩ := HO.out.bv (by have := HLG.out; omega)
        subst hux
        clear hkl HQ
        go_wp2
        refine bodyPost_ret (v := .agg #[.slice ax acc.length cx, .int .i64 0]) ?_ rfl ⟨ax, acc.length, cx, ?_, ?_, fun L h => ?_⟩
        · simp [results, Tryz.results27, go_sem, d0, d1, hacc]
        · unfold crE; rw [HF.out]; rfl
        · exact ((HB.out.setCell (by simp) _).setCell (by simp) _)
        · rw [HF.out] at h
          injection h with h
          subst h
          exact BO.bv (own_setT (own_setT HO.out HBK.out (by decide) 0 _) (setAt HBK.out 0 _) (by decide) 1 _) (by have := HLG.out; omega)
  · have hev' : ¬ (C.length : Int) % 2 = 0 := by omega
    have HF : Hid (crL C = none) := by show _ = _; unfold crL; rw [if_neg h0, if_neg h8, if_neg hev]
    clear h0 h8 hev
    go_enter Tryz.func27, Tryz.ntmps27
    go_wp2
    all_goals
      refine bodyPost_ret (v := .agg #[.slice none 0 0, .int .i64 6]) ?_ rfl ⟨none, 0, 0, ?_, ?_, fun L h => ?_⟩
      · simp [results, Tryz.results27, go_sem]
      · rw [sc_bad HF.out]; rfl
      · exact (Below.refl _ _).alloc (Nat.le_refl _) _
      · rw [HF.out] at h; cases h

end Go.Proofs.YthgabjpffenjmaaGreatDoor

namespace Go.Proofs.YthgabjpffenjmaaGreatDoor
open Go.RowKit

/-- The same versions of a name, from v on. -/
def svF (now L : List Pk) (a : Nat) : Nat → Nat → Bool
  | 0, _ => true
  | f + 1, v => (amB now a v == amB L a v) && svF now L a f (v + 1)
def svB (now L : List Pk) (a : Nat) : Bool := svF now L a 9 49
/-- What a letter says of a name. -/
def cnt1 (ps now L : List Pk) (c b : Nat) : Bool :=
  if c = 114 then hnB now b && !hnB L b
  else if c = 110 then hnB L b && !hnB now b
  else if c = 99 then !svB now L b
  else if c = 117 then hnB L b && !amB L b (gtT ps b)
  else false
def scN (ps now L : List Pk) (c : Nat) : Nat → Nat
  | 0 => 0
  | a + 1 => scN ps now L c a + (if cnt1 ps now L c (97 + a) then 1 else 0)
theorem scN_le (ps now L : List Pk) (c : Nat) : ∀ a, scN ps now L c a ≤ a
  | 0 => Nat.le_refl _
  | a + 1 => by
    have := scN_le ps now L c a
    rw [scN]
    split <;> omega

set_option maxHeartbeats 1600000 in
set_option maxRecDepth 100000 in
theorem sc_sameVersions (an : Option Addr) (cn : Nat) (now : List Pk) (aq : Option Addr) (cq : Nat) (L : List Pk) (a : Nat) (w : World) (hn : PV w an now) (hq : PV w aq L) :
    Calls Tryz.prog 123 #[.slice an now.length cn, .slice aq L.length cq, .int .u8 a] w fun e w' => e = .returned (.bool (svB now L a)) ∧ Below w.heap.size w w' := by
  have hln := hn.1
  have hlq := hq.1
  have HN : Hid (∀ w', Below w.heap.size w w' → ∀ j (h : j < now.length), PkRw w' an j now[j]) := fun w' hb => (hn.below hb).rows
  have HQ : Hid (∀ w', Below w.heap.size w w' → ∀ j (h : j < L.length), PkRw w' aq j L[j]) := fun w' hb => (hq.below hb).rows
  clear hn hq
  go_enter Tryz.func123, Tryz.ntmps123
  go_wp2
  go_loopw [7] (fun i wr => ∃ B : Nat, 49 ≤ B ∧ B ≤ 58 ∧ i = .int .u8 (B : Int) ∧ Hid (svB now L a = svF now L a (58 - B) B) ∧ Below w.heap.size w wr) (fun i _ => 60 - (intOf i).toNat)
  case atStart => exact ⟨49, by omega, by omega, rfl, by show _ = _; rfl, Below.refl _ _⟩
  case round =>
    obtain ⟨B, h49, h58, rfl, HP, hb⟩ := hrel
    have hbs := hb.size
    have HB : Hid (Below w.heap.size w wr) := hb
    clear hb
    by_cases hlt : B < 58
    · have hle : (B : Int) ≤ 57 := by omega
      have HD : Hid (svB now L a = ((amB now a B == amB L a B) && svF now L a (58 - (B + 1)) (B + 1))) := by
        show _ = _; rw [HP.out, show 58 - B = (58 - (B + 1)) + 1 by omega, svF]
      clear HP
      obtain ⟨x, hx⟩ : ∃ x, amB now a B = x := ⟨_, rfl⟩
      obtain ⟨y, hy⟩ : ∃ y, amB L a B = y := ⟨_, rfl⟩
      rw [hx, hy] at HD
      have HX : Hid (amB now a B = x) := hx
      have HY : Hid (amB L a B = y) := hy
      clear hx hy
      go_wp2_with fail
      refine (doc_Has an now.length cn now a B _ hln rfl (HN.out _ HB.out)).mono ?_
      rintro e w1 ⟨rfl, hb1⟩
      rw [HX.out]
      have HB1 : Hid (Below w.heap.size w w1) := HB.out.trans (hb1.mono hbs)
      clear hb1
      go_wp2_with fail
      refine (doc_Has aq L.length cq L a B _ hlq rfl (HQ.out _ HB1.out)).mono ?_
      rintro e w2 ⟨rfl, hb2⟩
      rw [HY.out]
      have HB2 : Hid (Below w.heap.size w w2) := HB1.out.trans (hb2.mono HB1.out.size)
      clear hb2
      cases x with
      | false =>
        cases y with
        | false =>
          have HF : Hid (svB now L a = svF now L a (58 - (B + 1)) (B + 1)) := by show _ = _; rw [HD.out]; rfl
          clear HD
          go_wp2
          go_roundw
          case rel => exact ⟨B + 1, by omega, by omega, by go_num, HF, HB2.out⟩
          case measure => simp [intOf]; omega
        | true =>
          have HF : Hid (svB now L a = false) := by show _ = _; rw [HD.out]; rfl
          clear HD
          go_wp2
          go_ret
          exact ⟨ret_bool HF.out.symm, HB2.out⟩
      | true =>
        cases y with
        | false =>
          have HF : Hid (svB now L a = false) := by show _ = _; rw [HD.out]; rfl
          clear HD
          go_wp2
          go_ret
          exact ⟨ret_bool HF.out.symm, HB2.out⟩
        | true =>
          have HF : Hid (svB now L a = svF now L a (58 - (B + 1)) (B + 1)) := by show _ = _; rw [HD.out]; rfl
          clear HD
          go_wp2
          go_roundw
          case rel => exact ⟨B + 1, by omega, by omega, by go_num, HF, HB2.out⟩
          case measure => simp [intOf]; omega
    · have hle : ¬ (B : Int) ≤ 57 := by omega
      have HF : Hid (svB now L a = true) := by show _ = _; rw [HP.out, show 58 - B = 0 by omega]; rfl
      go_wp2
      go_ret
      exact ⟨ret_bool HF.out.symm, HB.out⟩

set_option maxHeartbeats 1600000 in
set_option maxRecDepth 100000 in
theorem sc_counts (c b : Nat) (ao : Option Addr) (cap : Nat) (ps : List Pk) (an : Option Addr) (cn : Nat) (now : List Pk) (aq : Option Addr) (cq : Nat) (L : List Pk) (w : World) (hp : PV w ao ps) (hn : PV w an now) (hq : PV w aq L) :
    Calls Tryz.prog 102 #[.int .u8 c, .int .u8 b, .slice ao ps.length cap, .slice an now.length cn, .slice aq L.length cq] w fun e w' => e = .returned (.bool (cnt1 ps now L c b)) ∧ Below w.heap.size w w' := by
  have hlq := hq.1
  have HPS : Hid (∀ w', Below w.heap.size w w' → PV w' ao ps) := fun w' hb => hp.below hb
  have HN : Hid (∀ w', Below w.heap.size w w' → PV w' an now) := fun w' hb => hn.below hb
  have HQ : Hid (∀ w', Below w.heap.size w w' → PV w' aq L) := fun w' hb => hq.below hb
  clear hp hn hq
  obtain ⟨x, HX⟩ : ∃ x, Hid (hnB now b = x) := ⟨_, rfl⟩
  obtain ⟨y, HY⟩ : ∃ y, Hid (hnB L b = y) := ⟨_, rfl⟩
  go_enter Tryz.func102, Tryz.ntmps102
  go_wp2_with fail
  refine (doc_HasName an cn now b _ (HN.out _ (Below.refl _ _))).mono ?_
  rintro e w1 ⟨rfl, hb1⟩
  rw [HX.out]
  have HB1 : Hid (Below w.heap.size w w1) := hb1
  clear hb1
  go_wp2_with fail
  refine (doc_HasName aq cq L b _ (HQ.out _ HB1.out)).mono ?_
  rintro e w2 ⟨rfl, hb2⟩
  rw [HY.out]
  have HB2 : Hid (Below w.heap.size w w2) := HB1.out.trans (hb2.mono HB1.out.size)
  clear hb2
  by_cases h1 : c = 114
  · have e1 : ((c : Int) == 114) = true := by rw [beq_iff_eq]; omega
    have HF : Hid (cnt1 ps now L c b = (x && !y)) := by show _ = _; unfold cnt1; rw [if_pos h1, HX.out, HY.out]
    clear h1
    cases x <;> cases y <;> (go_wp2; go_ret; exact ⟨ret_bool HF.out.symm, HB2.out⟩)
  have e1 : ((c : Int) == 114) = false := by rw [beq_eq_false_iff_ne]; omega
  by_cases h2 : c = 110
  · have e2 : ((c : Int) == 110) = true := by rw [beq_iff_eq]; omega
    have HF : Hid (cnt1 ps now L c b = (y && !x)) := by show _ = _; unfold cnt1; rw [if_neg h1, if_pos h2, HX.out, HY.out]
    clear h1 h2
    cases x <;> cases y <;> (go_wp2; go_ret; exact ⟨ret_bool HF.out.symm, HB2.out⟩)
  have e2 : ((c : Int) == 110) = false := by rw [beq_eq_false_iff_ne]; omega
  by_cases h3 : c = 99
  · have e3 : ((c : Int) == 99) = true := by rw [beq_iff_eq]; omega
    have HF : Hid (cnt1 ps now L c b = !svB now L b) := by show _ = _; unfold cnt1; rw [if_neg h1, if_neg h2, if_pos h3]
    clear h1 h2 h3
    go_wp2_with fail
    refine (sc_sameVersions an cn now aq cq L b _ (HN.out _ HB2.out) (HQ.out _ HB2.out)).mono ?_
    rintro e w3 ⟨rfl, hb3⟩
    have HB3 : Hid (Below w.heap.size w w3) := HB2.out.trans (hb3.mono HB2.out.size)
    clear hb3
    go_wp2
    go_ret
    exact ⟨ret_bool HF.out.symm, HB3.out⟩
  have e3 : ((c : Int) == 99) = false := by rw [beq_eq_false_iff_ne]; omega
  by_cases h4 : c = 117
  · have e4 : ((c : Int) == 117) = true := by rw [beq_iff_eq]; omega
    have HF : Hid (cnt1 ps now L c b = (y && !amB L b (gtT ps b))) := by show _ = _; unfold cnt1; rw [if_neg h1, if_neg h2, if_neg h3, if_pos h4, HY.out]
    clear h1 h2 h3 h4
    go_wp2_with fail
    refine (doc_Greatest ao cap ps b _ (HPS.out _ HB2.out)).mono ?_
    rintro e w3 ⟨rfl, hb3⟩
    have HB3 : Hid (Below w.heap.size w w3) := HB2.out.trans (hb3.mono HB2.out.size)
    clear hb3
    generalize gtT ps b = G at *
    cases y with
    | false =>
      go_wp2
      go_ret
      exact ⟨ret_bool HF.out.symm, HB3.out⟩
    | true =>
      go_wp2_with fail
      refine (doc_Has aq L.length cq L b G _ hlq rfl (HQ.out _ HB3.out).rows).mono ?_
      rintro e w4 ⟨rfl, hb4⟩
      have HB4 : Hid (Below w.heap.size w w4) := HB3.out.trans (hb4.mono HB3.out.size)
      clear hb4
      go_wp2
      go_ret
      exact ⟨ret_bool (by rw [HF.out, Bool.true_and]), HB4.out⟩
  have e4 : ((c : Int) == 117) = false := by rw [beq_eq_false_iff_ne]; omega
  have HF : Hid (cnt1 ps now L c b = false) := by show _ = _; unfold cnt1; rw [if_neg h1, if_neg h2, if_neg h3, if_neg h4]
  clear h1 h2 h3 h4
  go_wp2
  go_ret
  exact ⟨ret_bool HF.out.symm, HB2.out⟩

set_option maxHeartbeats 1600000 in
set_option maxRecDepth 100000 in
theorem sc_count (c : Nat) (ao : Option Addr) (cap : Nat) (ps : List Pk) (aq : Option Addr) (cq : Nat) (L : List Pk) (w : World) (hp : PV w ao ps) (hq : PV w aq L) :
    Calls Tryz.prog 61 #[.int .u8 c, .slice ao ps.length cap, .slice aq L.length cq] w fun e w' => e = .returned (.int .i64 (scN ps (nowL ps) L c 26 : Nat)) ∧ Below w.heap.size w w' := by
  have HPS : Hid (∀ w', Below w.heap.size w w' → PV w' ao ps) := fun w' hb => hp.below hb
  have HQ : Hid (∀ w', Below w.heap.size w w' → PV w' aq L) := fun w' hb => hq.below hb
  clear hp hq
  go_enter Tryz.func61, Tryz.ntmps61
  go_wp2_with fail
  refine (doc_Now ao cap ps _ (HPS.out _ (Below.refl _ _))).mono ?_
  rintro e w1 ⟨an, cn, rfl, hb1, hpn⟩
  have HB1 : Hid (Below w.heap.size w w1) := hb1
  have hw1 := hb1.size
  have HNW : Hid (∀ w', Below w1.heap.size w1 w' → PV w' an (nowL ps)) := fun w' hb => hpn.below hb
  clear hb1 hpn
  generalize hNE : nowL ps = NW at *
  have HNE : Hid (nowL ps = NW) := hNE
  clear hNE
  go_wp2
  go_loopw [8, 9] (fun n v wr => ∃ a B : Nat, a ≤ 26 ∧ B = 97 + a ∧ v = .int .u8 (B : Int) ∧ n = .int .i64 (scN ps NW L c a : Nat) ∧ Below w1.heap.size w1 wr) (fun _ v _ => 130 - (intOf v).toNat)
  case atStart => exact ⟨0, 97, by omega, rfl, rfl, rfl, Below.refl _ _⟩
  case round =>
    obtain ⟨a, B, ha, hB, rfl, rfl, hb⟩ := hrel
    have HB : Hid (Below w1.heap.size w1 wr) := hb
    have HBE : Hid (B = 97 + a) := hB
    have hB9 : 97 ≤ B := by omega
    have hB3 : B ≤ 123 := by omega
    have hbs := hb.size
    have hnl := scN_le ps NW L c a
    have HBW : Hid (Below w.heap.size w wr) := HB1.out.trans (hb.mono hw1)
    clear hb
    by_cases ha9 : a < 26
    · have HN : Hid (scN ps NW L c (a + 1) = scN ps NW L c a + (if cnt1 ps NW L c B then 1 else 0)) := by show _ = _; rw [hB]; rfl
      have hle : (B : Int) ≤ 122 := by omega
      clear hB
      generalize scN ps NW L c a = M at *
      go_wp2_with fail
      refine (sc_counts c B ao cap ps an cn NW aq cq L _ (HPS.out _ HBW.out) (HNW.out _ HB.out) (HQ.out _ HBW.out)).mono ?_
      rintro e w2 ⟨rfl, hb2⟩
      have HB2 : Hid (Below w1.heap.size w1 w2) := HB.out.trans (hb2.mono hbs)
      clear hb2
      generalize cnt1 ps NW L c B = K at *
      cases K with
      | false =>
        have HE : Hid (scN ps NW L c (a + 1) = M) := HN.out
        clear HN
        go_wp2
        go_roundw
        case rel => first | exact ⟨a + 1, B + 1, by omega, by have := HBE.out; omega, by go_num, by rw [HE.out], HB2.out⟩ | ((repeat apply Exists.intro); exact ⟨⟨a + 1, B + 1, by omega, by have := HBE.out; omega, by go_num, by rw [HE.out], HB2.out⟩, rfl⟩)
        case measure => simp [intOf]; omega
      | true =>
        have HE : Hid (scN ps NW L c (a + 1) = M + 1) := HN.out
        clear HN
        go_wp2
        go_roundw
        case rel => first | exact ⟨a + 1, B + 1, by omega, by have := HBE.out; omega, by go_num, by rw [HE.out]; go_num, HB2.out⟩ | ((repeat apply Exists.intro); exact ⟨⟨a + 1, B + 1, by omega, by have := HBE.out; omega, by go_num, by rw [HE.out]; go_num, HB2.out⟩, rfl⟩)
        case measure => simp [intOf]; omega
    · have ha' : a = 26 := by omega
      have hle : ¬ (B : Int) ≤ 122 := by omega
      have HF : Hid (scN ps (nowL ps) L c 26 = scN ps NW L c a) := by show _ = _; rw [HNE.out, ha']
      clear ha' hB
      generalize scN ps NW L c a = M at *
      go_wp2
      go_ret
      exact ⟨ret_int (by rw [HF.out]), HBW.out⟩

end Go.Proofs.YthgabjpffenjmaaGreatDoor

namespace Go.Proofs.YthgabjpffenjmaaGreatDoor
open Go.RowKit

/-- The numbers for the letters. -/
def txA (ps L : List Pk) (ls : List Nat) : Nat → List UInt8
  | 0 => []
  | m + 1 => (if 0 < m then txA ps L ls m ++ [44] else txA ps L ls m) ++ digT (scN ps (nowL ps) L (ls.getD m 0) 26)
theorem txA_len (ps L : List Pk) (ls : List Nat) : ∀ m, (txA ps L ls m).length ≤ 3 * m
  | 0 => by simp [txA]
  | m + 1 => by
    have h1 := txA_len ps L ls m
    have h2 := digT_len (scN ps (nowL ps) L (ls.getD m 0) 26)
    rw [txA, List.length_append]
    split
    · rw [List.length_append, List.length_singleton]; omega
    · omega

set_option maxHeartbeats 3200000 in
set_option maxRecDepth 100000 in
theorem sc_Text (v : Value) (ls : List Nat) (ao : Option Addr) (cap : Nat) (ps : List Pk) (aq : Option Addr) (cq : Nat) (L : List Pk) (w : World) (hv : BV w v ls) (hl4 : ls.length ≤ 4) (hp : PV w ao ps) (hq : PV w aq L) :
    Calls Tryz.prog 28 #[v, .slice ao ps.length cap, .slice aq L.length cq] w fun e w' => e = .returned (.string (bs (txA ps L ls ls.length))) ∧ Below w.heap.size w w' := by
  obtain ⟨_, al, cl, rfl, hrow⟩ := hv
  have HR : Hid _ := hrow
  have HPS : Hid (∀ w', Below w.heap.size w w' → PV w' ao ps) := fun w' hb => hp.below hb
  have HQ : Hid (∀ w', Below w.heap.size w w' → PV w' aq L) := fun w' hb => hq.below hb
  clear hrow hp hq
  go_enter Tryz.func28, Tryz.ntmps28
  go_wp2
  go_loopw [7, 13] (fun t i wr => ∃ m : Nat, m ≤ ls.length ∧ i = .int .i64 m ∧ t = .string (bs (txA ps L ls m)) ∧ Below w.heap.size w wr) (fun _ i _ => ls.length - (intOf i).toNat)
  case atStart => exact ⟨0, by omega, rfl, rfl, Below.refl _ _⟩
  case round =>
    obtain ⟨m, hm, rfl, rfl, hb⟩ := hrel
    have hbs := hb.size
    have HB : Hid (Below w.heap.size w wr) := hb
    by_cases hlt : m < ls.length
    · obtain ⟨g, off, rfl, hg, x0⟩ := HR.out m hlt
      rw [← hb.cell (p := ⟨g, _, none⟩) hg] at x0
      have HN : Hid (txA ps L ls (m + 1) = (if 0 < m then txA ps L ls m ++ [44] else txA ps L ls m) ++ digT (scN ps (nowL ps) L ls[m] 26)) := by
        show _ = _; rw [txA, List.getD_eq_getElem?_getD, List.getElem?_eq_getElem hlt]; rfl
      have hTl : (bs (txA ps L ls m)).size ≤ 30 := by rw [bs_size]; have := txA_len ps L ls m; omega
      clear hb
      generalize txA ps L ls m = T at *
      generalize ls[m] = K at *
      have hD2 := digT_len (scN ps (nowL ps) L K 26)
      have hNl := scN_le ps (nowL ps) L K 26
      by_cases hm0 : m = 0
      · have HE : Hid (txA ps L ls (m + 1) = T ++ digT (scN ps (nowL ps) L K 26)) := by show _ = _; rw [HN.out, if_neg (by omega)]
        have hmz : ¬ (0 : Int) < (m : Int) := by omega
        clear HN hm0
        go_wp2_with fail
        refine (sc_count K ao cap ps aq cq L _ (HPS.out _ HB.out) (HQ.out _ HB.out)).mono ?_
        rintro e w1 ⟨rfl, hb1⟩
        have HB1 : Hid (Below w.heap.size w w1) := HB.out.trans (hb1.mono hbs)
        clear hb1
        generalize scN ps (nowL ps) L K 26 = M at *
        go_wp2_with fail
        refine (std_Itoa M _ hNl).mono ?_
        rintro e w2 ⟨rfl, rfl⟩
        have hD3 : (bs (digT M)).size ≤ 2 := by rw [bs_size]; exact hD2
        go_wp2
        go_roundw
        case rel => first | exact ⟨m + 1, by omega, by go_num, by rw [HE.out]; rw [bs_app], HB1.out⟩ | ((repeat apply Exists.intro); exact ⟨⟨m + 1, by omega, by go_num, by rw [HE.out]; rw [bs_app], HB1.out⟩, rfl⟩)
        case measure => simp [intOf]; omega
      · have HE : Hid (txA ps L ls (m + 1) = T ++ [44] ++ digT (scN ps (nowL ps) L K 26)) := by show _ = _; rw [HN.out, if_pos (by omega)]
        have hmz : (0 : Int) < (m : Int) := by omega
        clear HN hm0
        go_wp2_with fail
        refine (sc_count K ao cap ps aq cq L _ (HPS.out _ HB.out) (HQ.out _ HB.out)).mono ?_
        rintro e w1 ⟨rfl, hb1⟩
        have HB1 : Hid (Below w.heap.size w w1) := HB.out.trans (hb1.mono hbs)
        clear hb1
        generalize scN ps (nowL ps) L K 26 = M at *
        go_wp2_with fail
        refine (std_Itoa M _ hNl).mono ?_
        rintro e w2 ⟨rfl, rfl⟩
        have hD3 : (bs (digT M)).size ≤ 2 := by rw [bs_size]; exact hD2
        go_wp2
        go_roundw
        case rel => first | exact ⟨m + 1, by omega, by go_num, by rw [HE.out]; rw [← bs_app, ← bs_app]; rfl, HB1.out⟩ | ((repeat apply Exists.intro); exact ⟨⟨m + 1, by omega, by go_num, by rw [HE.out]; rw [← bs_app, ← bs_app]; rfl, HB1.out⟩, rfl⟩)
        case measure => simp [intOf]; omega
    · have hml : m = ls.length := by omega
      subst hml
      clear hb
      obtain ⟨T, HT⟩ : ∃ T, Hid (txA ps L ls ls.length = T) := ⟨_, rfl⟩
      rw [HT.out]
      go_wp2
      go_ret
      exact ⟨ret_str (by rw [HT.out]), HB.out⟩

def usE (t C P : List UInt8) : Nat := if rdE t = 0 then (match crL C with | some _ => prE (dcV t).packs P | none => 6) else rdE t
def usT (t C P : List UInt8) : List UInt8 := if rdE t = 0 then (match crL C, prL (dcV t).packs P with | some ls, some L => txA (dcV t).packs L ls ls.length | _, _ => []) else []
theorem rdC_len : ∀ (n : Nat) (C : List UInt8) (ls : List Nat), C.length ≤ n → rdC C = some ls → ls.length = C.length / 2
  | _, [], ls, _, h => by simp [rdC] at h; subst h; simp
  | _, [c], ls, _, h => by simp [rdC] at h; subst h; simp
  | 0, c :: d :: r, ls, hn, _ => by simp at hn
  | n + 1, c :: d :: r, ls, hn, h => by
    rw [rdC] at h
    split at h
    · cases hr : rdC r with
      | none => rw [hr] at h; simp at h
      | some M =>
        rw [hr] at h
        simp at h
        subst h
        have := rdC_len n r M (by simp at hn; omega) hr
        simp only [List.length_cons]
        omega
    · cases h
theorem crL_len {C : List UInt8} {ls : List Nat} (h : crL C = some ls) : ls.length = C.length / 2 ∧ C.length ≤ 8 := by
  unfold crL at h
  split at h
  · cases h
  · split at h
    · cases h
    · split at h
      · exact ⟨rdC_len C.length C ls (Nat.le_refl _) h, by omega⟩
      · cases h

set_option maxHeartbeats 3200000 in
set_option maxRecDepth 100000 in
theorem up_Score (s : ByteArray) (C P : List UInt8) (w : World) (hs : s.size ≤ maxLen) (hCm : (C.length : Int) ≤ maxLen) (hPm : (P.length : Int) ≤ maxLen) : Calls Tryz.prog 14 #[.string s, .string (bs C), .string (bs P)] w fun e w' => e = .returned (.tuple #[.string (bs (usT s.data.toList C P)), .int .i64 (usE s.data.toList C P : Nat)]) ∧ Below w.heap.size w w' := by
  by_cases h : rdE s.data.toList = 0
  · obtain ⟨r1, r2, r3, _⟩ := rd_ok h
    have HSM : Hid (DcSm (dcV s.data.toList)) := dc_small r2 (by rw [← r1]; exact r3)
    have HTE : Hid (usE s.data.toList C P = match crL C with | some _ => prE (dcV s.data.toList).packs P | none => 6) := by show _ = _; unfold usE; rw [if_pos h]
    have HTR : Hid (usT s.data.toList C P = match crL C, prL (dcV s.data.toList).packs P with | some ls, some L => txA (dcV s.data.toList).packs L ls ls.length | _, _ => []) := by show _ = _; unfold usT; rw [if_pos h]
    have HE : Hid (rdE s.data.toList = 0) := h
    clear r1 r2 r3 h
    go_enter Tryz.func14, Tryz.ntmps14
    go_wp2_with fail
    refine (doc_Read s _ hs).mono ?_
    rintro e w1 ⟨ap, np, cp, ai, ni, ci, ar, nr, cr, au, nu, cu, rfl, hb, hd⟩
    have HD : Hid (∀ w', Below w1.heap.size w1 w' → DcV w' (dcV s.data.toList) ap np cp ai ni ci ar nr cr au nu cu) := fun w' hb => ((hd HE.out).views HSM.out).below hb
    have hnp := ((hd HE.out).views HSM.out).len
    have HB : Hid (Below w.heap.size w w1) := hb
    have hws := hb.size
    have hz : ((rdE s.data.toList : Int) != 0) = false := by rw [HE.out]; rfl
    clear hd hb
    generalize dcV s.data.toList = D at *
    subst hnp
    have HBA : Hid (Below w1.heap.size w1 (w1.alloc (.cells #[.slice ap D.packs.length cp, .slice ai ni ci, .slice ar nr cr, .slice au nu cu, .int .i64 (rdE s.data.toList), .int .i64 (rdP s.data.toList)] 52))) := (Below.refl _ _).alloc (Nat.le_refl _) _
    have HKA : Hid ((w1.alloc (.cells #[.slice ap D.packs.length cp, .slice ai ni ci, .slice ar nr cr, .slice au nu cu, .int .i64 (rdE s.data.toList), .int .i64 (rdP s.data.toList)] 52)).heap[w1.heap.size]? = some (.cells #[.slice ap D.packs.length cp, .slice ai ni ci, .slice ar nr cr, .slice au nu cu, .int .i64 (rdE s.data.toList), .int .i64 (rdP s.data.toList)] 52 (0, 0))) := blk_new _ _
    go_wp2_with fail
    refine (sc_Read C _ hCm).mono ?_
    rintro e w2 ⟨al, nl, cl, rfl, hb2, hq2⟩
    have HK2 : Hid (w2.heap[w1.heap.size]? = some (.cells #[.slice ap D.packs.length cp, .slice ai ni ci, .slice ar nr cr, .slice au nu cu, .int .i64 (rdE s.data.toList), .int .i64 (rdP s.data.toList)] 52 (0, 0))) := blk_below hb2 HKA.out (by simp)
    have HB2 : Hid (Below w1.heap.size w1 w2) := HBA.out.trans (hb2.mono (by simp))
    have y0 : w2.cell? ⟨w1.heap.size, 0, none⟩ = some (.slice ap D.packs.length cp) := (cellAt HK2.out 0).trans rfl
    have hl2 := ltAt HK2.out
    have HQ2 : Hid _ := hq2
    clear hb2 hq2 HKA HBA
    rcases hcr : crL C with _ | ls
    · have hce : crE C = 6 := sc_bad hcr
      have HF : Hid (usT s.data.toList C P = []) := by show _ = _; rw [HTR.out, hcr]
      have HF2 : Hid (usE s.data.toList C P = 6) := by show _ = _; rw [HTE.out, hcr]
      rw [hce]
      clear hcr hce HQ2
      go_wp2_with fail
      go_quiet (fail)
      go_wp2
      go_ret2
      exact ⟨by rw [HF.out, HF2.out]; rfl, ((HB.out.trans (HB2.out.mono hws)).alloc (by omega) _).trans ⟨rfl, rfl, rfl, Nat.le_refl _, fun _ _ => rfl⟩⟩
    · have hce : crE C = 0 := by unfold crE; rw [hcr]; rfl
      obtain ⟨hll, hC8⟩ := crL_len hcr
      have hls : ls.length ≤ 4 := by omega
      have HBV : Hid (BV w2 (.slice al nl cl) ls) := HQ2.out ls hcr
      have HTE2 : Hid (usE s.data.toList C P = prE D.packs P) := by show _ = _; rw [HTE.out, hcr]
      have HTR2 : Hid (usT s.data.toList C P = match prL D.packs P with | some L => txA D.packs L ls ls.length | none => []) := by show _ = _; rw [HTR.out, hcr]; cases prL D.packs P <;> rfl
      rw [hce]
      clear hcr hce HQ2 hll HTE HTR
      obtain ⟨W, hW⟩ : ∃ W, W = w2.alloc (.cells #[.slice al nl cl, .int .i64 0] 61) := ⟨_, rfl⟩
      have HB3 : Hid (Below w2.heap.size w2 W) := by show Below _ _ _; rw [hW]; exact (Below.refl _ _).alloc (Nat.le_refl _) _
      have HB13 : Hid (Below w1.heap.size w1 W) := HB2.out.trans (HB3.out.mono HB2.out.size)
      have HKL : Hid (W.heap[w2.heap.size]? = some (.cells #[.slice al nl cl, .int .i64 0] 61 (0, 0))) := by show _ = _; rw [hW]; exact blk_new _ _
      have HKD : Hid (W.heap[w1.heap.size]? = some (.cells #[.slice ap D.packs.length cp, .slice ai ni ci, .slice ar nr cr, .slice au nu cu, .int .i64 (rdE s.data.toList), .int .i64 (rdP s.data.toList)] 52 (0, 0))) := blk_below HB3.out HK2.out hl2
      go_wp2_with fail
      rw [← hW]
      clear hW
      refine (pk_Read ap cp D.packs P _ hPm (HD.out _ HB13.out).packs).mono ?_
      rintro e w3 ⟨aq, nq, cq, rfl, hb3, hq3⟩
      have HB34 : Hid (Below W.heap.size W w3) := hb3
      have hWs := hb3.size
      have HB15 : Hid (Below w1.heap.size w1 w3) := HB13.out.trans (hb3.mono HB13.out.size)
      have HKL3 : Hid (w3.heap[w2.heap.size]? = some (.cells #[.slice al nl cl, .int .i64 0] 61 (0, 0))) := blk_below hb3 HKL.out (ltAt HKL.out)
      have HKD3 : Hid (w3.heap[w1.heap.size]? = some (.cells #[.slice ap D.packs.length cp, .slice ai ni ci, .slice ar nr cr, .slice au nu cu, .int .i64 (rdE s.data.toList), .int .i64 (rdP s.data.toList)] 52 (0, 0))) := blk_below hb3 HKD.out (ltAt HKD.out)
      have z0 : w3.cell? ⟨w2.heap.size, 0, none⟩ = some (.slice al nl cl) := (cellAt HKL3.out 0).trans rfl
      have z1 : w3.cell? ⟨w1.heap.size, 0, none⟩ = some (.slice ap D.packs.length cp) := (cellAt HKD3.out 0).trans rfl
      have hl3 := ltAt HKL3.out
      have hl4 := ltAt HKD3.out
      have HQ3 : Hid _ := hq3
      clear hb3 hq3 y0
      rcases hpr : prL D.packs P with _ | L
      · have hpe : prE D.packs P = 5 := by unfold prE; rw [hpr]; rfl
        have HF : Hid (usT s.data.toList C P = []) := by show _ = _; rw [HTR2.out, hpr]
        have HF2 : Hid (usE s.data.toList C P = 5) := by show _ = _; rw [HTE2.out, hpe]
        rw [hpe]
        clear hpr hpe HQ3
        go_wp2_with fail
        go_quiet (fail)
        go_wp2
        go_ret2
        exact ⟨by rw [HF.out, HF2.out]; rfl, ((HB.out.trans (HB15.out.mono hws)).alloc (by omega) _).trans ⟨rfl, rfl, rfl, Nat.le_refl _, fun _ _ => rfl⟩⟩
      · have hpe : prE D.packs P = 0 := by unfold prE; rw [hpr]; rfl
        have HF : Hid (usT s.data.toList C P = txA D.packs L ls ls.length) := by show _ = _; rw [HTR2.out, hpr]
        have HF2 : Hid (usE s.data.toList C P = 0) := by show _ = _; rw [HTE2.out, hpe]
        obtain ⟨hn, _, hpv⟩ := HQ3.out L hpr
        subst hn
        rw [hpe]
        have HPV : Hid (PV w3 aq L) := hpv
        clear hpr hpe HQ3 hpv
        have HB5 : Hid (Below w3.heap.size w3 (w3.alloc (.cells #[.slice aq L.length cq, .int .i64 0] 56))) := (Below.refl _ _).alloc (Nat.le_refl _) _
        have HB16 : Hid (Below w1.heap.size w1 (w3.alloc (.cells #[.slice aq L.length cq, .int .i64 0] 56))) := HB15.out.alloc HB15.out.size _
        have HBVf : Hid (BV (w3.alloc (.cells #[.slice aq L.length cq, .int .i64 0] 56)) (.slice al nl cl) ls) := ((HBV.out.below HB3.out).below HB34.out).below HB5.out
        go_wp2_with fail
        refine (sc_Text (.slice al nl cl) ls ap cp D.packs aq cq L _ HBVf.out hls (HD.out _ HB16.out).packs (HPV.out.below HB5.out)).mono ?_
        rintro e w4 ⟨rfl, hb4⟩
        have HB4 : Hid (Below w.heap.size w w4) := HB.out.trans ((HB16.out.trans (hb4.mono (by simp; omega))).mono hws)
        clear hb4
        go_wp2
        go_ret2
        exact ⟨by rw [HF.out, HF2.out]; rfl, HB4.out⟩
  · have HT : Hid (usT s.data.toList C P = []) := by show _ = _; unfold usT; rw [if_neg h]
    have HT2 : Hid (usE s.data.toList C P = rdE s.data.toList) := by show _ = _; unfold usE; rw [if_neg h]
    have hz : ((rdE s.data.toList : Int) != 0) = true := by rw [bne_iff_ne]; omega
    go_enter Tryz.func14, Tryz.ntmps14
    go_wp2_with fail
    refine (doc_Read s _ hs).mono ?_
    rintro e w1 ⟨ap, np, cp, ai, ni, ci, ar, nr, cr, au, nu, cu, rfl, hb, hd⟩
    have HB : Hid (Below w.heap.size w w1) := hb
    clear hd hb
    go_wp2_with fail
    go_quiet (fail)
    go_wp2
    go_ret2
    exact ⟨by rw [HT.out, HT2.out]; rfl, (HB.out.alloc HB.out.size _).trans ⟨rfl, rfl, rfl, Nat.le_refl _, fun _ _ => rfl⟩⟩

end Go.Proofs.YthgabjpffenjmaaGreatDoor

/-
  Score: what the program answers is what the document asks: plain mathematics.
-/
namespace Go.Proofs.YthgabjpffenjmaaGreatDoor

theorem cr_ok (x y : Nat) : crOk x y = (sgnB x && letB y) := rfl
theorem crP_some : ∀ (n : Nat) (C : List UInt8), C.length ≤ n → crP C = (rdC C).isSome
  | _, [], _ => rfl
  | _, [c], _ => rfl
  | 0, c :: d :: r, h => by simp at h
  | n + 1, c :: d :: r, h => by
    rw [crP, rdC, cr_ok, crP_some n r (by simp at h; omega)]
    cases sgnB c.toNat && letB d.toNat <;> simp
theorem crit_same (C : List UInt8) : critB C = (crL C).isSome := by
  unfold critB crL
  rw [crP_some C.length C (Nat.le_refl _)]
  by_cases h0 : C.length = 0
  · rw [if_pos h0]; simp [h0]
  · rw [if_neg h0]
    by_cases h8 : 8 < C.length
    · rw [if_pos h8]
      have : decide (C.length ≤ 8) = false := by simp; omega
      simp [this]
    · rw [if_neg h8]
      have a1 : decide (C.length ≤ 8) = true := by simp; omega
      by_cases he : C.length % 2 = 0
      · rw [if_pos he]
        have a2 : decide (2 ≤ C.length) = true := by simp; omega
        simp [a1, a2, he]
      · rw [if_neg he]
        have : (C.length % 2 == 0) = false := by rw [beq_eq_false_iff_ne]; exact he
        simp [this]
theorem rdC_get : ∀ (n : Nat) (C : List UInt8) (ls : List Nat), C.length ≤ n → rdC C = some ls → ∀ m, m < ls.length → ls.getD m 0 = (C.getD (2 * m + 1) 0).toNat ∧ letB (ls.getD m 0) = true
  | _, [], ls, _, h, m, hm => by simp [rdC] at h; subst h; simp at hm
  | _, [c], ls, _, h, m, hm => by simp [rdC] at h; subst h; simp at hm
  | 0, c :: d :: r, ls, hn, _, _, _ => by simp at hn
  | n + 1, c :: d :: r, ls, hn, h, m, hm => by
    rw [rdC] at h
    split at h
    · rename_i hc
      rw [Bool.and_eq_true] at hc
      cases hr : rdC r with
      | none => rw [hr] at h; simp at h
      | some M =>
        rw [hr] at h
        simp at h
        subst h
        match m, hm with
        | 0, _ => exact ⟨rfl, hc.2⟩
        | m + 1, hm =>
          have := rdC_get n r M (by simp at hn; omega) hr m (by simpa using hm)
          rw [show 2 * (m + 1) + 1 = 2 * m + 1 + 1 + 1 by omega]
          simpa using this
    · cases h
theorem crL_get {C : List UInt8} {ls : List Nat} (h : crL C = some ls) : ∀ m, m < ls.length → ls.getD m 0 = (C.getD (2 * m + 1) 0).toNat ∧ letB (ls.getD m 0) = true := by
  unfold crL at h
  split at h
  · cases h
  · split at h
    · cases h
    · split at h
      · exact rdC_get C.length C ls (Nat.le_refl _) h
      · cases h

/-- The greatest version, as a text. -/
def encG (g : Nat) : List UInt8 := if g = 0 then [] else [b8 g]
theorem gre_go {a : Nat} (hna : a < 256) : ∀ (r : List Pk) (g : Nat), g < 256 → (∀ p ∈ r, p.n < 256 ∧ 1 ≤ p.v ∧ p.v < 256) → r.foldl (gStep [b8 a]) (encG g) = encG (gtG a r g)
  | [], g, _, _ => rfl
  | p :: r, g, hg, hr => by
    rw [List.foldl_cons, gtG]
    obtain ⟨h1, h2, h3⟩ := hr p (by simp)
    have key : gStep [b8 a] (encG g) p = encG (if p.n = a ∧ g < p.v then p.v else g) := by
      unfold gStep
      by_cases hn : p.n = a
      · have e1 : ([b8 p.n] == [b8 a]) = true := by rw [hn]; simp
        have e2 : gtB [b8 p.v] (encG g) = decide (g < p.v) := by
          rw [gt_less]
          unfold encG
          by_cases h0 : g = 0
          · rw [if_pos h0]
            have : decide (g < p.v) = true := by simp; omega
            rw [this]
            rfl
          · rw [if_neg h0]
            simp only [Op.bytesLess, Bool.and_false, Bool.or_false]
            rw [Bool.eq_iff_iff]
            simp only [decide_eq_true_eq, UInt8.lt_iff_toNat_lt, b8_val h3, b8_val hg]
        rw [e1, e2, Bool.true_and]
        by_cases hlt : g < p.v
        · rw [if_pos (by simpa using hlt), if_pos ⟨hn, hlt⟩]
          unfold encG
          rw [if_neg (by omega)]
        · rw [if_neg (by simpa using hlt), if_neg (fun h => hlt h.2)]
      · have e1 : ([b8 p.n] == [b8 a]) = false := by
          rw [beq_eq_false_iff_ne]
          intro e
          exact hn ((one_name h1 hna).1 e)
        rw [e1, if_neg (by simp), if_neg (fun h => hn h.1)]
    rw [key]
    refine gre_go hna r _ ?_ (fun q hq => hr q (by simp [hq]))
    split <;> omega
theorem gre_same {ps : List Pk} (ha : Ap ps) {a : Nat} (hna : a < 256) : greT ps [b8 a] = encG (gtT ps a) := by
  unfold greT gtT
  exact gre_go hna ps 0 (by omega) (fun p hp => by have := ha.n hp; have := ha.v hp; omega)
theorem gt_zero {ps : List Pk} (ha : Ap ps) (a : Nat) : gtT ps a = 0 ↔ hnB ps a = false := by
  obtain ⟨_, g2, g3⟩ := gt_props a ps 0
  unfold hnB
  rw [List.any_eq_false]
  constructor
  · intro h p hp hn
    have := g2 p hp (by simpa using hn)
    have hv := ha.v hp
    unfold gtT at h
    omega
  · intro h
    rcases g3 with g3 | ⟨p, hp, hn, _⟩
    · exact g3
    · exact absurd (by simp [hn]) (h p hp)

theorem now_empty {ps : List Pk} (ha : Ap ps) (P : List UInt8) {a : Nat} (hna : a < 256) : (versT ps P [b8 a] true).isEmpty = !hnB (nowL ps) a := by
  unfold hnB
  rw [Bool.eq_iff_iff, List.isEmpty_iff, Bool.not_eq_true', List.any_eq_false]
  have hN : ∀ p, p ∈ nowL ps ↔ p ∈ ps ∧ vA P true p = true := fun p => by unfold nowL vA; rw [List.mem_filter]; simp
  constructor
  · intro he p hp hn
    obtain ⟨h1, h2⟩ := (hN p).1 hp
    have hn' : p.n = a := by simpa using hn
    have : b8 p.v ∈ versT ps P [b8 a] true := (mem_versT ha).2 ⟨p, h1, h2, by rw [hn'], rfl⟩
    rw [he] at this
    simp at this
  · intro hx
    rw [List.eq_nil_iff_forall_not_mem]
    intro x hxm
    obtain ⟨p, hp, hA, hn, _⟩ := (mem_versT ha).1 hxm
    have hpn := (one_name (by have := ha.n hp; omega) hna).1 hn
    exact hx p ((hN p).2 ⟨hp, hA⟩) (by simp [hpn])
theorem sv_iff (now L : List Pk) (a : Nat) : ∀ (f v : Nat), svF now L a f v = true ↔ ∀ u, v ≤ u → u < v + f → amB now a u = amB L a u
  | 0, v => ⟨fun _ u h1 h2 => by omega, fun _ => rfl⟩
  | f + 1, v => by
    rw [svF, Bool.and_eq_true, sv_iff now L a f (v + 1), beq_iff_eq]
    constructor
    · rintro ⟨h1, h2⟩ u hu hu2
      rcases Nat.lt_or_ge v u with h3 | h3
      · exact h2 u h3 (by omega)
      · have : u = v := by omega
        subst this
        exact h1
    · intro h
      exact ⟨h v (Nat.le_refl _) (by omega), fun u h1 h2 => h u (by omega) (by omega)⟩
/-- There is one with the name and the version, or none. -/
theorem vIn_one {ps : List Pk} (ha : Ap ps) {P : List UInt8} {a : Nat} (hna : a < 256) {now : Bool} (u : Nat) : vIn ps P [b8 a] now u = [] ∨ vIn ps P [b8 a] now u = [b8 u] := by
  unfold vIn
  have hnd : (ps.filter (vHas P [b8 a] now u)).Nodup := ha.nd.sublist List.filter_sublist
  have hm : ∀ p ∈ ps.filter (vHas P [b8 a] now u), p ∈ ps ∧ p.n = a ∧ p.v = u := by
    intro p hp
    obtain ⟨h1, h2⟩ := List.mem_filter.1 hp
    unfold vHas at h2
    simp only [Bool.and_eq_true, beq_iff_eq] at h2
    exact ⟨h1, (one_name (by have := ha.n h1; omega) hna).1 h2.1.2, h2.2⟩
  rcases hF : ps.filter (vHas P [b8 a] now u) with _ | ⟨p, _ | ⟨q, r⟩⟩
  · exact Or.inl rfl
  · right
    rw [hF] at hm
    obtain ⟨_, _, h3⟩ := hm p (by simp)
    simp [h3]
  · exfalso
    rw [hF] at hm hnd
    obtain ⟨p1, p2, p3⟩ := hm p (by simp)
    obtain ⟨q1, q2, q3⟩ := hm q (by simp)
    have : p = q := ha.ap p p1 q q1 (by omega) (by omega)
    subst this
    simp at hnd
theorem vers_cong {ps : List Pk} {P1 P2 N : List UInt8} {n1 n2 : Bool} : ∀ (k : Nat), (∀ u, 49 ≤ u → u < 49 + k → vIn ps P1 N n1 u = vIn ps P2 N n2 u) → vers ps P1 N n1 k = vers ps P2 N n2 k
  | 0, _ => rfl
  | k + 1, h => by
    rw [vers, vers, vers_cong k (fun u h1 h2 => h u h1 (by omega)), h (49 + k) (by omega) (by omega)]
theorem am_now {ps : List Pk} (ha : Ap ps) (P : List UInt8) {a u : Nat} (hna : a < 256) : amB (nowL ps) a u = true ↔ vIn ps P [b8 a] true u ≠ [] := by
  have hN : ∀ p, p ∈ nowL ps ↔ p ∈ ps ∧ vA P true p = true := fun p => by unfold nowL vA; rw [List.mem_filter]; simp
  unfold amB
  rw [List.any_eq_true]
  constructor
  · rintro ⟨p, hp, e⟩ hx
    simp at e
    obtain ⟨h1, h2⟩ := (hN p).1 hp
    have : b8 p.v ∈ vIn ps P [b8 a] true u := mem_vIn.2 ⟨p, h1, h2, by rw [e.1], e.2, rfl⟩
    rw [hx] at this
    simp at this
  · intro hx
    obtain ⟨x, hxm⟩ := List.exists_mem_of_ne_nil _ hx
    obtain ⟨p, h1, h2, h3, h4, _⟩ := mem_vIn.1 hxm
    exact ⟨p, (hN p).2 ⟨h1, h2⟩, by simp [(one_name (by have := ha.n h1; omega) hna).1 h3, h4]⟩
theorem am_pick {ps : List Pk} {P : List UInt8} {L : List Pk} (ha : Ap ps) (h : Pq ps P L) {a u : Nat} (hna : a < 256) : amB L a u = true ↔ vIn ps P [b8 a] false u ≠ [] := by
  unfold amB
  rw [List.any_eq_true]
  constructor
  · rintro ⟨p, hp, e⟩ hx
    simp at e
    have : b8 p.v ∈ vIn ps P [b8 a] false u := mem_vIn.2 ⟨p, h.sub p hp, (vA_pick ha h (h.sub p hp)).2 hp, by rw [e.1], e.2, rfl⟩
    rw [hx] at this
    simp at this
  · intro hx
    obtain ⟨x, hxm⟩ := List.exists_mem_of_ne_nil _ hx
    obtain ⟨p, h1, h2, h3, h4, _⟩ := mem_vIn.1 hxm
    exact ⟨p, (vA_pick ha h h1).1 h2, by simp [(one_name (by have := ha.n h1; omega) hna).1 h3, h4]⟩
theorem chg_same {ps : List Pk} {P : List UInt8} {L : List Pk} (ha : Ap ps) (h : Pq ps P L) {a : Nat} (hna : a < 256) : (versT ps [] [b8 a] true == versT ps P [b8 a] false) = svB (nowL ps) L a := by
  rw [Bool.eq_iff_iff, beq_iff_eq]
  unfold svB
  rw [sv_iff]
  have hin : ∀ u, 49 ≤ u → u < 58 → ((amB (nowL ps) a u = amB L a u) ↔ vIn ps [] [b8 a] true u = vIn ps P [b8 a] false u) := by
    intro u hu hu2
    have e1 := am_now ha [] (u := u) hna
    have e2 := am_pick ha h (u := u) hna
    rw [Bool.eq_iff_iff, e1, e2]
    rcases vIn_one ha (P := []) hna (now := true) u with h1 | h1 <;> rcases vIn_one ha (P := P) hna (now := false) u with h2 | h2 <;> rw [h1, h2] <;> simp
  constructor
  · intro hOV u hu hu2
    rw [Bool.eq_iff_iff]
    have mem : ∀ (P' : List UInt8) (n' : Bool), b8 u ∈ versT ps P' [b8 a] n' ↔ vIn ps P' [b8 a] n' u ≠ [] := by
      intro P' n'
      rw [mem_versT ha]
      constructor
      · rintro ⟨p, h1, h2, h3, h4⟩ hx
        have hv := ha.v h1
        have : u = p.v := b8_inj (by omega) (by omega) h4
        have : b8 p.v ∈ vIn ps P' [b8 a] n' u := mem_vIn.2 ⟨p, h1, h2, h3, this.symm, rfl⟩
        rw [hx] at this
        simp at this
      · intro hx
        obtain ⟨x, hxm⟩ := List.exists_mem_of_ne_nil _ hx
        obtain ⟨p, h1, h2, h3, h4, _⟩ := mem_vIn.1 hxm
        exact ⟨p, h1, h2, h3, by rw [h4]⟩
    rw [am_now ha [] hna, am_pick ha h hna, ← mem, ← mem, hOV]
  · intro hx
    unfold versT
    exact vers_cong 9 (fun u h1 h2 => (hin u h1 (by omega)).1 (hx u h1 (by omega)))

theorem hn_sub {ps L : List Pk} (hs : ∀ p ∈ L, p ∈ ps) {a : Nat} (h : hnB ps a = false) : hnB L a = false := by
  unfold hnB at h ⊢
  rw [List.any_eq_false] at h ⊢
  exact fun p hp => h p (hs p hp)
theorem cnt_same {ps : List Pk} {P : List UInt8} {L : List Pk} (ha : Ap ps) (h : Pq ps P L) {a : Nat} (hna : a < 256) {c : Nat} (hc : letB c = true) : num1 ps P c a = cnt1 ps (nowL ps) L c a := by
  unfold num1 cntB cntV cnt1
  rw [now_empty ha [] hna, vers_empty ha h hna, chg_same ha h hna, gre_same ha hna]
  have hsubN : ∀ p ∈ nowL ps, p ∈ ps := fun p hp => (List.mem_filter.1 hp).1
  by_cases hg : gtT ps a = 0
  · have h0 := (gt_zero ha a).1 hg
    have h1 := hn_sub hsubN h0
    have h2 := hn_sub h.sub h0
    have h3 : svB (nowL ps) L a = true := by
      unfold svB
      rw [sv_iff]
      intro u _ _
      have z : ∀ M : List Pk, hnB M a = false → amB M a u = false := by
        intro M hM
        unfold hnB at hM
        unfold amB
        rw [List.any_eq_false] at hM ⊢
        intro p hp hx
        have := hM p hp
        simp at hx this
        exact this hx.1
      rw [z _ h1, z _ h2]
    have he : encG (gtT ps a) = [] := by unfold encG; rw [if_pos hg]
    rw [he, h1, h2, h3]
    simp
  · have he : encG (gtT ps a) = [b8 (gtT ps a)] := by unfold encG; rw [if_neg hg]
    rw [he]
    have hT : inB P ([b8 a] ++ [b8 (gtT ps a)]) = amB L a (gtT ps a) := by
      obtain ⟨_, _, g3⟩ := gt_props a ps 0
      rcases g3 with g3 | ⟨p, hp, hn, e⟩
      · exact absurd g3 hg
      · have e' : gtT ps a = p.v := e
        rw [e', ← hn]
        exact (am_same ha h hp).symm
    rw [hT]
    have e0 : (!([b8 (gtT ps a)] : List UInt8).isEmpty) = true := rfl
    rw [e0, Bool.true_and]
    unfold letB at hc
    simp only [Bool.or_eq_true, beq_iff_eq] at hc
    by_cases c1 : c = 114
    · rw [if_pos c1, if_pos c1, Bool.not_not]
    · rw [if_neg c1, if_neg c1]
      by_cases c2 : c = 110
      · rw [if_pos c2, if_pos c2, Bool.not_not, Bool.and_comm]
      · rw [if_neg c2, if_neg c2]
        by_cases c3 : c = 99
        · rw [if_pos c3, if_pos c3]
        · rw [if_neg c3, if_neg c3, if_pos (by omega), Bool.not_not]
theorem num_same {ps : List Pk} {P : List UInt8} {L : List Pk} (ha : Ap ps) (h : Pq ps P L) {c : Nat} (hc : letB c = true) : ∀ k, k ≤ 26 → numA ps P c k = scN ps (nowL ps) L c k
  | 0, _ => rfl
  | k + 1, hk => by
    rw [numA, scN, num_same ha h hc k (by omega), cnt_same ha h (by omega) hc]
theorem text_same {ps : List Pk} {P C : List UInt8} {L : List Pk} {ls : List Nat} (ha : Ap ps) (h : Pq ps P L) (hc : crL C = some ls) : ∀ m, m ≤ ls.length → scA ps P C m = txA ps L ls m
  | 0, _ => rfl
  | m + 1, hm => by
    obtain ⟨h1, h2⟩ := crL_get hc m (by omega)
    rw [scA, txA, text_same ha h hc m (by omega), ← h1]
    unfold numT
    rw [num_same ha h h2 26 (Nat.le_refl _)]

theorem score_same (t C P : List UInt8) : usE t C P = scE t C P ∧ usT t C P = scT t C P := by
  unfold usE usT scE scT
  by_cases h : rdE t = 0
  · have ha := Ap.of h
    obtain ⟨_, _, _, r4, _⟩ := rd_ok h
    rw [if_pos h, if_pos h, if_pos h, if_pos h, crit_same, pick_same ha r4]
    rcases hc : crL C with _ | ls
    · exact ⟨rfl, rfl⟩
    · unfold prE
      rcases hp : prL (dcV t).packs P with _ | L
      · exact ⟨rfl, rfl⟩
      · refine ⟨rfl, ?_⟩
        have := text_same ha (Pq.of ha hp) hc ls.length (Nat.le_refl _)
        rw [(crL_len hc).1] at this
        simp only [Option.isSome_some, if_true]
        rw [this, (crL_len hc).1]
  · rw [if_neg h, if_neg h, if_neg h, if_neg h]
    exact ⟨rfl, rfl⟩

end Go.Proofs.YthgabjpffenjmaaGreatDoor
