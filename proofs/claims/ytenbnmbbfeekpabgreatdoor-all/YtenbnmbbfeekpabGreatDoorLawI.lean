import Derived.Test.YtenbnmbbfeekpabGreatDoorLawH
namespace Go.Proofs.YtenbnmbbfeekpabGreatDoor
open Go.RowKit

/-- A step of the script, in memory. -/
structure OpV (w : World) (ao : Option Addr) (i : Nat) (x : Int × Int × List UInt8 × List UInt8 × List UInt8) : Prop where
  at_ : ∃ b off, ao = some ⟨b, off, none⟩ ∧ w.cell? ⟨b, off + i * 5, none⟩ = some (.int .i64 x.1) ∧ w.cell? ⟨b, off + i * 5 + 1, none⟩ = some (.int .i64 x.2.1) ∧ w.cell? ⟨b, off + i * 5 + 2, none⟩ = some (.string (bs x.2.2.1)) ∧ w.cell? ⟨b, off + i * 5 + 3, none⟩ = some (.string (bs x.2.2.2.1)) ∧ w.cell? ⟨b, off + i * 5 + 4, none⟩ = some (.string (bs x.2.2.2.2))
  l1 : x.2.2.1.length ≤ maxLen
  l2 : x.2.2.2.1.length ≤ maxLen
  l3 : x.2.2.2.2.length ≤ maxLen
theorem ops_of {w : World} {ao : Option Addr} {len : Nat} (h : ∀ i, i < len → ∃ b off, ao = some ⟨b, off, none⟩ ∧ OpAt w b off i) : ∃ f : Nat → Int × Int × List UInt8 × List UInt8 × List UInt8, ∀ i, i < len → OpV w ao i (f i) := by
  have key : ∀ i, ∃ x : Int × Int × List UInt8 × List UInt8 × List UInt8, i < len → OpV w ao i x := by
    intro i
    by_cases hi : i < len
    · obtain ⟨b, off, e, kk, n, S, T, U, x0, x1, x2, x3, x4, s1, s2, s3⟩ := h i hi
      refine ⟨(kk, n, S.data.toList, T.data.toList, U.data.toList), fun _ => ⟨⟨b, off, e, x0, x1, ?_, ?_, ?_⟩, ?_, ?_, ?_⟩⟩
      · rw [bs_back]; exact x2
      · rw [bs_back]; exact x3
      · rw [bs_back]; exact x4
      · rw [← bs_size, bs_back]; exact s1
      · rw [← bs_size, bs_back]; exact s2
      · rw [← bs_size, bs_back]; exact s3
    · exact ⟨(0, 0, [], [], []), fun g => absurd g hi⟩
  exact ⟨fun i => (key i).choose, fun i hi => (key i).choose_spec hi⟩

theorem own_bel {base : Nat} {e : TypeId} {size n : Nat} {v : Value} {xs : List Value} {w w' : World} (h : w.ownsRow base e size v n xs) (hb : Below w.heap.size w w') : w'.ownsRow base e size v n xs :=
  World.ownsRow.kept (row := none) h ⟨hb.os, hb.tape, hb.output, hb.size, fun k hk _ => hb.block k hk⟩ (by rcases Value.ownBlock _ with _ | k <;> simp)
theorem own_sl {base : Nat} {e : TypeId} {size n : Nat} {v : Value} {xs : List Value} {w : World} (h : w.ownsRow base e size v n xs) : ∃ a c, v = .slice a n c := by
  rcases own_shape h with ⟨h, h0⟩ | ⟨gg, cc, h, _⟩
  · exact ⟨none, 0, by rw [h, h0]⟩
  · exact ⟨_, _, h⟩
theorem range_snoc {α : Type} (f : Nat → α) (k : Nat) : (List.range (k + 1)).map f = (List.range k).map f ++ [f k] := by rw [List.range_succ, List.map_append]; rfl

set_option maxHeartbeats 6400000 in
set_option maxRecDepth 100000 in
theorem law_AllW {TS : List UInt8 → List UInt8 → List UInt8} {BS : List UInt8 → List UInt8 → Bool} {TC : List UInt8 → List UInt8 → List UInt8} {E : List UInt8 → List UInt8 → Nat} (hs : SolveP TS BS) (hsc : SolveC TS BS) (hc : ChooseP TC E) (hcc : ChooseC TC E)
    (ao : Option Addr) (len cap : Nat) (w : World) (hreach : len * 64 ≤ 140737488351232) (hrow : ∀ i, i < len → ∃ b off, ao = some ⟨b, off, none⟩ ∧ OpAt w b off i) :
    Calls Tryz.prog 4 #[.slice ao len cap] w fun e w' => e = .returned (.bool true) ∧ Below w.heap.size w w' := by
  obtain ⟨i0, hi0, hz0, hz1, hz2⟩ := info_parts Tryz.infoStr
  obtain ⟨f, hf⟩ := ops_of hrow
  have HF : Hid (∀ i, i < len → OpV w ao i (f i)) := hf
  have HH : Hid (∀ (k : Nat), 1 ≤ k ∧ k ≤ 6 → ∀ w, Calls Tryz.prog 13 #[.int .i64 (k : Int)] w fun e w' => e = .returned (.bool true) ∧ Below w.heap.size w w') := fun k hk w => law_headsA hs hsc hc hcc k hk w
  have HP : Hid (∀ (kk n : Int) (S T U : ByteArray) (w : World), S.size ≤ maxLen → T.size ≤ maxLen → U.size ≤ maxLen → Calls Tryz.prog 15 #[.agg #[.int .i64 kk, .int .i64 n, .string S, .string T, .string U]] w fun e w' => e = .returned (.bool true) ∧ Below w.heap.size w w') := fun kk n S T U w h1 h2 h3 => law_playsA hs hsc hc hcc kk n S T U w h1 h2 h3
  have HFR : Hid (∀ (kk n : Int) (S T U : List UInt8) (w : World), S.length ≤ maxLen → T.length ≤ maxLen → U.length ≤ maxLen → Calls Tryz.prog 14 #[.agg #[.int .i64 kk, .int .i64 n, .string (bs S), .string (bs T), .string (bs U)]] w fun e w' => e = .returned (.string (bs (frT TS BS TC kk S T U))) ∧ Below w.heap.size w w') := fun kk n S T U w h1 h2 h3 => law_free hs hsc hcc kk n S T U w h1 h2 h3
  obtain ⟨g, hg⟩ : ∃ g : Nat → List UInt8, ∀ i, frT TS BS TC (f i).1 (f i).2.2.1 (f i).2.2.2.1 (f i).2.2.2.2 = g i := ⟨fun i => frT TS BS TC (f i).1 (f i).2.2.1 (f i).2.2.2.1 (f i).2.2.2.2, fun i => rfl⟩
  have HG : Hid (∀ i, frT TS BS TC (f i).1 (f i).2.2.1 (f i).2.2.2.1 (f i).2.2.2.2 = g i) := hg
  clear hf hg hrow hs hsc hc hcc
  go_enter Tryz.func4, Tryz.ntmps4
  go_wp2
  go_loopw [3] (fun i wr => ∃ k : Nat, 1 ≤ k ∧ k ≤ 7 ∧ i = .int .i64 (k : Int) ∧ Below w.heap.size w wr) (fun i _ => 7 - (intOf i).toNat)
  case atStart => exact ⟨1, by omega, by omega, rfl, Below.refl _ _⟩
  case round =>
    obtain ⟨k, hk1, hk2, rfl, hb⟩ := hrel
    have HB : Hid (Below w.heap.size w wr) := hb
    have hbs := hb.size
    clear hb
    by_cases hlt : k ≤ 6
    · have e1 : (k : Int) ≤ 6 := by omega
      go_wp2_with fail
      refine (HH.out k ⟨hk1, hlt⟩ _).mono ?_
      rintro e w1 ⟨rfl, hb1⟩
      have HB1 : Hid (Below w.heap.size w w1) := HB.out.trans (hb1.mono hbs)
      clear hb1
      go_wp2
      go_roundw
      case rel => exact ⟨k + 1, by omega, by omega, by go_num, HB1.out⟩
      case measure => simp [intOf]; omega
    · have e1 : ¬ (k : Int) ≤ 6 := by omega
      clear hlt hk1 hk2
      go_wp2
      go_loopw [5, 6] (fun o i wx => ∃ j : Nat, j ≤ len ∧ i = .int .i64 (j : Int) ∧ Hid (wx.ownsRow w.heap.size 9 1 o j ((List.range j).map fun i => Value.string (bs (g i)))) ∧ Below w.heap.size w wx) (fun _ i _ => len - (intOf i).toNat)
      case atStart => exact ⟨0, by omega, rfl, World.ownsRow_nil _ _ _ _, HB.out⟩
      case round =>
        obtain ⟨j, hj, rfl, HO, hb⟩ := hrel
        have HBX : Hid (Below w.heap.size w wr) := hb
        have hbx := hb.size
        by_cases hlt : j < len
        · obtain ⟨⟨b, off, rfl, x0, x1, x2, x3, x4⟩, l1, l2, l3⟩ := HF.out j hlt
          have hgb : b < w.heap.size := World.block_lt_of_cell? _ _ x0
          have HGJ : Hid (frT TS BS TC (f j).1 (f j).2.2.1 (f j).2.2.2.1 (f j).2.2.2.2 = g j) := HG.out j
          clear hb
          generalize f j = F at *
          obtain ⟨kk, n, S, T, U⟩ := F
          simp only at x0 x1 x2 x3 x4 l1 l2 l3 HGJ
          have HX : Hid (∀ w', Below w.heap.size w w' → w'.cell? ⟨b, off + j * 5, none⟩ = some (.int .i64 kk) ∧ w'.cell? ⟨b, off + j * 5 + 1, none⟩ = some (.int .i64 n) ∧ w'.cell? ⟨b, off + j * 5 + 2, none⟩ = some (.string (bs S)) ∧ w'.cell? ⟨b, off + j * 5 + 3, none⟩ = some (.string (bs T)) ∧ w'.cell? ⟨b, off + j * 5 + 4, none⟩ = some (.string (bs U))) :=
            fun w' hb' => ⟨(hb'.cell (p := ⟨b, _, none⟩) hgb).trans x0, (hb'.cell (p := ⟨b, _, none⟩) hgb).trans x1, (hb'.cell (p := ⟨b, _, none⟩) hgb).trans x2, (hb'.cell (p := ⟨b, _, none⟩) hgb).trans x3, (hb'.cell (p := ⟨b, _, none⟩) hgb).trans x4⟩
          clear x0 x1 x2 x3 x4
          obtain ⟨x0, x1, x2, x3, x4⟩ := HX.out _ HBX.out
          have L1 : Hid (S.length ≤ maxLen) := l1
          have L2 : Hid (T.length ≤ maxLen) := l2
          have L3 : Hid (U.length ≤ maxLen) := l3
          have S1 : Hid ((bs S).size ≤ maxLen) := by show _ ≤ _; rw [bs_size]; exact l1
          have S2 : Hid ((bs T).size ≤ maxLen) := by show _ ≤ _; rw [bs_size]; exact l2
          have S3 : Hid ((bs U).size ≤ maxLen) := by show _ ≤ _; rw [bs_size]; exact l3
          clear l1 l2 l3
          go_wp2_with fail
          refine (HFR.out kk n S T U _ L1.out L2.out L3.out).mono ?_
          rintro e w2 ⟨rfl, hb2⟩
          rw [HGJ.out]
          have hown := own_bel HO.out hb2
          have HB2 : Hid (Below w.heap.size w w2) := HBX.out.trans (hb2.mono hbx)
          have hs2 := HB2.out.size
          clear hb2 x0 x1 x2 x3 x4
          go_wp2_with (at_builtin; refine wpList_append_own _ rfl _ _ 36 rfl w.heap.size 9 i0 (.string ByteArray.empty) 1 16 Tryz.underlying36 hi0 hz0 hz1 hz2 rfl (by decide) _ _ _ rfl (hown.alloc _) ⟨w2.heap.size, 0, none⟩ 1 1 [.string (bs (g j))] rfl rfl ?c1 ?c2 ?c3 ?c4 ?c5 ?_)
          case c1 => exact cell_one_new _ _ _
          case c2 => intro u hu; simp at hu; subst hu; rfl
          case c3 => unfold maxLen; omega
          case c4 => omega
          case c5 => simp; omega
          intro v' w3 hown' hgrow _
          have HB3 : Hid (Below w.heap.size w w3) := (HB2.out.alloc (by omega) _).grown hgrow (by simp; omega) (fun j hj => (hown.lt j hj).1)
          have HO2 : Hid (w3.ownsRow w.heap.size 9 1 v' (j + 1) ((List.range (j + 1)).map fun i => Value.string (bs (g i)))) := by
            show World.ownsRow _ _ _ _ _ _ _
            rw [range_snoc]
            exact hown'
          have hs3 := HB3.out.size
          obtain ⟨x0, x1, x2, x3, x4⟩ := HX.out _ HB3.out
          clear hown' hgrow hown
          go_wp2_with fail
          refine (HP.out kk n (bs S) (bs T) (bs U) _ S1.out S2.out S3.out).mono ?_
          rintro e w4 ⟨rfl, hb4⟩
          have HO4 : Hid _ := own_bel HO2.out hb4
          have HB4 : Hid (Below w.heap.size w w4) := HB3.out.trans (hb4.mono hs3)
          clear hb4 HO2
          go_wp2
          go_roundw
          case rel => exact ⟨j + 1, by omega, by go_num, HO4, HB4.out⟩
          case measure => simp [intOf]; omega
        · have hjl : j = len := by omega
          subst hjl
          obtain ⟨a5, c5, hu5⟩ := own_sl HO.out
          subst hu5
          have HSD : Hid (∀ w', Below wr.heap.size wr w' → ∀ i, i < j → ∃ gg, a5 = some ⟨gg, 0, none⟩ ∧ w'.cell? ⟨gg, i, none⟩ = some (.string (bs (g i)))) := by
            intro w' hb' i hi
            rcases own_shape HO.out with ⟨h, h0⟩ | ⟨gg, cc, h, _⟩
            · omega
            · injection h with h1 h2 h3
              subst h1 h3
              refine ⟨gg, rfl, ?_⟩
              have hlt' : gg < wr.heap.size := (HO.out.lt gg rfl).2
              rw [hb'.cell (p := ⟨gg, _, none⟩) hlt']
              exact own_cell HO.out i _ (by simp [hi])
          clear hb HO
          have HW : Hid (Below wr.heap.size wr wr) := Below.refl _ _
          obtain ⟨W3, hW3⟩ : ∃ W, W = wr := ⟨_, rfl⟩
          rw [← hW3] at HSD HW
          go_wp2
          go_loopw [9] (fun i wr => ∃ m : Nat, m ≤ j ∧ i = .int .i64 (m : Int) ∧ Below w.heap.size w wr ∧ Below W3.heap.size W3 wr) (fun i _ => j - (intOf i).toNat)
          case atStart => exact ⟨0, by omega, rfl, HBX.out, by rw [hW3]; exact Below.refl _ _⟩
          case round =>
            obtain ⟨m, hm, rfl, hb, hb3⟩ := hrel
            have HBY : Hid (Below w.heap.size w wr) := hb
            have HBZ : Hid (Below W3.heap.size W3 wr) := hb3
            have hbx := hb.size
            have hb3s := hb3.size
            clear hb hb3
            by_cases hlt : m < j
            · obtain ⟨⟨b, off, rfl, x0, x1, x2, x3, x4⟩, l1, l2, l3⟩ := HF.out m hlt
              have hgb : b < w.heap.size := World.block_lt_of_cell? _ _ x0
              have HGJ : Hid (frT TS BS TC (f m).1 (f m).2.2.1 (f m).2.2.2.1 (f m).2.2.2.2 = g m) := HG.out m
              generalize f m = F at *
              obtain ⟨kk, n, S, T, U⟩ := F
              simp only at x0 x1 x2 x3 x4 l1 l2 l3 HGJ
              have HX : Hid (∀ w', Below w.heap.size w w' → w'.cell? ⟨b, off + m * 5, none⟩ = some (.int .i64 kk) ∧ w'.cell? ⟨b, off + m * 5 + 1, none⟩ = some (.int .i64 n) ∧ w'.cell? ⟨b, off + m * 5 + 2, none⟩ = some (.string (bs S)) ∧ w'.cell? ⟨b, off + m * 5 + 3, none⟩ = some (.string (bs T)) ∧ w'.cell? ⟨b, off + m * 5 + 4, none⟩ = some (.string (bs U))) :=
                fun w' hb' => ⟨(hb'.cell (p := ⟨b, _, none⟩) hgb).trans x0, (hb'.cell (p := ⟨b, _, none⟩) hgb).trans x1, (hb'.cell (p := ⟨b, _, none⟩) hgb).trans x2, (hb'.cell (p := ⟨b, _, none⟩) hgb).trans x3, (hb'.cell (p := ⟨b, _, none⟩) hgb).trans x4⟩
              clear x0 x1 x2 x3 x4
              obtain ⟨x0, x1, x2, x3, x4⟩ := HX.out _ HBY.out
              have L1 : Hid (S.length ≤ maxLen) := l1
              have L2 : Hid (T.length ≤ maxLen) := l2
              have L3 : Hid (U.length ≤ maxLen) := l3
              have S1 : Hid ((bs S).size ≤ maxLen) := by show _ ≤ _; rw [bs_size]; exact l1
              have S2 : Hid ((bs T).size ≤ maxLen) := by show _ ≤ _; rw [bs_size]; exact l2
              have S3 : Hid ((bs U).size ≤ maxLen) := by show _ ≤ _; rw [bs_size]; exact l3
              clear l1 l2 l3
              go_wp2_with fail
              refine (HP.out kk n (bs S) (bs T) (bs U) _ S1.out S2.out S3.out).mono ?_
              rintro e w4 ⟨rfl, hb4⟩
              have HB4 : Hid (Below w.heap.size w w4) := HBY.out.trans (hb4.mono hbx)
              have HZ4 : Hid (Below W3.heap.size W3 w4) := HBZ.out.trans (hb4.mono hb3s)
              have hs4 := HB4.out.size
              have hz4 := HZ4.out.size
              clear hb4 x0 x1 x2 x3 x4
              obtain ⟨x0, x1, x2, x3, x4⟩ := HX.out _ HB4.out
              go_wp2_with fail
              refine (HFR.out kk n S T U _ L1.out L2.out L3.out).mono ?_
              rintro e w5 ⟨rfl, hb5⟩
              rw [HGJ.out]
              have HB5 : Hid (Below w.heap.size w w5) := HB4.out.trans (hb5.mono hs4)
              have HZ5 : Hid (Below W3.heap.size W3 w5) := HZ4.out.trans (hb5.mono hz4)
              obtain ⟨gg, rfl, y0⟩ := HSD.out _ HZ5.out m hlt
              clear hb5 x0 x1 x2 x3 x4
              go_wp2
              go_roundw
              case rel => exact ⟨m + 1, by omega, by go_num, HB5.out, HZ5.out⟩
              case measure => simp [intOf]; omega
            · go_wp2
              go_ret
              exact ⟨rfl, HBY.out⟩

end Go.Proofs.YtenbnmbbfeekpabGreatDoor
