import Derived.Test.YtenbnmbbfeekpabGreatDoorXF0
import Derived.Test.YtenbnmbbfeekpabGreatDoorXO0

namespace Go.Proofs.YtenbnmbbfeekpabGreatDoor
open Go.RowKit

set_option maxHeartbeats 1600000 in
set_option maxRecDepth 100000 in
theorem doc_leastAbove (v : Value) (l : List (List UInt8)) (fl : ByteArray) (w : World) (hl : l.length ≤ 2000) (hst : StAt w v l) :
    Calls Tryz.prog 137 #[v, .string fl] w fun e w' => e = .returned (strV (sel l fl.data.toList)) ∧ w' = w := by
  obtain ⟨F, rfl⟩ : ∃ F, fl = bs F := ⟨fl.data.toList, rfl⟩
  rw [bs_list]
  obtain ⟨ao, cap, rfl, hcell⟩ : ∃ ao cap, v = .slice ao l.length cap ∧ ∀ j (h : j < l.length), ∃ g, ao = some ⟨g, 0, none⟩ ∧ w.cell? ⟨g, j, none⟩ = some (.string (bs l[j])) := by
    rcases hst.cells with ⟨rfl, rfl⟩ | ⟨g, cap, rfl, _, hx⟩
    · exact ⟨none, 0, rfl, fun j h => by simp at h⟩
    · exact ⟨_, _, rfl, fun j h => ⟨g, rfl, hx j _ (List.getElem?_eq_getElem h)⟩⟩
  have HC : Hid _ := hcell
  clear hcell hst
  go_enter Tryz.func137, Tryz.ntmps137
  go_wp2
  go_loop [5, 10] (fun m i => ∃ k : Nat, k ≤ l.length ∧ i = .int .i64 k ∧ m = .string (bs (sel (l.take k) F))) (fun _ i => l.length - (intOf i).toNat)
  case atStart => exact ⟨0, by omega, rfl, rfl⟩
  case round =>
    obtain ⟨k, hk, rfl, rfl⟩ := hrel
    by_cases hlt : k < l.length
    · obtain ⟨g, rfl, x⟩ := HC.out k hlt
      have HS : Hid (sel (l.take (k + 1)) F = selStep F (sel (l.take k) F) l[k]) := by show _ = _; rw [List.take_succ_eq_append_getElem hlt, sel_snoc]
      clear HC
      generalize sel (l.take k) F = L at *
      generalize hX : l[k] = X at *
      clear hX
      have HT : Hid (selStep F L X = if (!(Op.bytesLess (bs X).toList (bs F).toList || (bs X).toList == (bs F).toList)) && ((bs L).toList.isEmpty || Op.bytesLess (bs X).toList (bs L).toList) then X else L) := by
        show _ = _; rw [tl, tl, tl]; rfl
      rcases h1 : Op.bytesLess (bs X).toList (bs F).toList with _ | _
      · rcases h2 : ((bs X).toList == (bs F).toList) with _ | _
        · rcases h3 : (bs L).toList.isEmpty with _ | _
          · rcases h4 : Op.bytesLess (bs X).toList (bs L).toList with _ | _
            · have HE : Hid (sel (l.take (k + 1)) F = L) := by show _ = _; rw [HS.out, HT.out, h1, h2, h3, h4]; rfl
              clear HS HT
              go_wp2
              go_round
              case rel => exact ⟨k + 1, by omega, by go_num, by rw [HE.out]⟩
              case measure => simp [intOf]; omega
            · have HE : Hid (sel (l.take (k + 1)) F = X) := by show _ = _; rw [HS.out, HT.out, h1, h2, h3, h4]; rfl
              clear HS HT
              go_wp2
              go_round
              case rel => exact ⟨k + 1, by omega, by go_num, by rw [HE.out]⟩
              case measure => simp [intOf]; omega
          · have HE : Hid (sel (l.take (k + 1)) F = X) := by show _ = _; rw [HS.out, HT.out, h1, h2, h3]; rfl
            clear HS HT
            go_wp2
            go_round
            case rel => exact ⟨k + 1, by omega, by go_num, by rw [HE.out]⟩
            case measure => simp [intOf]; omega
        · have HE : Hid (sel (l.take (k + 1)) F = L) := by show _ = _; rw [HS.out, HT.out, h1, h2]; rfl
          clear HS HT
          go_wp2
          go_round
          case rel => exact ⟨k + 1, by omega, by go_num, by rw [HE.out]⟩
          case measure => simp [intOf]; omega
      · have HE : Hid (sel (l.take (k + 1)) F = L) := by show _ = _; rw [HS.out, HT.out, h1]; rfl
        clear HS HT
        go_wp2
        go_round
        case rel => exact ⟨k + 1, by omega, by go_num, by rw [HE.out]⟩
        case measure => simp [intOf]; omega
    · have HE : Hid (sel (l.take k) F = sel l F) := by show _ = _; rw [List.take_of_length_le (by omega)]
      clear HC
      go_wp2
      go_ret
      exact ⟨ret_str (by rw [HE.out]), rfl⟩

end Go.Proofs.YtenbnmbbfeekpabGreatDoor

namespace Go.Proofs.YtenbnmbbfeekpabGreatDoor
open Go.RowKit

set_option maxHeartbeats 1600000 in
set_option maxRecDepth 100000 in
theorem doc_inOrder (v : Value) (l : List (List UInt8)) (sp : ByteArray) (w : World) (hl : l.length ≤ 2000) (hM : ∀ a ∈ l, a.length ≤ 3000000) (hsp : sp.size ≤ 10) (hst : StAt w v l) :
    Calls Tryz.prog 99 #[v, .string sp] w fun e w' => e = .returned (strV (ordT sp.data.toList l)) ∧ w' = w := by
  obtain ⟨S, rfl⟩ : ∃ S, sp = bs S := ⟨sp.data.toList, rfl⟩
  rw [bs_list]
  obtain ⟨ao, cap, rfl⟩ : ∃ ao cap, v = .slice ao l.length cap := by
    rcases hst.cells with ⟨rfl, rfl⟩ | ⟨g, cap, rfl, _, _⟩
    · exact ⟨none, 0, rfl⟩
    · exact ⟨_, _, rfl⟩
  have HC : Hid (StAt w (.slice ao l.length cap) l) := hst
  have HM : Hid (∀ a ∈ l, a.length ≤ 3000000) := hM
  clear hst hM
  go_enter Tryz.func99, Tryz.ntmps99
  go_wp2
  go_loop [5, 6, 10] (fun t m i => ∃ (k : Nat) (T L : List UInt8), k ≤ l.length ∧ i = .int .i64 k ∧ t = .string (bs T) ∧ m = .string (bs L) ∧ (bs T).size ≤ k * 3000010 ∧ Hid (ordT S l = ordGo S l (l.length - k) T L)) (fun _ _ i => l.length - (intOf i).toNat)
  case atStart => exact ⟨0, [], [], by omega, rfl, rfl, rfl, by decide, rfl⟩
  case round =>
    obtain ⟨k, T, L, hk, rfl, rfl, rfl, hTs, HO⟩ := hrel
    by_cases hlt : k < l.length
    · have HD : Hid (ordT S l = if (sel l L).isEmpty then T else ordGo S l (l.length - (k + 1)) (T ++ (if L.isEmpty then [] else S) ++ sel l L) (sel l L)) := by
        show _ = _; rw [HO.out, show l.length - k = (l.length - (k + 1)) + 1 by omega, ordGo]
      clear HO
      have hsel : (bs (sel l L)).size ≤ 3000000 := by
        rw [bs_size]
        rcases sel_mem L l [] with h | h
        · show (sel l L).length ≤ _; unfold sel; rw [h]; simp
        · exact HM.out _ h
      go_wp2_with fail
      refine (doc_leastAbove _ l (bs L) _ hl HC.out).mono ?_
      rintro e w1 ⟨rfl, rfl⟩
      rw [bs_list]
      unfold strV
      rcases h1 : (bs (sel l L)).toList.isEmpty with _ | _
      · rcases h2 : (bs L).toList.isEmpty with _ | _
        · have HE : Hid (ordT S l = ordGo S l (l.length - (k + 1)) (T ++ S ++ sel l L) (sel l L)) := by
            show _ = _; rw [tl] at h1 h2; rw [HD.out, h1, h2]; rfl
          clear HD
          go_wp2
          go_round
          case rel => exact ⟨k + 1, T ++ S ++ sel l L, sel l L, by omega, by go_num, by rw [bs_app, bs_app], rfl, by rw [bs_size] at hTs hsp hsel ⊢; simp only [List.length_append]; omega, HE⟩
          case measure => simp [intOf]; omega
        · have HE : Hid (ordT S l = ordGo S l (l.length - (k + 1)) (T ++ sel l L) (sel l L)) := by
            show _ = _; rw [tl] at h1 h2; rw [HD.out, h1, h2]; simp
          clear HD
          go_wp2
          go_round
          case rel => exact ⟨k + 1, T ++ sel l L, sel l L, by omega, by go_num, by rw [bs_app], rfl, by rw [bs_size] at hTs hsp hsel ⊢; simp only [List.length_append]; omega, HE⟩
          case measure => simp [intOf]; omega
      · have HE : Hid (ordT S l = T) := by show _ = _; rw [tl] at h1; rw [HD.out, h1]; rfl
        clear HD
        go_wp2
        go_ret
        exact ⟨ret_str (by rw [HE.out]), rfl⟩
    · have HE : Hid (ordT S l = T) := by show _ = _; rw [HO.out, show l.length - k = 0 by omega]; rfl
      go_wp2
      go_ret
      exact ⟨ret_str (by rw [HE.out]), rfl⟩

end Go.Proofs.YtenbnmbbfeekpabGreatDoor

namespace Go.Proofs.YtenbnmbbfeekpabGreatDoor
open Go.RowKit

set_option maxHeartbeats 400000 in
theorem doc_markText (m : Nat) (hm : m ≤ 3) (w : World) : Calls Tryz.prog 134 #[.int .i64 m] w fun e w' => e = .returned (strV (mkT m)) ∧ w' = w := by
  rcases (by omega : m = 0 ∨ m = 1 ∨ m = 2 ∨ m = 3) with rfl | rfl | rfl | rfl
  all_goals
    go_enter Tryz.func134, Tryz.ntmps134
    go_wp2
    go_ret
    exact ⟨rfl, rfl⟩

set_option maxHeartbeats 400000 in
set_option maxRecDepth 100000 in
theorem doc_constraintText (c : Cn) (hc : CnOk c) (w : World) : Calls Tryz.prog 138 #[cnVal c] w fun e w' => e = .returned (strV (cnT c)) ∧ Below w.heap.size w w' := by
  obtain ⟨n, sg, v⟩ := c
  have hn := nm_lt hc.n
  unfold cnVal
  simp only at hn ⊢
  rcases hc.sv with ⟨h0, h1⟩ | ⟨h0, h1⟩
  · simp only at h0 h1
    subst h0 h1
    have HT : Hid (cnT { n := n, s := 0, v := 0 } = [b8 n]) := rfl
    have hcv := conv1 (w.alloc (.cells #[.int .u8 n, .int .u8 0, .int .u8 0] 185)) n hn
    rw [World.size_alloc] at hcv
    clear hc
    go_enter Tryz.func138, Tryz.ntmps138
    go_wp2
    go_ret
    exact ⟨ret_str (by rw [HT.out]), ((Below.refl _ _).alloc (Nat.le_refl _) _).alloc (by simp) _⟩
  · obtain ⟨hs, hs0⟩ := sg_lt h0
    have hv := vr_lt h1
    simp only at hs hs0 hv
    have HT : Hid (cnT { n := n, s := sg, v := v } = [b8 n, b8 sg, b8 v]) := by show _ = _; unfold cnT; rw [if_neg hs0]
    have hz : ((sg : Int) == 0) = false := by rw [beq_eq_false_iff_ne]; omega
    have hcv := conv3 (w.alloc (.cells #[.int .u8 n, .int .u8 sg, .int .u8 v] 185)) n sg v hn hs hv
    rw [World.size_alloc] at hcv
    clear hc h0 h1
    go_enter Tryz.func138, Tryz.ntmps138
    go_wp2
    go_ret
    exact ⟨ret_str (by rw [HT.out]), ((Below.refl _ _).alloc (Nat.le_refl _) _).alloc (by simp) _⟩

end Go.Proofs.YtenbnmbbfeekpabGreatDoor

namespace Go.Proofs.YtenbnmbbfeekpabGreatDoor
open Go.RowKit

set_option maxHeartbeats 1600000 in
set_option maxRecDepth 100000 in
theorem doc_constraintsText (B : Nat) (v : Value) (l : List Cn) (sp : ByteArray) (w : World) (hl : l.length ≤ 801) (hok : ∀ c ∈ l, CnOk c) (hsp : sp.size ≤ 10) (hcs : CsAt B w v l) :
    Calls Tryz.prog 100 #[v, .string sp] w fun e w' => e = .returned (strV (ordT sp.data.toList (l.map cnT))) ∧ Below w.heap.size w w' := by
  obtain ⟨i0, hi, hz0, hz1, hz2⟩ := info_parts Tryz.infoStr
  obtain ⟨ao, cap, rfl, hcell⟩ : ∃ ao cap, v = .slice ao l.length cap ∧ ∀ j (h : j < l.length), ∃ g, ao = some ⟨g, 0, none⟩ ∧ g < w.heap.size ∧ w.cell? ⟨g, j * 3, none⟩ = some (.int .u8 l[j].n) ∧ w.cell? ⟨g, j * 3 + 1, none⟩ = some (.int .u8 l[j].s) ∧ w.cell? ⟨g, j * 3 + 2, none⟩ = some (.int .u8 l[j].v) := by
    rcases cs_row hcs with ⟨rfl, rfl⟩ | ⟨g, cap, rfl, hg, hx⟩
    · exact ⟨none, 0, rfl, fun j h => by simp at h⟩
    · exact ⟨_, _, rfl, fun j h => ⟨g, rfl, hg, hx j h⟩⟩
  have HC : Hid _ := hcell
  have HOK : Hid (∀ c ∈ l, CnOk c) := hok
  clear hcell hcs hok
  go_enter Tryz.func100, Tryz.ntmps100
  go_wp2
  go_loopw [5, 11] (fun o i wr => ∃ k : Nat, k ≤ l.length ∧ i = .int .i64 k ∧ wr.ownsRow w.heap.size 9 1 o k ((l.map fun c => strV (cnT c)).take k) ∧ Below w.heap.size w wr) (fun _ i _ => l.length - (intOf i).toNat)
  case atStart => exact ⟨0, by omega, rfl, World.ownsRow_nil _ _ _ _, Below.refl _ _⟩
  case round =>
    obtain ⟨k, hk, rfl, hown, hb⟩ := hrel
    have hbs := hb.size
    by_cases hlt : k < l.length
    · obtain ⟨g, rfl, hg, x0, x1, x2⟩ := HC.out k hlt
      rw [← hb.cell (p := ⟨g, _, none⟩) hg] at x0 x1 x2
      have hc : CnOk l[k] := HOK.out _ (List.getElem_mem _)
      have HS : Hid ((l.map (fun c => strV (cnT c))).take (k + 1) = (l.map (fun c => strV (cnT c))).take k ++ [strV (cnT l[k])]) := by show _ = _; rw [List.take_succ_eq_append_getElem (by simpa using hlt), List.getElem_map]
      generalize l[k] = c at *
      have HO : Hid _ := hown
      have HCC : Hid (CnOk c) := hc
      clear hc
      go_wp2_with fail
      refine (doc_constraintText c HCC.out _).mono ?_
      rintro e w1 ⟨rfl, hb1⟩
      have hb1' : Below wr.heap.size wr w1 := ((Below.refl _ _).alloc (Nat.le_refl _) _).trans (hb1.mono (by simp))
      have hown1 := World.ownsRow.kept (row := none) hown ⟨hb1'.os, hb1'.tape, hb1'.output, hb1'.size, fun k hk _ => hb1'.block k hk⟩ (by rcases Value.ownBlock _ with _ | k <;> simp)
      have hs1 := hb1'.size
      have HB1 : Hid (Below w.heap.size w w1) := hb.trans (hb1'.mono hbs)
      unfold strV at *
      clear hb1 hb1' HO hown
      go_wp2_with (at_builtin; refine wpList_append_own _ rfl _ _ 36 rfl w.heap.size 9 i0 (.string ByteArray.empty) 1 16 Tryz.underlying36 hi hz0 hz1 hz2 rfl (by decide) _ _ _ rfl (hown1.alloc _) ⟨w1.heap.size, 0, none⟩ 1 1 [.string (bs (cnT c))] rfl rfl ?c1 ?c2 ?c3 ?c4 ?c5 ?_)
      case c1 => exact cell_one_new _ _ _
      case c2 => intro u hu; simp at hu; subst hu; rfl
      case c3 => unfold maxLen; omega
      case c4 => omega
      case c5 => simp; omega
      intro v' w2 hown' hgrow _
      have HB2 : Hid (Below w.heap.size w w2) := (HB1.out.alloc (by omega) _).grown hgrow (by simp; omega) (fun j hj => (hown1.lt j hj).1)
      have HO2 : Hid (w2.ownsRow w.heap.size 9 1 v' (k + 1) ((l.map fun c => Value.string (bs (cnT c))).take (k + 1))) := by show World.ownsRow _ _ _ _ _ _ _; rw [HS.out]; exact hown'
      clear hown' hgrow hown1
      go_wp2
      go_roundw
      case rel => exact ⟨k + 1, by omega, by go_num, HO2.out, HB2.out⟩
      case measure => simp [intOf]; omega
    · have hkl : k = l.length := by omega
      have hst := StAt.ofMap (f := cnT) hown hkl
      have HST : Hid _ := hst
      have HB : Hid (Below w.heap.size w wr) := hb
      clear hst hown hb hkl
      go_wp2_with fail
      refine (doc_inOrder _ (l.map cnT) sp _ (by simp; omega) (fun a ha => by obtain ⟨c, _, rfl⟩ := List.mem_map.1 ha; have := cnT_len c; omega) hsp HST.out).mono ?_
      rintro e w1 ⟨rfl, rfl⟩
      go_wp2
      go_ret
      exact ⟨rfl, HB.out⟩

set_option maxHeartbeats 1600000 in
set_option maxRecDepth 100000 in
theorem doc_needsText (B : Nat) (v : Value) (l : List (List Cn)) (w : World) (hl : l.length ≤ 801) (hl2 : ∀ n ∈ l, n.length ≤ 801) (hok : ∀ n ∈ l, NdOk n) (hns : NsAt B w v l) :
    Calls Tryz.prog 135 #[v] w fun e w' => e = .returned (strV (ordT [44] (l.map ndS))) ∧ Below w.heap.size w w' := by
  obtain ⟨i0, hi, hz0, hz1, hz2⟩ := info_parts Tryz.infoStr
  obtain ⟨ao, cap, rfl, hcell⟩ : ∃ ao cap, v = .slice ao l.length cap ∧ ∀ j (h : j < l.length), ∃ g, ao = some ⟨g, 0, none⟩ ∧ g < w.heap.size ∧ ∃ a n c, w.cell? ⟨g, j, none⟩ = some (.slice a n c) ∧ CsAt B w (.slice a n c) l[j] := by
    rcases ns_row hns with ⟨rfl, rfl⟩ | ⟨g, cap, rfl, hg, hx⟩
    · exact ⟨none, 0, rfl, fun j h => by simp at h⟩
    · exact ⟨_, _, rfl, fun j h => ⟨g, rfl, hg, hx j h⟩⟩
  have HC : Hid _ := hcell
  have HOK : Hid (∀ n ∈ l, NdOk n) := hok
  have HL2 : Hid (∀ n ∈ l, n.length ≤ 801) := hl2
  clear hcell hns hok hl2
  go_enter Tryz.func135, Tryz.ntmps135
  go_wp2
  go_loopw [3, 9] (fun o i wr => ∃ k : Nat, k ≤ l.length ∧ i = .int .i64 k ∧ wr.ownsRow w.heap.size 9 1 o k ((l.map fun c => strV (ndS c)).take k) ∧ Below w.heap.size w wr) (fun _ i _ => l.length - (intOf i).toNat)
  case atStart => exact ⟨0, by omega, rfl, World.ownsRow_nil _ _ _ _, Below.refl _ _⟩
  case round =>
    obtain ⟨k, hk, rfl, hown, hb⟩ := hrel
    have hbs := hb.size
    by_cases hlt : k < l.length
    · obtain ⟨g, rfl, hg, a, n, c, x0, hcs⟩ := HC.out k hlt
      rw [← hb.cell (p := ⟨g, _, none⟩) hg] at x0
      have hcs' : CsAt B wr (.slice a n c) l[k] := own_below' hcs hb
      have hc : NdOk l[k] := HOK.out _ (List.getElem_mem _)
      have hcl : l[k].length ≤ 801 := HL2.out _ (List.getElem_mem _)
      have HS : Hid ((l.map (fun c => strV (ndS c))).take (k + 1) = (l.map (fun c => strV (ndS c))).take k ++ [strV (ndS l[k])]) := by show _ = _; rw [List.take_succ_eq_append_getElem (by simpa using hlt), List.getElem_map]
      generalize l[k] = N at *
      have HCS : Hid (CsAt B wr (.slice a n c) N) := hcs'
      have HCC : Hid (NdOk N) := hc
      clear hc hcs hcs'
      go_wp2_with fail
      refine (doc_constraintsText B (.slice a n c) N (bs [124]) _ hcl HCC.out.2 (by decide) (HCS.out.alloc _)).mono ?_
      rintro e w1 ⟨rfl, hb1⟩
      rw [bs_list]
      have hb1' : Below wr.heap.size wr w1 := ((Below.refl _ _).alloc (Nat.le_refl _) _).trans (hb1.mono (by simp))
      have hown1 := World.ownsRow.kept (row := none) hown ⟨hb1'.os, hb1'.tape, hb1'.output, hb1'.size, fun k hk _ => hb1'.block k hk⟩ (by rcases Value.ownBlock _ with _ | k <;> simp)
      have hs1 := hb1'.size
      have HB1 : Hid (Below w.heap.size w w1) := hb.trans (hb1'.mono hbs)
      rw [show ordT [124] (N.map cnT) = ndS N from rfl]
      unfold strV at *
      clear hb1 hb1' hown HCS
      go_wp2_with (at_builtin; refine wpList_append_own _ rfl _ _ 36 rfl w.heap.size 9 i0 (.string ByteArray.empty) 1 16 Tryz.underlying36 hi hz0 hz1 hz2 rfl (by decide) _ _ _ rfl (hown1.alloc _) ⟨w1.heap.size, 0, none⟩ 1 1 [.string (bs (ndS N))] rfl rfl ?c1 ?c2 ?c3 ?c4 ?c5 ?_)
      case c1 => exact cell_one_new _ _ _
      case c2 => intro u hu; simp at hu; subst hu; rfl
      case c3 => unfold maxLen; omega
      case c4 => omega
      case c5 => simp; omega
      intro v' w2 hown' hgrow _
      have HB2 : Hid (Below w.heap.size w w2) := (HB1.out.alloc (by omega) _).grown hgrow (by simp; omega) (fun j hj => (hown1.lt j hj).1)
      have HO2 : Hid (w2.ownsRow w.heap.size 9 1 v' (k + 1) ((l.map fun c => Value.string (bs (ndS c))).take (k + 1))) := by show World.ownsRow _ _ _ _ _ _ _; rw [HS.out]; exact hown'
      clear hown' hgrow hown1
      go_wp2
      go_roundw
      case rel => exact ⟨k + 1, by omega, by go_num, HO2.out, HB2.out⟩
      case measure => simp [intOf]; omega
    · have hkl : k = l.length := by omega
      have hst := StAt.ofMap (f := ndS) hown hkl
      have HST : Hid _ := hst
      have HB : Hid (Below w.heap.size w wr) := hb
      clear hst hown hb hkl
      go_wp2_with fail
      refine (doc_inOrder _ (l.map ndS) (bs [44]) _ (by simp; omega) (fun a ha => by obtain ⟨c, hc, rfl⟩ := List.mem_map.1 ha; have := ndS_len c (HL2.out c hc); omega) (by decide) HST.out).mono ?_
      rintro e w1 ⟨rfl, rfl⟩
      rw [bs_list]
      go_wp2
      go_ret
      exact ⟨rfl, HB.out⟩

set_option maxHeartbeats 1600000 in
set_option maxRecDepth 100000 in
theorem doc_namesText (B : Nat) (v : Value) (l : List Nat) (w : World) (hl : l.length ≤ 801) (hok : ∀ n ∈ l, nmB (n : Nat) = true) (hns : BsAt B w v l) :
    Calls Tryz.prog 136 #[v] w fun e w' => e = .returned (strV (ordT [44] (l.map fun c => [b8 c]))) ∧ Below w.heap.size w w' := by
  obtain ⟨i0, hi, hz0, hz1, hz2⟩ := info_parts Tryz.infoStr
  obtain ⟨ao, cap, rfl, hcell⟩ : ∃ ao cap, v = .slice ao l.length cap ∧ ∀ j (h : j < l.length), ∃ g, ao = some ⟨g, 0, none⟩ ∧ g < w.heap.size ∧ w.cell? ⟨g, j, none⟩ = some (.int .u8 (l[j] : Int)) := by
    rcases bs_row hns with ⟨rfl, rfl⟩ | ⟨g, cap, rfl, hg, hx⟩
    · exact ⟨none, 0, rfl, fun j h => by simp at h⟩
    · exact ⟨_, _, rfl, fun j h => ⟨g, rfl, hg, hx j h⟩⟩
  have HC : Hid _ := hcell
  have HOK : Hid (∀ n ∈ l, nmB (n : Nat) = true) := hok
  clear hcell hns hok
  go_enter Tryz.func136, Tryz.ntmps136
  go_wp2
  go_loopw [3, 8] (fun o i wr => ∃ k : Nat, k ≤ l.length ∧ i = .int .i64 k ∧ wr.ownsRow w.heap.size 9 1 o k ((l.map fun (c : Nat) => strV [b8 c]).take k) ∧ Below w.heap.size w wr) (fun _ i _ => l.length - (intOf i).toNat)
  case atStart => exact ⟨0, by omega, rfl, World.ownsRow_nil _ _ _ _, Below.refl _ _⟩
  case round =>
    obtain ⟨k, hk, rfl, hown, hb⟩ := hrel
    have hbs := hb.size
    by_cases hlt : k < l.length
    · obtain ⟨g, rfl, hg, x0⟩ := HC.out k hlt
      rw [← hb.cell (p := ⟨g, _, none⟩) hg] at x0
      have hn : l[k] < 256 := nm_lt (HOK.out _ (List.getElem_mem _))
      have HS : Hid ((l.map (fun (c : Nat) => strV [b8 c])).take (k + 1) = (l.map (fun (c : Nat) => strV [b8 c])).take k ++ [strV [b8 l[k]]]) := by show _ = _; rw [List.take_succ_eq_append_getElem (by simpa using hlt), List.getElem_map]
      generalize l[k] = N at *
      have hcv := conv1 wr N hn
      have hown1 := hown.alloc (.cells #[.int .u8 N] 5)
      unfold strV at *
      go_wp2_with (at_builtin; refine wpList_append_own _ rfl _ _ 36 rfl w.heap.size 9 i0 (.string ByteArray.empty) 1 16 Tryz.underlying36 hi hz0 hz1 hz2 rfl (by decide) _ _ _ rfl (hown1.alloc _) ⟨wr.heap.size + 1, 0, none⟩ 1 1 [.string (bs [b8 N])] rfl rfl ?c1 ?c2 ?c3 ?c4 ?c5 ?_)
      case c1 => have := cell_one_new (wr.alloc (.cells #[.int .u8 N] 5)) (.string (bs [b8 N])) 9; rwa [World.size_alloc] at this
      case c2 => intro u hu; simp at hu; subst hu; rfl
      case c3 => unfold maxLen; omega
      case c4 => omega
      case c5 => simp; omega
      intro v' w2 hown' hgrow _
      have HB2 : Hid (Below w.heap.size w w2) := ((hb.alloc hbs _).alloc (by simp; omega) _).grown hgrow (by simp; omega) (fun j hj => (hown1.lt j hj).1)
      have HO2 : Hid (w2.ownsRow w.heap.size 9 1 v' (k + 1) ((l.map fun (c : Nat) => Value.string (bs [b8 c])).take (k + 1))) := by show World.ownsRow _ _ _ _ _ _ _; rw [HS.out]; exact hown'
      clear hown' hgrow hown1 hown hb
      go_wp2
      go_roundw
      case rel => exact ⟨k + 1, by omega, by go_num, HO2.out, HB2.out⟩
      case measure => simp [intOf]; omega
    · have hkl : k = l.length := by omega
      have hst := StAt.ofMap (f := fun (c : Nat) => [b8 c]) hown hkl
      have HST : Hid _ := hst
      have HB : Hid (Below w.heap.size w wr) := hb
      clear hst hown hb hkl
      go_wp2_with fail
      refine (doc_inOrder _ (l.map fun c => [b8 c]) (bs [44]) _ (by simp; omega) (fun a ha => by obtain ⟨c, hc, rfl⟩ := List.mem_map.1 ha; simp) (by decide) HST.out).mono ?_
      rintro e w1 ⟨rfl, rfl⟩
      rw [bs_list]
      go_wp2
      go_ret
      exact ⟨rfl, HB.out⟩

end Go.Proofs.YtenbnmbbfeekpabGreatDoor

namespace Go.Proofs.YtenbnmbbfeekpabGreatDoor
open Go.RowKit

set_option maxHeartbeats 1600000 in
set_option maxRecDepth 100000 in
theorem doc_packText (B : Nat) (p : Pk) (an : Option Addr) (nn cn : Nat) (ac : Option Addr) (nc cc : Nat) (ap : Option Addr) (np cp : Nat) (w : World) (hsm : PkSm p) (hok : PkOk p) (hp : PkAt B w p (.slice an nn cn) (.slice ac nc cc) (.slice ap np cp)) :
    Calls Tryz.prog 98 #[.agg #[.int .u8 p.n, .int .u8 p.v, .int .i64 p.m, .slice an nn cn, .slice ac nc cc, .slice ap np cp]] w fun e w' => e = .returned (strV (pkS p)) ∧ Below w.heap.size w w' := by
  have hn := nm_lt hok.n
  have hv := vr_lt hok.v
  have hcv := conv2 (w.alloc (.cells #[.int .u8 p.n, .int .u8 p.v, .int .i64 p.m, .slice an nn cn, .slice ac nc cc, .slice ap np cp] 140)) p.n p.v hn hv
  rw [World.size_alloc] at hcv
  have HP : Hid (PkAt B w p (.slice an nn cn) (.slice ac nc cc) (.slice ap np cp)) := hp
  have HOK : Hid (PkOk p) := hok
  have HSM : Hid (PkSm p) := hsm
  clear hp hok hsm
  go_enter Tryz.func98, Tryz.ntmps98
  go_wp2_with fail
  refine (doc_markText p.m HOK.out.m _).mono ?_
  rintro e w1 ⟨rfl, rfl⟩
  have hbx : Below w.heap.size w ((w.alloc (.cells #[.int .u8 p.n, .int .u8 p.v, .int .i64 p.m, .slice an nn cn, .slice ac nc cc, .slice ap np cp] 140)).alloc (.cells #[.int .u8 p.n, .int .u8 p.v] 5)) := ((Below.refl _ _).alloc (Nat.le_refl _) _).alloc (by simp) _
  have HBX : Hid _ := hbx
  clear hbx
  go_wp2_with fail
  refine (doc_needsText B (.slice an nn cn) p.needs _ HSM.out.needs HSM.out.need HOK.out.needs (HP.out.1.kp ((Kp.refl _ _).below HBX.out))).mono ?_
  rintro e w2 ⟨rfl, hb2⟩
  have hblk := blk_below hb2 (blk_old (blk_new w (.cells #[.int .u8 p.n, .int .u8 p.v, .int .i64 p.m, .slice an nn cn, .slice ac nc cc, .slice ap np cp] 140)) (.cells #[.int .u8 p.n, .int .u8 p.v] 5)) (by simp; omega)
  have HB2 : Hid (Below w.heap.size w w2) := HBX.out.trans (hb2.mono (by simp; omega))
  have HBK2 : Hid _ := hblk
  have x4 : w2.cell? ⟨w.heap.size, 4, none⟩ = some (.slice ac nc cc) := by rw [cellAt hblk]; rfl
  clear hb2 hblk hcv HBX
  go_wp2_with fail
  refine (doc_constraintsText B (.slice ac nc cc) p.conf (bs [44]) _ HSM.out.conf HOK.out.conf (by decide) (HP.out.2.1.kp ((Kp.refl _ _).below HB2.out))).mono ?_
  rintro e w3 ⟨rfl, hb3⟩
  rw [bs_list]
  have hblk := blk_below hb3 HBK2.out (ltAt HBK2.out)
  have HB3 : Hid (Below w.heap.size w w3) := HB2.out.trans (hb3.mono HB2.out.size)
  have x5 : w3.cell? ⟨w.heap.size, 5, none⟩ = some (.slice ap np cp) := by rw [cellAt hblk]; rfl
  clear hb3 hblk HBK2 HB2 x4
  go_wp2_with fail
  refine (doc_namesText B (.slice ap np cp) p.prov _ HSM.out.prov HOK.out.prov (HP.out.2.2.kp ((Kp.refl _ _).below HB3.out))).mono ?_
  rintro e w4 ⟨rfl, hb4⟩
  have HB4 : Hid (Below w.heap.size w w4) := HB3.out.trans (hb4.mono HB3.out.size)
  clear hb4 HB3 x5
  have HE : Hid (bs (pkS p) = bs [b8 p.n, b8 p.v] ++ bs (mkT p.m) ++ bs [58] ++ bs (ordT [44] (p.needs.map ndS)) ++ bs [58] ++ bs (ordT [44] (p.conf.map cnT)) ++ bs [58] ++ bs (ordT [44] (p.prov.map fun c => [b8 c])) ++ bs [59]) := by
    show _ = _; simp only [bs_app]; rfl
  have s1 : (bs (mkT p.m)).size ≤ 2 := by rw [bs_size]; exact mkT_len _
  have s2 : (bs (ordT [44] (p.needs.map ndS))).size ≤ 2600000 := by rw [bs_size]; exact nsS_len _ HSM.out.needs HSM.out.need
  have s3 : (bs (ordT [44] (p.conf.map cnT))).size ≤ 4000 := by rw [bs_size]; exact csS_len _ HSM.out.conf
  have s4 : (bs (ordT [44] (p.prov.map fun c => [b8 c]))).size ≤ 2000 := by rw [bs_size]; exact nmS_len _ HSM.out.prov
  have s0 : (bs [b8 p.n, b8 p.v]).size ≤ 2 := by rw [bs_size]; simp
  unfold strV
  generalize bs (mkT p.m) = M at *
  generalize bs (ordT [44] (p.needs.map ndS)) = N at *
  generalize bs (ordT [44] (p.conf.map cnT)) = C at *
  generalize bs (ordT [44] (p.prov.map fun c => [b8 c])) = Q at *
  generalize bs [b8 p.n, b8 p.v] = I at *
  go_wp2
  go_ret
  exact ⟨ret_str (by rw [HE.out]; rfl), HB4.out⟩

set_option maxHeartbeats 1600000 in
set_option maxRecDepth 100000 in
theorem doc_Show (B : Nat) (d : Dc) (ap : Option Addr) (np cp : Nat) (ai : Option Addr) (ni ci : Nat) (ar : Option Addr) (nr cr : Nat) (au : Option Addr) (nu cu : Nat) (w : World) (hsm : DcSm d) (hok : DcOk d) (hd : DcAt B w d (.slice ap np cp) (.slice ai ni ci) (.slice ar nr cr) (.slice au nu cu)) :
    Calls Tryz.prog 57 #[.agg #[.slice ap np cp, .slice ai ni ci, .slice ar nr cr, .slice au nu cu]] w fun e w' => e = .returned (strV (dcS d)) ∧ Below w.heap.size w w' := by
  obtain ⟨i0, hi, hz0, hz1, hz2⟩ := info_parts Tryz.infoStr
  have hnp : np = d.packs.length := by
    rcases pks_row2 hd.1 with ⟨h, h0⟩ | ⟨g, cap, h, _⟩
    · injection h with _ h _; rw [h0]; exact h
    · injection h with _ h _
  subst hnp
  have hrow : ∀ j (h : j < d.packs.length), ∃ g, ap = some ⟨g, 0, none⟩ ∧ g < w.heap.size ∧ ∃ an nn cn ac nc cc ap np cp, (w.cell? ⟨g, j * 6, none⟩ = some (.int .u8 d.packs[j].n) ∧ w.cell? ⟨g, j * 6 + 1, none⟩ = some (.int .u8 d.packs[j].v) ∧ w.cell? ⟨g, j * 6 + 2, none⟩ = some (.int .i64 d.packs[j].m) ∧
    w.cell? ⟨g, j * 6 + 3, none⟩ = some (.slice an nn cn) ∧ w.cell? ⟨g, j * 6 + 4, none⟩ = some (.slice ac nc cc) ∧ w.cell? ⟨g, j * 6 + 5, none⟩ = some (.slice ap np cp)) ∧ PkAt B w d.packs[j] (.slice an nn cn) (.slice ac nc cc) (.slice ap np cp) := by
    intro j hj
    rcases pks_row2 hd.1 with ⟨_, h0⟩ | ⟨g, cap, h, hg, hx⟩
    · rw [h0] at hj; simp at hj
    · injection h with h _ _
      exact ⟨g, h, hg, hx j hj⟩
  have HR : Hid _ := hrow
  have HD : Hid (DcAt B w d (.slice ap d.packs.length cp) (.slice ai ni ci) (.slice ar nr cr) (.slice au nu cu)) := hd
  have HOK : Hid (DcOk d) := hok
  have HSM : Hid (DcSm d) := hsm
  have hpl := hsm.packs
  clear hrow hd hok hsm
  generalize hps : d.packs = ps at *
  have HPS : Hid (d.packs = ps) := hps
  clear hps
  go_enter Tryz.func57, Tryz.ntmps57
  go_wp2
  go_loopw [3, 14] (fun o i wr => ∃ k : Nat, k ≤ ps.length ∧ i = .int .i64 k ∧ wr.ownsRow (w.heap.size + 1) 9 1 o k ((ps.map fun c => strV (pkS c)).take k) ∧ Below w.heap.size w wr ∧ wr.heap[w.heap.size]? = some (.cells #[.slice ap ps.length cp, .slice ai ni ci, .slice ar nr cr, .slice au nu cu] 63 (0, 0))) (fun _ i _ => ps.length - (intOf i).toNat)
  case atStart => exact ⟨0, by omega, rfl, World.ownsRow_nil _ _ _ _, (Below.refl _ _).alloc (Nat.le_refl _) _, blk_new _ _⟩
  case round =>
    obtain ⟨k, hk, rfl, hown, hb, hblk⟩ := hrel
    have hbs := hb.size
    have hHlt := ltAt hblk
    by_cases hlt : k < ps.length
    · obtain ⟨g, rfl, hg, an, nn, cn, ac, nc, cc, ap', np, cp', ⟨x0, x1, x2, x3, x4, x5⟩, hpk⟩ := HR.out k hlt
      rw [← hb.cell (p := ⟨g, _, none⟩) hg] at x0 x1 x2 x3 x4 x5
      have hpk' : PkAt B wr ps[k] (.slice an nn cn) (.slice ac nc cc) (.slice ap' np cp') := hpk.kp ((Kp.refl _ _).below hb)
      have hpo : PkOk ps[k] := HOK.out.packs _ (by rw [HPS.out]; exact List.getElem_mem _)
      have hps : PkSm ps[k] := HSM.out.pack _ (by rw [HPS.out]; exact List.getElem_mem _)
      have HS : Hid ((ps.map (fun c => strV (pkS c))).take (k + 1) = (ps.map (fun c => strV (pkS c))).take k ++ [strV (pkS ps[k])]) := by show _ = _; rw [List.take_succ_eq_append_getElem (by simpa using hlt), List.getElem_map]
      generalize ps[k] = P at *
      have HPK : Hid (PkAt B wr P (.slice an nn cn) (.slice ac nc cc) (.slice ap' np cp') ∧ PkOk P ∧ PkSm P) := ⟨hpk', hpo, hps⟩
      have HBK : Hid _ := hblk
      clear hpk hpk' hpo hps hblk
      go_wp2_with fail
      refine (doc_packText B P an nn cn ac nc cc ap' np cp' _ HPK.out.2.2 HPK.out.2.1 (HPK.out.1.alloc _)).mono ?_
      rintro e w1 ⟨rfl, hb1⟩
      have hb1' : Below wr.heap.size wr w1 := ((Below.refl _ _).alloc (Nat.le_refl _) _).trans (hb1.mono (by simp))
      have hown1 := World.ownsRow.kept (row := none) hown ⟨hb1'.os, hb1'.tape, hb1'.output, hb1'.size, fun k hk _ => hb1'.block k hk⟩ (by rcases Value.ownBlock _ with _ | k <;> simp)
      have hs1 := hb1'.size
      have HB1 : Hid (Below w.heap.size w w1) := hb.trans (hb1'.mono hbs)
      have HBK1 : Hid (w1.heap[w.heap.size]? = _) := blk_below hb1' HBK.out (ltAt HBK.out)
      unfold strV at *
      clear hb1 hb1' hown HPK HBK
      go_wp2_with (at_builtin; refine wpList_append_own _ rfl _ _ 36 rfl (w.heap.size + 1) 9 i0 (.string ByteArray.empty) 1 16 Tryz.underlying36 hi hz0 hz1 hz2 rfl (by decide) _ _ _ rfl (hown1.alloc _) ⟨w1.heap.size, 0, none⟩ 1 1 [.string (bs (pkS P))] rfl rfl ?c1 ?c2 ?c3 ?c4 ?c5 ?_)
      case c1 => exact cell_one_new _ _ _
      case c2 => intro u hu; simp at hu; subst hu; rfl
      case c3 => unfold maxLen; omega
      case c4 => omega
      case c5 => simp; omega
      intro v' w2 hown' hgrow _
      have HB2 : Hid (Below w.heap.size w w2) := (HB1.out.alloc (by omega) _).grown hgrow (by simp; omega) (fun j hj => by have := (hown1.lt j hj).1; omega)
      have HBK2 : Hid (w2.heap[w.heap.size]? = _) := (hgrow.block w.heap.size (by simp; omega) (fun e => by have := (hown1.lt _ e.symm).1; omega)).trans (blk_old HBK1.out _)
      have HO2 : Hid (w2.ownsRow (w.heap.size + 1) 9 1 v' (k + 1) ((ps.map fun c => Value.string (bs (pkS c))).take (k + 1))) := by show World.ownsRow _ _ _ _ _ _ _; rw [HS.out]; exact hown'
      clear hown' hgrow hown1
      go_wp2
      go_roundw
      case rel => exact ⟨k + 1, by omega, by go_num, HO2.out, HB2.out, HBK2.out⟩
      case measure => simp [intOf]; omega
    · have hkl : k = ps.length := by omega
      have hst := StAt.ofMap (f := pkS) hown hkl
      have HST : Hid _ := hst
      have HB : Hid (Below w.heap.size w wr) := hb
      have HBK : Hid _ := hblk
      have HDr : Hid (DcAt B wr d (.slice ap ps.length cp) (.slice ai ni ci) (.slice ar nr cr) (.slice au nu cu)) := HD.out.kp ((Kp.refl _ _).below hb)
      have y1 : wr.cell? ⟨w.heap.size, 1, none⟩ = some (.slice ai ni ci) := by rw [cellAt hblk]; rfl
      clear hst hown hb hkl hblk HD HR
      go_wp2_with fail
      refine (doc_inOrder _ (ps.map pkS) (bs []) _ (by simp; omega) (fun a ha => by obtain ⟨c, hc, rfl⟩ := List.mem_map.1 ha; have := pkS_len c (HSM.out.pack c (by rw [HPS.out]; exact hc)); omega) (by decide) HST.out).mono ?_
      rintro e w1 ⟨rfl, rfl⟩
      rw [bs_list]
      go_wp2_with fail
      refine (doc_constraintsText B (.slice ai ni ci) d.ins (bs [44]) _ HSM.out.ins HOK.out.ins (by decide) HDr.out.2.1).mono ?_
      rintro e w2 ⟨rfl, hb2⟩
      rw [bs_list]
      have hk2 := blk_below hb2 HBK.out (ltAt HBK.out)
      have y2 : w2.cell? ⟨w.heap.size, 2, none⟩ = some (.slice ar nr cr) := by rw [cellAt hk2]; rfl
      have HBK2 : Hid _ := hk2
      have HD2 : Hid (DcAt B w2 d (.slice ap ps.length cp) (.slice ai ni ci) (.slice ar nr cr) (.slice au nu cu)) := HDr.out.kp ((Kp.refl _ _).below hb2)
      have HB2 : Hid (Below w.heap.size w w2) := HB.out.trans (hb2.mono HB.out.size)
      clear hb2 hk2 HBK HDr HB y1 HST
      go_wp2_with fail
      refine (doc_constraintsText B (.slice ar nr cr) d.rem (bs [44]) _ HSM.out.rem HOK.out.rem (by decide) HD2.out.2.2.1).mono ?_
      rintro e w3 ⟨rfl, hb3⟩
      rw [bs_list]
      have hk3 := blk_below hb3 HBK2.out (ltAt HBK2.out)
      have y3 : w3.cell? ⟨w.heap.size, 3, none⟩ = some (.slice au nu cu) := by rw [cellAt hk3]; rfl
      have HD3 : Hid (DcAt B w3 d (.slice ap ps.length cp) (.slice ai ni ci) (.slice ar nr cr) (.slice au nu cu)) := HD2.out.kp ((Kp.refl _ _).below hb3)
      have HB3 : Hid (Below w.heap.size w w3) := HB2.out.trans (hb3.mono HB2.out.size)
      clear hb3 hk3 HBK2 HD2 HB2 y2
      go_wp2_with fail
      refine (doc_constraintsText B (.slice au nu cu) d.upg (bs [44]) _ HSM.out.upg HOK.out.upg (by decide) HD3.out.2.2.2).mono ?_
      rintro e w4 ⟨rfl, hb4⟩
      rw [bs_list]
      have HB4 : Hid (Below w.heap.size w w4) := HB3.out.trans (hb4.mono HB3.out.size)
      clear hb4 HD3 HB3 y3
      have HE : Hid (bs (dcS d) = bs (ordT [] (ps.map pkS)) ++ bs [47] ++ bs (ordT [44] (d.ins.map cnT)) ++ bs [47] ++ bs (ordT [44] (d.rem.map cnT)) ++ bs [47] ++ bs (ordT [44] (d.upg.map cnT))) := by
        show _ = _; rw [← HPS.out]; simp only [bs_app]; rfl
      have s0 : (bs (ordT [] (ps.map pkS))).size ≤ 2162700000 := by
        rw [bs_size]
        have := ordT_len [] (ps.map pkS) 2700000 (fun a ha => by obtain ⟨c, hc, rfl⟩ := List.mem_map.1 ha; exact pkS_len c (HSM.out.pack c (by rw [HPS.out]; exact hc)))
        rw [List.length_map, List.length_nil, Nat.add_zero] at this
        exact Nat.le_trans this (Nat.mul_le_mul_right 2700000 hpl)
      have s1 : (bs (ordT [44] (d.ins.map cnT))).size ≤ 4000 := by rw [bs_size]; exact csS_len _ HSM.out.ins
      have s2 : (bs (ordT [44] (d.rem.map cnT))).size ≤ 4000 := by rw [bs_size]; exact csS_len _ HSM.out.rem
      have s3 : (bs (ordT [44] (d.upg.map cnT))).size ≤ 4000 := by rw [bs_size]; exact csS_len _ HSM.out.upg
      unfold strV
      generalize bs (ordT [] (ps.map pkS)) = A0 at *
      generalize bs (ordT [44] (d.ins.map cnT)) = A1 at *
      generalize bs (ordT [44] (d.rem.map cnT)) = A2 at *
      generalize bs (ordT [44] (d.upg.map cnT)) = A3 at *
      go_wp2
      go_ret
      exact ⟨ret_str (by rw [HE.out]; rfl), HB4.out⟩

end Go.Proofs.YtenbnmbbfeekpabGreatDoor

namespace Go.Proofs.YtenbnmbbfeekpabGreatDoor
open Go.RowKit

set_option maxHeartbeats 800000 in
set_option maxRecDepth 100000 in
theorem up_Show (s : ByteArray) (w : World) (hs : s.size ≤ maxLen) : Calls Tryz.prog 30 #[.string s] w fun e w' => e = .returned (.tuple #[.string (bs (shT s.data.toList)), .int .i64 (rdE s.data.toList)]) ∧ Below w.heap.size w w' := by
  by_cases h : rdE s.data.toList = 0
  · obtain ⟨r1, r2, r3, _⟩ := rd_ok h
    have HSM : Hid (DcSm (dcV s.data.toList)) := dc_small r2 (by rw [← r1]; exact r3)
    have HOK : Hid (DcOk (dcV s.data.toList)) := r2
    have HT : Hid (shT s.data.toList = dcS (dcV s.data.toList)) := by show _ = _; unfold shT; rw [if_pos h]
    have HE : Hid (rdE s.data.toList = 0) := h
    clear r1 r2 r3 h
    go_enter Tryz.func30, Tryz.ntmps30
    go_wp2_with fail
    refine (doc_Read s _ hs).mono ?_
    rintro e w1 ⟨ap, np, cp, ai, ni, ci, ar, nr, cr, au, nu, cu, rfl, hb, hd⟩
    have HD : Hid (DcAt (w.heap.size + 1) w1 (dcV s.data.toList) (.slice ap np cp) (.slice ai ni ci) (.slice ar nr cr) (.slice au nu cu)) := hd HE.out
    have HB : Hid (Below w.heap.size w w1) := hb
    have hz : ((rdE s.data.toList : Int) != 0) = false := by rw [HE.out]; rfl
    clear hd hb
    go_wp2_with fail
    refine (doc_Show (w.heap.size + 1) (dcV s.data.toList) ap np cp ai ni ci ar nr cr au nu cu _ HSM.out HOK.out (HD.out.alloc _)).mono ?_
    rintro e w2 ⟨rfl, hb2⟩
    have HB2 : Hid (Below w.heap.size w w2) := (HB.out.alloc HB.out.size _).trans (hb2.mono (by have := HB.out.size; simp; omega))
    clear hb2 HB HD
    unfold strV
    go_wp2
    go_ret2
    exact ⟨by rw [HT.out, HE.out]; rfl, HB2.out⟩
  · have HT : Hid (shT s.data.toList = []) := by show _ = _; unfold shT; rw [if_neg h]
    have hz : ((rdE s.data.toList : Int) != 0) = true := by rw [bne_iff_ne]; omega
    go_enter Tryz.func30, Tryz.ntmps30
    go_wp2_with fail
    refine (doc_Read s _ hs).mono ?_
    rintro e w1 ⟨ap, np, cp, ai, ni, ci, ar, nr, cr, au, nu, cu, rfl, hb, hd⟩
    have HB : Hid (Below w.heap.size w w1) := hb
    clear hd hb
    go_wp2_with fail
    go_quiet (fail)
    go_wp2
    go_ret2
    exact ⟨by rw [HT.out]; rfl, (HB.out.alloc HB.out.size _).trans ⟨rfl, rfl, rfl, Nat.le_refl _, fun _ _ => rfl⟩⟩

end Go.Proofs.YtenbnmbbfeekpabGreatDoor
