import Derived.Test.YtenbnmbbfeekpabGreatDoorXF
import Derived.Test.YtenbnmbbfeekpabGreatDoorXD
import Derived.Test.YtenbnmbbfeekpabGreatDoorXE
import Derived.Deep.RegionHeld3
import Derived.Deep.CutRange

namespace Go.Proofs.YtenbnmbbfeekpabGreatDoor
open Go.RowKit

set_option maxHeartbeats 3200000 in
set_option maxRecDepth 100000 in
theorem ref_usual (v : Value) (l : List (List UInt8)) (c : Nat) (ci : Int) (hci : ci = (c : Int)) (hc : c < 256) (w : World) (hl : l.length ≤ 2000) (hM : ∀ a ∈ l, a.length ≤ 3000000) (hst : StAt w v l) :
    Calls Tryz.prog 103 #[v, .int .u8 ci] w fun e w' => e = .returned (strV (ordT [b8 c] l)) ∧ Below w.heap.size w w' := by
  subst hci
  obtain ⟨ao, cap, rfl, hcell⟩ : ∃ ao cap, v = .slice ao l.length cap ∧ ∀ j (h : j < l.length), ∃ g, ao = some ⟨g, 0, none⟩ ∧ g < w.heap.size ∧ w.cell? ⟨g, j, none⟩ = some (.string (bs l[j])) := by
    rcases hst.cells with ⟨rfl, rfl⟩ | ⟨g, cap, rfl, hg, hx⟩
    · exact ⟨none, 0, rfl, fun j h => by simp at h⟩
    · exact ⟨_, _, rfl, fun j h => ⟨g, rfl, hg, hx j _ (List.getElem?_eq_getElem h)⟩⟩
  have HC : Hid _ := hcell
  have HM : Hid (∀ a ∈ l, a.length ≤ 3000000) := hM
  clear hcell hst hM
  go_enter Tryz.func103, Tryz.ntmps103
  go_wp2
  go_loopw [5, 6, 7] (fun t m i wr => ∃ (k : Nat) (T L : List UInt8), k ≤ l.length ∧ i = .int .i64 k ∧ t = .string (bs T) ∧ m = .string (bs L) ∧ (bs T).size ≤ k * 3000010 ∧ Hid (ordT [b8 c] l = ordGo [b8 c] l (l.length - k) T L) ∧ Hid (L.isEmpty = decide (k = 0)) ∧ Below w.heap.size w wr) (fun _ _ i _ => l.length - (intOf i).toNat)
  case atStart => exact ⟨0, [], [], by omega, rfl, rfl, rfl, by decide, rfl, rfl, Below.refl _ _⟩
  case round =>
    obtain ⟨k, T, L, hk, rfl, rfl, rfl, hTs, HO, HL, hb⟩ := hrel
    have hbs := hb.size
    by_cases hlt : k < l.length
    · have HD : Hid (ordT [b8 c] l = if (sel l L).isEmpty then T else ordGo [b8 c] l (l.length - (k + 1)) (T ++ (if L.isEmpty then [] else [b8 c]) ++ sel l L) (sel l L)) := by
        show _ = _; rw [HO.out, show l.length - k = (l.length - (k + 1)) + 1 by omega, ordGo]
      clear HO
      have hsel : (bs (sel l L)).size ≤ 3000000 := by
        rw [bs_size]
        rcases sel_mem L l [] with h | h
        · show (sel l L).length ≤ _; unfold sel; rw [h]; simp
        · exact HM.out _ h
      have HB : Hid (Below w.heap.size w wr) := hb
      clear hb
      go_wp2
      go_loop [8, 9] (fun m i => ∃ j : Nat, j ≤ l.length ∧ i = .int .i64 j ∧ m = .string (bs (sel (l.take j) L))) (fun _ i => l.length - (intOf i).toNat)
      case atStart => exact ⟨0, by omega, rfl, rfl⟩
      case round =>
        obtain ⟨j, hj, rfl, rfl⟩ := hrel
        by_cases hjl : j < l.length
        · obtain ⟨g, rfl, hg, x⟩ := HC.out j hjl
          rw [← HB.out.cell (p := ⟨g, _, none⟩) hg] at x
          have HS : Hid (sel (l.take (j + 1)) L = selStep L (sel (l.take j) L) l[j]) := by show _ = _; rw [List.take_succ_eq_append_getElem hjl, sel_snoc]
          have HT : Hid (selStep L (sel (l.take j) L) l[j] = if (!(Op.bytesLess (bs l[j]).toList (bs L).toList || (bs l[j]).toList == (bs L).toList)) && ((bs (sel (l.take j) L)).toList.isEmpty || Op.bytesLess (bs l[j]).toList (bs (sel (l.take j) L)).toList) then l[j] else (sel (l.take j) L)) := by
            show _ = _; rw [tl, tl, tl]; rfl
          clear HC
          generalize sel (l.take j) L = B at *
          generalize hX : l[j] = X at *
          clear hX
          rcases h1 : Op.bytesLess (bs X).toList (bs L).toList with _ | _
          · rcases h2 : ((bs X).toList == (bs L).toList) with _ | _
            · rcases h3 : (bs B).toList.isEmpty with _ | _
              · rcases h4 : Op.bytesLess (bs X).toList (bs B).toList with _ | _
                · have HE : Hid (sel (l.take (j + 1)) L = B) := by show _ = _; rw [HS.out, HT.out, h1, h2, h3, h4]; rfl
                  clear HS HT
                  go_wp2
                  go_round
                  case rel => exact ⟨j + 1, by omega, by go_num, by rw [HE.out]⟩
                  case measure => simp [intOf]; omega
                · have HE : Hid (sel (l.take (j + 1)) L = X) := by show _ = _; rw [HS.out, HT.out, h1, h2, h3, h4]; rfl
                  clear HS HT
                  go_wp2
                  go_round
                  case rel => exact ⟨j + 1, by omega, by go_num, by rw [HE.out]⟩
                  case measure => simp [intOf]; omega
              · have HE : Hid (sel (l.take (j + 1)) L = X) := by show _ = _; rw [HS.out, HT.out, h1, h2, h3]; rfl
                clear HS HT
                go_wp2
                go_round
                case rel => exact ⟨j + 1, by omega, by go_num, by rw [HE.out]⟩
                case measure => simp [intOf]; omega
            · have HE : Hid (sel (l.take (j + 1)) L = B) := by show _ = _; rw [HS.out, HT.out, h1, h2]; rfl
              clear HS HT
              go_wp2
              go_round
              case rel => exact ⟨j + 1, by omega, by go_num, by rw [HE.out]⟩
              case measure => simp [intOf]; omega
          · have HE : Hid (sel (l.take (j + 1)) L = B) := by show _ = _; rw [HS.out, HT.out, h1]; rfl
            clear HS HT
            go_wp2
            go_round
            case rel => exact ⟨j + 1, by omega, by go_num, by rw [HE.out]⟩
            case measure => simp [intOf]; omega
        · have HSE : Hid (sel (l.take j) L = sel l L) := by show _ = _; rw [List.take_of_length_le (by omega)]
          rw [HSE.out]
          clear HC HSE
          rcases h1 : (bs (sel l L)).toList.isEmpty with _ | _
          · by_cases hk0 : k = 0
            · subst hk0
              have HE : Hid (ordT [b8 c] l = ordGo [b8 c] l (l.length - (0 + 1)) (T ++ sel l L) (sel l L)) := by
                show _ = _; rw [tl] at h1; rw [HD.out, h1, HL.out]; simp
              have HL' : Hid ((sel l L).isEmpty = decide (0 + 1 = 0)) := by show _ = _; rw [tl] at h1; rw [h1]; rfl
              clear HD HL
              go_wp2
              go_roundw
              case rel => exact ⟨0 + 1, T ++ sel l L, sel l L, by omega, by go_num, by rw [bs_app], rfl, by rw [bs_size] at hTs hsel ⊢; simp only [List.length_append]; omega, HE, HL', HB.out⟩
              case measure => simp [intOf]; omega
            · have HE : Hid (ordT [b8 c] l = ordGo [b8 c] l (l.length - (k + 1)) (T ++ [b8 c] ++ sel l L) (sel l L)) := by
                show _ = _; rw [tl] at h1; rw [HD.out, h1, HL.out]; simp [hk0]
              have HL' : Hid ((sel l L).isEmpty = decide (k + 1 = 0)) := by show _ = _; rw [tl] at h1; rw [h1]; simp
              have hkp : (0 : Int) < (k : Int) := by omega
              have hcv := conv1 wr c hc
              have hs1 : (bs [b8 c]).size ≤ 1 := by rw [bs_size]; simp
              clear HD HL hk0
              go_wp2
              go_roundw
              case rel => exact ⟨k + 1, T ++ [b8 c] ++ sel l L, sel l L, by omega, by go_num, by rw [bs_app, bs_app], rfl, by rw [bs_size] at hTs hsel ⊢; simp only [List.length_append, List.length_cons, List.length_nil]; omega, HE, HL', HB.out.alloc hbs _⟩
              case measure => simp [intOf]; omega
          · have HE : Hid (ordT [b8 c] l = T) := by show _ = _; rw [tl] at h1; rw [HD.out, h1]; rfl
            clear HD
            go_wp2
            go_ret
            exact ⟨ret_str (by rw [HE.out]), HB.out⟩
    · have HE : Hid (ordT [b8 c] l = T) := by show _ = _; rw [HO.out, show l.length - k = 0 by omega]; rfl
      go_wp2
      go_ret
      exact ⟨ret_str (by rw [HE.out]), hb⟩

end Go.Proofs.YtenbnmbbfeekpabGreatDoor

namespace Go.Proofs.YtenbnmbbfeekpabGreatDoor
open Go.RowKit

set_option maxHeartbeats 1600000 in
set_option maxRecDepth 100000 in
theorem ref_usualNeeds (v : Value) (l : List (List Cn)) (w : World) (hl : l.length ≤ 801) (hl2 : ∀ n ∈ l, n.length ≤ 801 ∧ (ndT n).length ≤ 800) (hok : ∀ n ∈ l, NdOk n) (hst : StAt w v (l.map ndT)) :
    Calls Tryz.prog 102 #[v] w fun e w' => e = .returned (strV (ordT [44] (l.map ndS))) ∧ Below w.heap.size w w' := by
  obtain ⟨i0, hi, hz0, hz1, hz2⟩ := info_parts Tryz.infoStr
  obtain ⟨ao, cap, rfl, hcell⟩ : ∃ ao cap, v = .slice ao l.length cap ∧ ∀ j (h : j < l.length), ∃ g, ao = some ⟨g, 0, none⟩ ∧ g < w.heap.size ∧ w.cell? ⟨g, j, none⟩ = some (.string (bs (ndT l[j]))) := by
    rcases hst.cells with ⟨rfl, h0⟩ | ⟨g, cap, rfl, hg, hx⟩
    · have : l = [] := by simpa using h0
      subst this
      exact ⟨none, 0, rfl, fun j h => by simp at h⟩
    · exact ⟨_, _, by rw [List.length_map], fun j h => ⟨g, rfl, hg, hx j _ (by simp [h])⟩⟩
  have HC : Hid _ := hcell
  have HOK : Hid (∀ n ∈ l, NdOk n) := hok
  have HL2 : Hid (∀ n ∈ l, n.length ≤ 801 ∧ (ndT n).length ≤ 800) := hl2
  clear hcell hst hok hl2
  go_enter Tryz.func102, Tryz.ntmps102
  go_wp2
  go_loopw [3, 4] (fun o i wr => ∃ k : Nat, k ≤ l.length ∧ i = .int .i64 k ∧ wr.ownsRow w.heap.size 9 1 o k ((l.map fun c => strV (ndS c)).take k) ∧ Below w.heap.size w wr) (fun _ i _ => l.length - (intOf i).toNat)
  case atStart => exact ⟨0, by omega, rfl, World.ownsRow_nil _ _ _ _, Below.refl _ _⟩
  case round =>
    obtain ⟨k, hk, rfl, hown, hb⟩ := hrel
    have hbs := hb.size
    by_cases hlt : k < l.length
    · obtain ⟨g, rfl, hg, x0⟩ := HC.out k hlt
      rw [← hb.cell (p := ⟨g, _, none⟩) hg] at x0
      have hc : NdOk l[k] := HOK.out _ (List.getElem_mem _)
      have hcl := HL2.out _ (List.getElem_mem hlt)
      have HS : Hid ((l.map (fun c => strV (ndS c))).take (k + 1) = (l.map (fun c => strV (ndS c))).take k ++ [strV (ndS l[k])]) := by show _ = _; rw [List.take_succ_eq_append_getElem (by simpa using hlt), List.getElem_map]
      generalize l[k] = N at *
      have HCC : Hid (NdOk N) := hc
      have HO : Hid _ := hown
      clear hc
      go_wp2_with fail
      refine (ref_split' (bs (ndT N)) 124 124 rfl _ (by rw [bs_size]; exact hcl.2)).mono ?_
      rintro e w1 ⟨a1, n1, c1, rfl, h1, hb1⟩
      rw [bs_list, nd_split HCC.out] at h1
      have HST : Hid (StAt w1 (.slice a1 n1 c1) (N.map cnT)) := StAt.of h1
      have hown1 := World.ownsRow.kept (row := none) hown ⟨hb1.os, hb1.tape, hb1.output, hb1.size, fun k hk _ => hb1.block k hk⟩ (by rcases Value.ownBlock _ with _ | k <;> simp)
      have hs1 := hb1.size
      have HB1 : Hid (Below w.heap.size w w1) := hb.trans (hb1.mono hbs)
      clear h1 hb1 hown HO hb
      go_wp2_with fail
      refine (ref_usual (.slice a1 n1 c1) (N.map cnT) 124 124 rfl (by omega) _ (by simp; omega) (fun a ha => by obtain ⟨d, _, rfl⟩ := List.mem_map.1 ha; have := cnT_len d; omega) HST.out).mono ?_
      rintro e w2 ⟨rfl, hb2⟩
      have hown2 := World.ownsRow.kept (row := none) hown1 ⟨hb2.os, hb2.tape, hb2.output, hb2.size, fun k hk _ => hb2.block k hk⟩ (by rcases Value.ownBlock _ with _ | k <;> simp)
      have hs2 := hb2.size
      have HB2 : Hid (Below w.heap.size w w2) := HB1.out.trans (hb2.mono (by omega))
      rw [show ordT [b8 124] (N.map cnT) = ndS N from rfl]
      unfold strV at *
      clear hb2 HST HB1 hown1
      go_wp2_with (at_builtin; refine wpList_append_own _ rfl _ _ 36 rfl w.heap.size 9 i0 (.string ByteArray.empty) 1 16 Tryz.underlying36 hi hz0 hz1 hz2 rfl (by decide) _ _ _ rfl (hown2.alloc _) ⟨w2.heap.size, 0, none⟩ 1 1 [.string (bs (ndS N))] rfl rfl ?c1 ?c2 ?c3 ?c4 ?c5 ?_)
      case c1 => exact cell_one_new _ _ _
      case c2 => intro u hu; simp at hu; subst hu; rfl
      case c3 => unfold maxLen; omega
      case c4 => omega
      case c5 => simp; omega
      intro v' w3 hown' hgrow _
      have HB3 : Hid (Below w.heap.size w w3) := (HB2.out.alloc (by omega) _).grown hgrow (by simp; omega) (fun j hj => (hown2.lt j hj).1)
      have HO2 : Hid (w3.ownsRow w.heap.size 9 1 v' (k + 1) ((l.map fun c => Value.string (bs (ndS c))).take (k + 1))) := by show World.ownsRow _ _ _ _ _ _ _; rw [HS.out]; exact hown'
      clear hown' hgrow hown2
      go_wp2
      go_roundw
      case rel => exact ⟨k + 1, by omega, by go_num, HO2.out, HB3.out⟩
      case measure => simp [intOf]; omega
    · have hkl : k = l.length := by omega
      have hst := StAt.ofMap (f := ndS) hown hkl
      have HST : Hid _ := hst
      have HB : Hid (Below w.heap.size w wr) := hb
      clear hst hown hb hkl
      go_wp2_with fail
      refine (ref_usual _ (l.map ndS) 44 44 rfl (by omega) _ (by simp; omega) (fun a ha => by obtain ⟨c, hc, rfl⟩ := List.mem_map.1 ha; have := ndS_len c (HL2.out c hc).1; omega) HST.out).mono ?_
      rintro e w1 ⟨rfl, hb1⟩
      have HB1 : Hid (Below w.heap.size w w1) := HB.out.trans (hb1.mono HB.out.size)
      clear hb1
      go_wp2
      go_ret
      exact ⟨rfl, HB1.out⟩

end Go.Proofs.YtenbnmbbfeekpabGreatDoor

namespace Go.Proofs.YtenbnmbbfeekpabGreatDoor
open Go.RowKit

theorem rpks_row2 {w : World} {v : Value} {ps : List Pk} (h : RPksAt w v ps) : (v = .slice none 0 0 ∧ ps = []) ∨ ∃ g cap, v = .slice (some ⟨g, 0, none⟩) ps.length cap ∧ g < w.heap.size ∧ ∀ j (h : j < ps.length), ∃ an nn cn ac nc cc ap np cp, (w.cell? ⟨g, j * 5, none⟩ = some (.string (bs [b8 ps[j].n, b8 ps[j].v])) ∧ w.cell? ⟨g, j * 5 + 1, none⟩ = some (.string (bs (mkT ps[j].m))) ∧
    w.cell? ⟨g, j * 5 + 2, none⟩ = some (.slice an nn cn) ∧ w.cell? ⟨g, j * 5 + 3, none⟩ = some (.slice ac nc cc) ∧ w.cell? ⟨g, j * 5 + 4, none⟩ = some (.slice ap np cp)) ∧ RPkAt w ps[j] (.slice an nn cn) (.slice ac nc cc) (.slice ap np cp) := by
  obtain ⟨css, h1, h2⟩ := h
  rcases own_shape h1 with ⟨rfl, h0⟩ | ⟨g, cap, rfl, hc⟩
  · exact Or.inl ⟨rfl, List.eq_nil_of_length_eq_zero h0⟩
  · refine Or.inr ⟨g, cap, rfl, own_lt h1, fun j hj => ?_⟩
    obtain ⟨c, hcj, vn, vc, vp, rfl, hp⟩ := h2.get (j := j) (List.getElem?_eq_getElem hj)
    have h5 : ∀ c ∈ css, c.length = 5 := All2.forall (Q := fun c : List Value => c.length = 5) (fun a b ⟨_, _, _, e, _⟩ => by rw [e]; rfl) h2
    have hf : ∀ k, k < 5 → css.flatten[j * 5 + k]? = (rpkCells ps[j] vn vc vp)[k]? := fun k hk => by rw [flat_get 5 css h5 j k hk, hcj]; rfl
    obtain ⟨an, nn, cn, rfl⟩ := hp.1.shape
    obtain ⟨ac, nc, cc, rfl⟩ := hp.2.1.shape
    obtain ⟨ap, np, cp, rfl⟩ := hp.2.2.shape
    exact ⟨an, nn, cn, ac, nc, cc, ap, np, cp, ⟨own_cell h1 _ _ (hf 0 (by omega)), own_cell h1 _ _ (hf 1 (by omega)), own_cell h1 _ _ (hf 2 (by omega)), own_cell h1 _ _ (hf 3 (by omega)), own_cell h1 _ _ (hf 4 (by omega))⟩, hp⟩

/-- The document's answer in its own writing. -/
def rdcS (d : Dc) : List UInt8 := (if d.packs.isEmpty then [] else ordT [59] (d.packs.map pkS0) ++ [59]) ++ [47] ++ ordT [44] (d.ins.map cnT) ++ [47] ++ ordT [44] (d.rem.map cnT) ++ [47] ++ ordT [44] (d.upg.map cnT)
def rshT (t : List UInt8) : List UInt8 := if rdE t = 0 then rdcS (dcV t) else []

theorem five {g : Nat} {W w' : World} (hb : Below W.heap.size W w') {x0 x1 : ByteArray} {a b c : Value} (h : W.cell? ⟨g, 0, none⟩ = some (.string x0) ∧ W.cell? ⟨g, 1, none⟩ = some (.string x1) ∧ W.cell? ⟨g, 2, none⟩ = some a ∧ W.cell? ⟨g, 3, none⟩ = some b ∧ W.cell? ⟨g, 4, none⟩ = some c) : w'.cell? ⟨g, 0, none⟩ = some (.string x0) ∧ w'.cell? ⟨g, 1, none⟩ = some (.string x1) ∧ w'.cell? ⟨g, 2, none⟩ = some a ∧ w'.cell? ⟨g, 3, none⟩ = some b ∧ w'.cell? ⟨g, 4, none⟩ = some c := by
  have hl : g < W.heap.size := World.block_lt_of_cell? _ _ h.1
  exact ⟨(hb.cell (p := ⟨g, 0, none⟩) hl).trans h.1, (hb.cell (p := ⟨g, 1, none⟩) hl).trans h.2.1, (hb.cell (p := ⟨g, 2, none⟩) hl).trans h.2.2.1, (hb.cell (p := ⟨g, 3, none⟩) hl).trans h.2.2.2.1, (hb.cell (p := ⟨g, 4, none⟩) hl).trans h.2.2.2.2⟩

end Go.Proofs.YtenbnmbbfeekpabGreatDoor

namespace Go.Proofs.YtenbnmbbfeekpabGreatDoor
open Go.RowKit

theorem ref_usual44 (v : Value) (l : List (List UInt8)) (w : World) (hl : l.length ≤ 2000) (hM : ∀ a ∈ l, a.length ≤ 3000000) (hst : StAt w v l) :
    Calls Tryz.prog 103 #[v, .int .u8 44] w fun e w' => e = .returned (.string (bs (ordT [44] l))) ∧ Below w.heap.size w w' := ref_usual v l 44 44 rfl (by omega) w hl hM hst

theorem threeV {g : Nat} {W w' : World} (hb : Below W.heap.size W w') {a b c : Value} (h : W.cell? ⟨g, 1, none⟩ = some a ∧ W.cell? ⟨g, 2, none⟩ = some b ∧ W.cell? ⟨g, 3, none⟩ = some c) : w'.cell? ⟨g, 1, none⟩ = some a ∧ w'.cell? ⟨g, 2, none⟩ = some b ∧ w'.cell? ⟨g, 3, none⟩ = some c := by
  have hl : g < W.heap.size := World.block_lt_of_cell? _ _ h.1
  exact ⟨(hb.cell (p := ⟨g, 1, none⟩) hl).trans h.1, (hb.cell (p := ⟨g, 2, none⟩) hl).trans h.2.1, (hb.cell (p := ⟨g, 3, none⟩) hl).trans h.2.2⟩

set_option maxHeartbeats 6400000 in
set_option maxRecDepth 100000 in
theorem ref_Show (s : ByteArray) (w : World) (hs : s.size ≤ maxLen) : Calls Tryz.prog 59 #[.string s] w fun e w' => e = .returned (.tuple #[.string (bs (rshT s.data.toList)), .int .i64 (rdE s.data.toList)]) ∧ Below w.heap.size w w' := by
  by_cases h : rdE s.data.toList = 0
  · obtain ⟨r1, r2, r3, r4, _⟩ := rd_ok h
    have hsm := dc_small r2 (by rw [← r1]; exact r3)
    have HT : Hid (rshT s.data.toList = rdcS (dcV s.data.toList)) := by show _ = _; unfold rshT; rw [if_pos h]
    have HE : Hid (rdE s.data.toList = 0) := h
    have hs8 : s.size ≤ 800 := by rw [← sz]; exact r3
    have hnd : ∀ p ∈ (dcV s.data.toList).packs, ∀ n ∈ p.needs, (ndT n).length ≤ 800 := by
      intro p hp n hn
      have e : dcT (dcV s.data.toList) = joinT 47 [pksT (dcV s.data.toList).packs, lsT (dcV s.data.toList).ins, lsT (dcV s.data.toList).rem, lsT (dcV s.data.toList).upg] := by simp [dcT, joinT]
      have h0 := join_len (c := 47) (l := [pksT (dcV s.data.toList).packs, lsT (dcV s.data.toList).ins, lsT (dcV s.data.toList).rem, lsT (dcV s.data.toList).upg]) (a := pksT (dcV s.data.toList).packs) (by simp)
      rw [← e, ← r1] at h0
      have h4 : (pkB p).length ≤ (pksT (dcV s.data.toList).packs).length := by rw [pks_join]; exact join_len (by simp; left; exact ⟨p, hp, rfl⟩)
      have h5 := join_len (c := 58) (l := [pkH p, nsT p.needs, lsT p.conf, nmT p.prov]) (a := nsT p.needs) (by simp)
      have c5 : (ndT n).length ≤ (nsT p.needs).length := join_len (by simp; exact ⟨n, hn, rfl⟩)
      unfold pkB at h4
      omega
    have HOK : Hid (DcOk (dcV s.data.toList)) := r2
    have HR1 : Hid (s.data.toList = dcT (dcV s.data.toList)) := r1
    clear r1 r2 r3 h
    generalize hd : dcV s.data.toList = d at *
    have HSM : Hid (DcSm d) := hsm
    have HND : Hid _ := hnd
    have hpl := hsm.packs
    clear hd hsm hnd
    go_enter Tryz.func59, Tryz.ntmps59
    go_wp2_with fail
    refine (ref_Check s _ hs).mono ?_
    rintro e w1 ⟨rfl, hb1⟩
    have HB1 : Hid (Below w.heap.size w w1) := hb1
    have hz : ((rdE s.data.toList : Int) != 0) = false := by rw [HE.out]; rfl
    clear hb1
    go_wp2_with fail
    refine (ref_read d HOK.out s HR1.out _ hs8).mono ?_
    rintro e w2 ⟨ap, np, cp, ai, ni, ci, ar, nr, cr, au, nu, cu, rfl, hd, hb2⟩
    have hnp : np = d.packs.length := by
      rcases rpks_row2 hd.1 with ⟨h, h0⟩ | ⟨g, cap, h, _⟩
      · injection h with _ h _; rw [h0]; exact h
      · injection h with _ h _
    subst hnp
    have hrow : ∀ j (h : j < d.packs.length), ∃ g, ap = some ⟨g, 0, none⟩ ∧ g < w2.heap.size ∧ ∃ an nn cn ac nc cc ap np cp, (w2.cell? ⟨g, j * 5, none⟩ = some (.string (bs [b8 d.packs[j].n, b8 d.packs[j].v])) ∧ w2.cell? ⟨g, j * 5 + 1, none⟩ = some (.string (bs (mkT d.packs[j].m))) ∧
      w2.cell? ⟨g, j * 5 + 2, none⟩ = some (.slice an nn cn) ∧ w2.cell? ⟨g, j * 5 + 3, none⟩ = some (.slice ac nc cc) ∧ w2.cell? ⟨g, j * 5 + 4, none⟩ = some (.slice ap np cp)) ∧ RPkAt w2 d.packs[j] (.slice an nn cn) (.slice ac nc cc) (.slice ap np cp) := by
      intro j hj
      rcases rpks_row2 hd.1 with ⟨_, h0⟩ | ⟨g, cap, h, hg, hx⟩
      · rw [h0] at hj; simp at hj
      · injection h with h _ _
        exact ⟨g, h, hg, hx j hj⟩
    have HR : Hid _ := hrow
    have HD : Hid (RDcAt w2 d (.slice ap d.packs.length cp) (.slice ai ni ci) (.slice ar nr cr) (.slice au nu cu)) := hd
    have HB2 : Hid (Below w.heap.size w w2) := HB1.out.trans (hb2.mono HB1.out.size)
    have hw2 : w.heap.size ≤ w2.heap.size := HB2.out.size
    clear hrow hd hb2 HB1 HR1
    generalize hps : d.packs = ps at *
    have HPS : Hid (d.packs = ps) := hps
    clear hps
    obtain ⟨i0, hi, hz0, hz1, hz2⟩ := info_parts Tryz.infoStr
    go_wp2
    go_loopw [7, 8] (fun o i wr => ∃ k : Nat, k ≤ ps.length ∧ i = .int .i64 k ∧ wr.ownsRow (w2.heap.size + 1) 9 1 o k ((ps.map fun c => strV (pkS0 c)).take k) ∧ Below w2.heap.size w2 wr ∧ wr.heap[w2.heap.size]? = some (.cells #[.slice ap ps.length cp, .slice ai ni ci, .slice ar nr cr, .slice au nu cu] 126 (0, 0))) (fun _ i _ => ps.length - (intOf i).toNat)
    case atStart => exact ⟨0, by omega, rfl, World.ownsRow_nil _ _ _ _, (Below.refl _ _).alloc (Nat.le_refl _) _, blk_new _ _⟩
    case round =>
      obtain ⟨k, hk, rfl, hown, hb, hblk⟩ := hrel
      have hbs := hb.size
      have hHlt := ltAt hblk
      by_cases hlt : k < ps.length
      · obtain ⟨g, rfl, hg, an, nn, cn, ac, nc, cc, ap', np, cp', ⟨x0, x1, x2, x3, x4⟩, hpk⟩ := HR.out k hlt
        rw [← hb.cell (p := ⟨g, _, none⟩) hg] at x0 x1 x2 x3 x4
        have hmem : ps[k] ∈ d.packs := by rw [HPS.out]; exact List.getElem_mem _
        have hpo : PkOk ps[k] := HOK.out.packs _ hmem
        have hpsm : PkSm ps[k] := HSM.out.pack _ hmem
        have hnd2 : ∀ n ∈ ps[k].needs, n.length ≤ 801 ∧ (ndT n).length ≤ 800 := fun n hn => ⟨hpsm.need n hn, HND.out _ (List.getElem_mem _) n hn⟩
        have HS : Hid ((ps.map (fun c => strV (pkS0 c))).take (k + 1) = (ps.map (fun c => strV (pkS0 c))).take k ++ [strV (pkS0 ps[k])]) := by show _ = _; rw [List.take_succ_eq_append_getElem (by simpa using hlt), List.getElem_map]
        have m0 : wr.cell? ⟨w2.heap.size, 0, none⟩ = some (.slice (some ⟨g, 0, none⟩) ps.length cp) := by rw [cellAt hblk]; rfl
        have hpk1 := hpk.1.below hb
        have hpk2 := hpk.2.1.below hb
        have hpk3 := hpk.2.2.below hb
        clear hpk hmem
        generalize ps[k] = P at *
        have HP1 : Hid (StAt wr (.slice an nn cn) (P.needs.map ndT)) := hpk1
        have HP2 : Hid (StAt wr (.slice ac nc cc) (P.conf.map cnT)) := hpk2
        have HP3 : Hid (StAt wr (.slice ap' np cp') (P.prov.map fun c => [b8 c])) := hpk3
        have HPO : Hid (PkOk P ∧ PkSm P) := ⟨hpo, hpsm⟩
        have HN2 : Hid (∀ n ∈ P.needs, n.length ≤ 801 ∧ (ndT n).length ≤ 800) := hnd2
        have HBK : Hid _ := hblk
        have HO : Hid _ := hown
        have HB : Hid (Below w2.heap.size w2 wr) := hb
        clear hpk1 hpk2 hpk3 hpo hpsm hnd2 hblk hb hown
        go_wp2_with fail
        obtain ⟨W, hW⟩ : ∃ W, W = wr.alloc (.cells #[.string (bs [b8 P.n, b8 P.v]), .string (bs (mkT P.m)), .slice an nn cn, .slice ac nc cc, .slice ap' np cp'] 173) := ⟨_, rfl⟩
        have hWb : W.heap[wr.heap.size]? = some (.cells #[.string (bs [b8 P.n, b8 P.v]), .string (bs (mkT P.m)), .slice an nn cn, .slice ac nc cc, .slice ap' np cp'] 173 (0, 0)) := by rw [hW]; exact blk_new _ _
        have HWB : Hid (Below wr.heap.size wr W) := by show Below _ _ _; rw [hW]; exact (Below.refl _ _).alloc (Nat.le_refl _) _
        have k0 : W.cell? ⟨wr.heap.size, 0, none⟩ = some (.string (bs [b8 P.n, b8 P.v])) := by rw [cellAt hWb]; rfl
        have k1 : W.cell? ⟨wr.heap.size, 1, none⟩ = some (.string (bs (mkT P.m))) := by rw [cellAt hWb]; rfl
        have k2 : W.cell? ⟨wr.heap.size, 2, none⟩ = some (.slice an nn cn) := by rw [cellAt hWb]; rfl
        have k3 : W.cell? ⟨wr.heap.size, 3, none⟩ = some (.slice ac nc cc) := by rw [cellAt hWb]; rfl
        have k4 : W.cell? ⟨wr.heap.size, 4, none⟩ = some (.slice ap' np cp') := by rw [cellAt hWb]; rfl
        rw [← hW]
        have s0 : (bs [b8 P.n, b8 P.v]).size ≤ 2 := by rw [bs_size]; simp
        have s1 : (bs (mkT P.m)).size ≤ 2 := by rw [bs_size]; exact mkT_len _
        have s2 : (bs (ordT [44] (P.needs.map ndS))).size ≤ 2600000 := by rw [bs_size]; exact nsS_len _ HPO.out.2.needs HPO.out.2.need
        have s3 : (bs (ordT [44] (P.conf.map cnT))).size ≤ 4000 := by rw [bs_size]; exact csS_len _ HPO.out.2.conf
        have s4 : (bs (ordT [44] (P.prov.map fun c => [b8 c]))).size ≤ 2000 := by rw [bs_size]; exact nmS_len _ HPO.out.2.prov
        have HE0 : Hid (bs (pkS0 P) = bs [b8 P.n, b8 P.v] ++ bs (mkT P.m) ++ bs [58] ++ bs (ordT [44] (P.needs.map ndS)) ++ bs [58] ++ bs (ordT [44] (P.conf.map cnT)) ++ bs [58] ++ bs (ordT [44] (P.prov.map fun c => [b8 c]))) := by
          show _ = _; simp only [bs_app]; rfl
        have g0 : ¬ 9223372036854775807 < (bs [b8 P.n, b8 P.v]).size + (bs (mkT P.m)).size := by omega
        have g1 : ¬ 9223372036854775807 < (bs [b8 P.n, b8 P.v]).size + (bs (mkT P.m)).size + 1 := by omega
        have g2 : ¬ 9223372036854775807 < (bs [b8 P.n, b8 P.v]).size + (bs (mkT P.m)).size + 1 + (bs (ordT [44] (P.needs.map ndS))).size := by omega
        have g3 : ¬ 9223372036854775807 < (bs [b8 P.n, b8 P.v]).size + (bs (mkT P.m)).size + 1 + (bs (ordT [44] (P.needs.map ndS))).size + 1 := by omega
        have g4 : ¬ 9223372036854775807 < (bs [b8 P.n, b8 P.v]).size + (bs (mkT P.m)).size + 1 + (bs (ordT [44] (P.needs.map ndS))).size + 1 + (bs (ordT [44] (P.conf.map cnT))).size := by omega
        have g5 : ¬ 9223372036854775807 < (bs [b8 P.n, b8 P.v]).size + (bs (mkT P.m)).size + 1 + (bs (ordT [44] (P.needs.map ndS))).size + 1 + (bs (ordT [44] (P.conf.map cnT))).size + 1 := by omega
        have g6 : ¬ 9223372036854775807 < (bs [b8 P.n, b8 P.v]).size + (bs (mkT P.m)).size + 1 + (bs (ordT [44] (P.needs.map ndS))).size + 1 + (bs (ordT [44] (P.conf.map cnT))).size + 1 + (bs (ordT [44] (P.prov.map fun c => [b8 c]))).size := by omega
        clear hW hWb x0 x1 x2 x3 x4
        go_cut [10] from 22 to 57 (fun t wx => t = .string (bs (pkS0 P)) ∧ Below W.heap.size W wx)
        case first =>
          go_region_held3 (fun w' => w'.cell? ⟨wr.heap.size, 0, none⟩ = some (.string (bs [b8 P.n, b8 P.v])) ∧ w'.cell? ⟨wr.heap.size, 1, none⟩ = some (.string (bs (mkT P.m))) ∧ w'.cell? ⟨wr.heap.size, 2, none⟩ = some (.slice an nn cn) ∧ w'.cell? ⟨wr.heap.size, 3, none⟩ = some (.slice ac nc cc) ∧ w'.cell? ⟨wr.heap.size, 4, none⟩ = some (.slice ap' np cp')) (repeat (first | exact ⟨k0, k1, k2, k3, k4⟩ | refine five (by assumption) ?_))
            (first
              | (go_at_call 102; refine (ref_usualNeeds (.slice an nn cn) P.needs _ HPO.out.2.needs HN2.out HPO.out.1.needs (by exact (HP1.out.below HWB.out).drew)).mono ?_; rintro e wa ⟨rfl, hba⟩; have hCa := ((HP2.out.below HWB.out).drew).below hba; have hPa := ((HP3.out.below HWB.out).drew).below hba; unfold strV)
              | (go_at_call_of 103 (Value.slice ac nc cc); refine (ref_usual44 (.slice ac nc cc) (P.conf.map cnT) _ (by have := HPO.out.2.conf; simp; omega) (fun a ha => by obtain ⟨c, _, rfl⟩ := List.mem_map.1 ha; have := cnT_len c; omega) (by exact hCa)).mono ?_; rintro e wb ⟨rfl, hbb⟩; have hPb := hPa.below hbb)
              | (go_at_call_of 103 (Value.slice ap' np cp'); refine (ref_usual44 (.slice ap' np cp') (P.prov.map fun c => [b8 c]) _ (by have := HPO.out.2.prov; simp; omega) (fun a ha => by obtain ⟨c, _, rfl⟩ := List.mem_map.1 ha; simp) (by exact hPb)).mono ?_; rintro e wc ⟨rfl, hbc⟩))
          all_goals (try go_wp2_with fail)
          all_goals go_meet
          all_goals exact ⟨by rw [HE0.out]; rfl, ((below_drew hba).trans (hbb.mono (below_drew hba).size)).trans (hbc.mono (Nat.le_trans (below_drew hba).size hbb.size))⟩
        case rest =>
          obtain ⟨rfl, hbx⟩ := hcut
          have hbwr : Below wr.heap.size wr wc := HWB.out.trans (hbx.mono HWB.out.size)
          have hsz := hbwr.size
          have hownc := World.ownsRow.kept (row := none) HO.out ⟨hbwr.os, hbwr.tape, hbwr.output, hbwr.size, fun k hk _ => hbwr.block k hk⟩ (by rcases Value.ownBlock _ with _ | k <;> simp)
          have HBc : Hid (Below w2.heap.size w2 wc) := HB.out.trans (hbwr.mono hbs)
          have HBKc : Hid (wc.heap[w2.heap.size]? = _) := blk_below hbwr HBK.out (ltAt HBK.out)
          unfold strV at *
          clear hbx hbwr HO HB HBK HWB k0 k1 k2 k3 k4 m0 s0 s1 s2 s3 s4
          go_wp2_with (at_builtin; refine wpList_append_own _ rfl _ _ 36 rfl (w2.heap.size + 1) 9 i0 (.string ByteArray.empty) 1 16 Tryz.underlying36 hi hz0 hz1 hz2 rfl (by decide) _ _ _ rfl (hownc.alloc _) ⟨wc.heap.size, 0, none⟩ 1 1 [.string (bs (pkS0 P))] rfl rfl ?c1 ?c2 ?c3 ?c4 ?c5 ?_)
          case c1 => exact cell_one_new _ _ _
          case c2 => intro u hu; simp at hu; subst hu; rfl
          case c3 => unfold maxLen; omega
          case c4 => omega
          case c5 => simp; omega
          intro v' w3 hown' hgrow _
          have HB3 : Hid (Below w2.heap.size w2 w3) := (HBc.out.alloc (by omega) _).grown hgrow (by simp; omega) (fun j hj => by have := (hownc.lt j hj).1; omega)
          have HBK3 : Hid (w3.heap[w2.heap.size]? = _) := (hgrow.block w2.heap.size (by simp; omega) (fun e => by have := (hownc.lt _ e.symm).1; omega)).trans (blk_old HBKc.out _)
          have HO3 : Hid (w3.ownsRow (w2.heap.size + 1) 9 1 v' (k + 1) ((ps.map fun c => Value.string (bs (pkS0 c))).take (k + 1))) := by show World.ownsRow _ _ _ _ _ _ _; rw [HS.out]; exact hown'
          clear hown' hgrow hownc
          go_wp2
          go_roundw
          case rel => first | exact ⟨k + 1, by omega, by go_num, HO3.out, HB3.out, HBK3.out⟩ | ((repeat apply Exists.intro); exact ⟨⟨k + 1, by omega, by go_num, HO3.out, HB3.out, HBK3.out⟩, rfl⟩)
          case measure => simp [intOf]; omega
      · have hkl : k = ps.length := by omega
        have hst := StAt.ofMap (f := pkS0) hown hkl
        have HST : Hid _ := hst
        have HDr : Hid (RDcAt wr d (.slice ap ps.length cp) (.slice ai ni ci) (.slice ar nr cr) (.slice au nu cu)) := HD.out.below hb
        have HBr : Hid (Below w.heap.size w wr) := HB2.out.trans (hb.mono hw2)
        have HBK : Hid _ := hblk
        have y0 : wr.cell? ⟨w2.heap.size, 0, none⟩ = some (.slice ap ps.length cp) := by rw [cellAt hblk]; rfl
        obtain ⟨aL, cL, hvL⟩ : ∃ a c, u7 = .slice a ps.length c := by
          rcases own_shape hown with ⟨h, h0⟩ | ⟨gL, cL, h, _⟩
          · exact ⟨none, 0, by rw [h]; congr 1; omega⟩
          · exact ⟨_, _, by rw [h, hkl]⟩
        subst hvL
        clear hst hown hb hkl hblk HD HR HB2
        go_wp2_with fail
        refine (ref_usual _ (ps.map pkS0) 59 59 rfl (by omega) _ (by simp; omega) (fun a ha => by obtain ⟨c, hc, rfl⟩ := List.mem_map.1 ha; have := pkS_len c (HSM.out.pack c (by rw [HPS.out]; exact hc)); unfold pkS at this; simp at this; omega) HST.out).mono ?_
        rintro e w3 ⟨rfl, hb3⟩
        rw [show [b8 59] = [(59 : UInt8)] from rfl]
        have hblk := blk_below hb3 HBK.out (ltAt HBK.out)
        have HD3 : Hid (RDcAt w3 d (.slice ap ps.length cp) (.slice ai ni ci) (.slice ar nr cr) (.slice au nu cu)) := HDr.out.below hb3
        have HB3 : Hid (Below w.heap.size w w3) := HBr.out.trans (hb3.mono HBr.out.size)
        have y1 : w3.cell? ⟨w2.heap.size, 1, none⟩ = some (.slice ai ni ci) := by rw [cellAt hblk]; rfl
        have y2 : w3.cell? ⟨w2.heap.size, 2, none⟩ = some (.slice ar nr cr) := by rw [cellAt hblk]; rfl
        have y3 : w3.cell? ⟨w2.heap.size, 3, none⟩ = some (.slice au nu cu) := by rw [cellAt hblk]; rfl
        have s0 : (bs (ordT [59] (ps.map pkS0))).size ≤ 2163500000 := by
          rw [bs_size]
          have := ordT_len [59] (ps.map pkS0) 2700000 (fun a ha => by obtain ⟨c, hc, rfl⟩ := List.mem_map.1 ha; have := pkS_len c (HSM.out.pack c (by rw [HPS.out]; exact hc)); unfold pkS at this; simp at this; omega)
          rw [List.length_map] at this
          exact Nat.le_trans this (Nat.le_trans (Nat.mul_le_mul_right _ hpl) (by decide))
        have s1 : (bs (ordT [44] (d.ins.map cnT))).size ≤ 4000 := by rw [bs_size]; exact csS_len _ HSM.out.ins
        have s2 : (bs (ordT [44] (d.rem.map cnT))).size ≤ 4000 := by rw [bs_size]; exact csS_len _ HSM.out.rem
        have s3 : (bs (ordT [44] (d.upg.map cnT))).size ≤ 4000 := by rw [bs_size]; exact csS_len _ HSM.out.upg
        unfold strV
        clear hb3 hblk HBK HDr HBr HST y0
        by_cases hne : ps = []
        · have hz' : ¬ (0 : Int) < (ps.length : Int) := by rw [hne]; simp
          have HN0 : Hid (ps = []) := hne
          clear hne
          have g0 : ¬ 9223372036854775807 < (bs (ordT [59] (ps.map pkS0))).size + 1 := by omega
          have g1 : ¬ 9223372036854775807 < (bs (ordT [59] (ps.map pkS0))).size + 1 + (bs (ordT [44] (d.ins.map cnT))).size := by omega
          have g2 : ¬ 9223372036854775807 < (bs (ordT [59] (ps.map pkS0))).size + 1 + (bs (ordT [44] (d.ins.map cnT))).size + 1 := by omega
          have g3 : ¬ 9223372036854775807 < (bs (ordT [59] (ps.map pkS0))).size + 1 + (bs (ordT [44] (d.ins.map cnT))).size + 1 + (bs (ordT [44] (d.rem.map cnT))).size := by omega
          have g4 : ¬ 9223372036854775807 < (bs (ordT [59] (ps.map pkS0))).size + 1 + (bs (ordT [44] (d.ins.map cnT))).size + 1 + (bs (ordT [44] (d.rem.map cnT))).size + 1 := by omega
          have g5 : ¬ 9223372036854775807 < (bs (ordT [59] (ps.map pkS0))).size + 1 + (bs (ordT [44] (d.ins.map cnT))).size + 1 + (bs (ordT [44] (d.rem.map cnT))).size + 1 + (bs (ordT [44] (d.upg.map cnT))).size := by omega
          have HEF : Hid (bs (rdcS d) = bs (ordT [59] (ps.map pkS0)) ++ bs [47] ++ bs (ordT [44] (d.ins.map cnT)) ++ bs [47] ++ bs (ordT [44] (d.rem.map cnT)) ++ bs [47] ++ bs (ordT [44] (d.upg.map cnT))) := by
            show _ = _
            unfold rdcS
            rw [HPS.out, HN0.out]
            simp only [bs_app]
            rfl
          go_wp2_with fail
          go_region_held3 (fun w' => w'.cell? ⟨w2.heap.size, 1, none⟩ = some (.slice ai ni ci) ∧ w'.cell? ⟨w2.heap.size, 2, none⟩ = some (.slice ar nr cr) ∧ w'.cell? ⟨w2.heap.size, 3, none⟩ = some (.slice au nu cu)) (repeat (first | exact ⟨y1, y2, y3⟩ | refine threeV (by assumption) ?_))
            (first
              | (go_at_call_of 103 (Value.slice ai ni ci); refine (ref_usual44 (.slice ai ni ci) (d.ins.map cnT) _ (by have := HSM.out.ins; simp; omega) (fun a ha => by obtain ⟨c, _, rfl⟩ := List.mem_map.1 ha; have := cnT_len c; omega) (by exact (HD3.out.2.1).drew)).mono ?_; rintro e wa ⟨rfl, hba⟩; have hCa := (HD3.out.2.2.1.drew).below hba; have hPa := (HD3.out.2.2.2.drew).below hba)
              | (go_at_call_of 103 (Value.slice ar nr cr); refine (ref_usual44 (.slice ar nr cr) (d.rem.map cnT) _ (by have := HSM.out.rem; simp; omega) (fun a ha => by obtain ⟨c, _, rfl⟩ := List.mem_map.1 ha; have := cnT_len c; omega) (by exact hCa)).mono ?_; rintro e wb ⟨rfl, hbb⟩; have hPb := hPa.below hbb)
              | (go_at_call_of 103 (Value.slice au nu cu); refine (ref_usual44 (.slice au nu cu) (d.upg.map cnT) _ (by have := HSM.out.upg; simp; omega) (fun a ha => by obtain ⟨c, _, rfl⟩ := List.mem_map.1 ha; have := cnT_len c; omega) (by exact hPb)).mono ?_; rintro e wc ⟨rfl, hbc⟩))
          all_goals (try go_wp2)
          go_ret2
          exact ⟨by rw [HT.out, HEF.out, HE.out]; rfl, HB3.out.trans ((((below_drew hba).trans (hbb.mono (below_drew hba).size)).trans (hbc.mono (Nat.le_trans (below_drew hba).size hbb.size))).mono HB3.out.size)⟩
        · have hz' : (0 : Int) < (ps.length : Int) := by have := List.length_pos_iff.2 hne; omega
          have g0 : ¬ 9223372036854775807 < (bs (ordT [59] (ps.map pkS0))).size + 1 + 1 := by omega
          have g1 : ¬ 9223372036854775807 < (bs (ordT [59] (ps.map pkS0))).size + 1 + 1 + (bs (ordT [44] (d.ins.map cnT))).size := by omega
          have g2 : ¬ 9223372036854775807 < (bs (ordT [59] (ps.map pkS0))).size + 1 + 1 + (bs (ordT [44] (d.ins.map cnT))).size + 1 := by omega
          have g3 : ¬ 9223372036854775807 < (bs (ordT [59] (ps.map pkS0))).size + 1 + 1 + (bs (ordT [44] (d.ins.map cnT))).size + 1 + (bs (ordT [44] (d.rem.map cnT))).size := by omega
          have g4 : ¬ 9223372036854775807 < (bs (ordT [59] (ps.map pkS0))).size + 1 + 1 + (bs (ordT [44] (d.ins.map cnT))).size + 1 + (bs (ordT [44] (d.rem.map cnT))).size + 1 := by omega
          have g5 : ¬ 9223372036854775807 < (bs (ordT [59] (ps.map pkS0))).size + 1 + 1 + (bs (ordT [44] (d.ins.map cnT))).size + 1 + (bs (ordT [44] (d.rem.map cnT))).size + 1 + (bs (ordT [44] (d.upg.map cnT))).size := by omega
          have HEF : Hid (bs (rdcS d) = bs (ordT [59] (ps.map pkS0)) ++ bs [59] ++ bs [47] ++ bs (ordT [44] (d.ins.map cnT)) ++ bs [47] ++ bs (ordT [44] (d.rem.map cnT)) ++ bs [47] ++ bs (ordT [44] (d.upg.map cnT))) := by
            show _ = _
            unfold rdcS
            rw [HPS.out, show ps.isEmpty = false from List.isEmpty_eq_false_iff.2 hne]
            simp only [bs_app]
            rfl
          go_wp2_with fail
          go_region_held3 (fun w' => w'.cell? ⟨w2.heap.size, 1, none⟩ = some (.slice ai ni ci) ∧ w'.cell? ⟨w2.heap.size, 2, none⟩ = some (.slice ar nr cr) ∧ w'.cell? ⟨w2.heap.size, 3, none⟩ = some (.slice au nu cu)) (repeat (first | exact ⟨y1, y2, y3⟩ | refine threeV (by assumption) ?_))
            (first
              | (go_at_call_of 103 (Value.slice ai ni ci); refine (ref_usual44 (.slice ai ni ci) (d.ins.map cnT) _ (by have := HSM.out.ins; simp; omega) (fun a ha => by obtain ⟨c, _, rfl⟩ := List.mem_map.1 ha; have := cnT_len c; omega) (by exact (HD3.out.2.1).drew)).mono ?_; rintro e wa ⟨rfl, hba⟩; have hCa := (HD3.out.2.2.1.drew).below hba; have hPa := (HD3.out.2.2.2.drew).below hba)
              | (go_at_call_of 103 (Value.slice ar nr cr); refine (ref_usual44 (.slice ar nr cr) (d.rem.map cnT) _ (by have := HSM.out.rem; simp; omega) (fun a ha => by obtain ⟨c, _, rfl⟩ := List.mem_map.1 ha; have := cnT_len c; omega) (by exact hCa)).mono ?_; rintro e wb ⟨rfl, hbb⟩; have hPb := hPa.below hbb)
              | (go_at_call_of 103 (Value.slice au nu cu); refine (ref_usual44 (.slice au nu cu) (d.upg.map cnT) _ (by have := HSM.out.upg; simp; omega) (fun a ha => by obtain ⟨c, _, rfl⟩ := List.mem_map.1 ha; have := cnT_len c; omega) (by exact hPb)).mono ?_; rintro e wc ⟨rfl, hbc⟩))
          all_goals (try go_wp2)
          go_ret2
          exact ⟨by rw [HT.out, HEF.out, HE.out]; rfl, HB3.out.trans ((((below_drew hba).trans (hbb.mono (below_drew hba).size)).trans (hbc.mono (Nat.le_trans (below_drew hba).size hbb.size))).mono HB3.out.size)⟩
  · have HT : Hid (rshT s.data.toList = []) := by show _ = _; unfold rshT; rw [if_neg h]
    have hz : ((rdE s.data.toList : Int) != 0) = true := by rw [bne_iff_ne]; omega
    go_enter Tryz.func59, Tryz.ntmps59
    go_wp2_with fail
    refine (ref_Check s _ hs).mono ?_
    rintro e w1 ⟨rfl, hb1⟩
    go_wp2
    go_ret2
    exact ⟨by rw [HT.out]; rfl, hb1⟩

end Go.Proofs.YtenbnmbbfeekpabGreatDoor
