import Derived.Test.YtdfnnpakdbhhpaaGreatDoorShC
namespace Go.Proofs.YtdfnnpakdbhhpaaGreatDoor
open Go.RowKit

set_option maxHeartbeats 3200000 in
set_option maxRecDepth 100000 in
theorem ref_usual (v : Value) (l : List (List UInt8)) (c : Nat) (ci : Int) (hci : ci = (c : Int)) (hc : c < 256) (w : World) (hl : l.length ≤ 2000) (hM : ∀ a ∈ l, a.length ≤ 3000000) (hst : StAt w v l) :
    Calls Tryz.prog 59 #[v, .int .u8 ci] w fun e w' => e = .returned (strV (ordT [b8 c] l)) ∧ Below w.heap.size w w' := by
  subst hci
  obtain ⟨ao, cap, rfl, hcell⟩ : ∃ ao cap, v = .slice ao l.length cap ∧ ∀ j (h : j < l.length), ∃ g, ao = some ⟨g, 0, none⟩ ∧ g < w.heap.size ∧ w.cell? ⟨g, j, none⟩ = some (.string (bs l[j])) := by
    rcases hst.cells with ⟨rfl, rfl⟩ | ⟨g, cap, rfl, hg, hx⟩
    · exact ⟨none, 0, rfl, fun j h => by simp at h⟩
    · exact ⟨_, _, rfl, fun j h => ⟨g, rfl, hg, hx j _ (List.getElem?_eq_getElem h)⟩⟩
  have HC : Hid _ := hcell
  have HM : Hid (∀ a ∈ l, a.length ≤ 3000000) := hM
  clear hcell hst hM
  go_enter Tryz.func59, Tryz.ntmps59
  go_wp2
  go_loopw [5, 6, 7] (fun t m i wr => ∃ (k : Nat) (T L : List UInt8), k ≤ l.length ∧ i = .int .i64 k ∧ t = .string (bs T) ∧ m = .string (bs L) ∧ (bs T).size ≤ k * 3000010 ∧ Hid (ordT [b8 c] l = ordGo [b8 c] l (l.length - k) T L) ∧ Hid (L.isEmpty = decide (k = 0)) ∧ Below w.heap.size w wr) (fun _ _ i _ => l.length - (intOf i).toNat)
  case atStart => exact ⟨0, [], [], by omega, rfl, rfl, rfl, by decide, rfl, rfl, Below.refl _ _⟩
  case round =>
    obtain ⟨k, T, L, hk, rfl, rfl, rfl, hTs, HO, HL, hb⟩ := hrel
    have hbs := hb.size
    by_cases hlt : k < l.length
    · have HD : Hid (ordT [b8 c] l = if (sel l L).isEmpty then T else ordGo [b8 c] l (l.length - (k + 1)) (T ++ (if L.isEmpty then [] else [b8 c]) ++ sel l L) (sel l L)) := by
        show _ = _; rw [HO.out, show l.length - k = (l.length - (k + 1)) + 1 by omega, ordGo]
      clear HO
      have hsel : (bs (sel l L)).size ≤ 3000000 := by
        rw [bs_size]
        rcases sel_mem L l [] with h | h
        · show (sel l L).length ≤ _; unfold sel; rw [h]; simp
        · exact HM.out _ h
      have HB : Hid (Below w.heap.size w wr) := hb
      clear hb
      go_wp2
      go_loop [8, 9] (fun m i => ∃ j : Nat, j ≤ l.length ∧ i = .int .i64 j ∧ m = .string (bs (sel (l.take j) L))) (fun _ i => l.length - (intOf i).toNat)
      case atStart => exact ⟨0, by omega, rfl, rfl⟩
      case round =>
        obtain ⟨j, hj, rfl, rfl⟩ := hrel
        by_cases hjl : j < l.length
        · obtain ⟨g, rfl, hg, x⟩ := HC.out j hjl
          rw [← HB.out.cell (p := ⟨g, _, none⟩) hg] at x
          have HS : Hid (sel (l.take (j + 1)) L = selStep L (sel (l.take j) L) l[j]) := by show _ = _; rw [List.take_succ_eq_append_getElem hjl, sel_snoc]
          have HT : Hid (selStep L (sel (l.take j) L) l[j] = if (!(Op.bytesLess (bs l[j]).toList (bs L).toList || (bs l[j]).toList == (bs L).toList)) && ((bs (sel (l.take j) L)).toList.isEmpty || Op.bytesLess (bs l[j]).toList (bs (sel (l.take j) L)).toList) then l[j] else (sel (l.take j) L)) := by
            show _ = _; rw [tl, tl, tl]; rfl
          clear HC
          generalize sel (l.take j) L = B at *
          generalize hX : l[j] = X at *
          clear hX
          rcases h1 : Op.bytesLess (bs X).toList (bs L).toList with _ | _
          · rcases h2 : ((bs X).toList == (bs L).toList) with _ | _
            · rcases h3 : (bs B).toList.isEmpty with _ | _
              · rcases h4 : Op.bytesLess (bs X).toList (bs B).toList with _ | _
                · have HE : Hid (sel (l.take (j + 1)) L = B) := by show _ = _; rw [HS.out, HT.out, h1, h2, h3, h4]; rfl
                  clear HS HT
                  go_wp2
                  go_round
                  case rel => exact ⟨j + 1, by omega, by go_num, by rw [HE.out]⟩
                  case measure => simp [intOf]; omega
                · have HE : Hid (sel (l.take (j + 1)) L = X) := by show _ = _; rw [HS.out, HT.out, h1, h2, h3, h4]; rfl
                  clear HS HT
                  go_wp2
                  go_round
                  case rel => exact ⟨j + 1, by omega, by go_num, by rw [HE.out]⟩
                  case measure => simp [intOf]; omega
              · have HE : Hid (sel (l.take (j + 1)) L = X) := by show _ = _; rw [HS.out, HT.out, h1, h2, h3]; rfl
                clear HS HT
                go_wp2
                go_round
                case rel => exact ⟨j + 1, by omega, by go_num, by rw [HE.out]⟩
                case measure => simp [intOf]; omega
            · have HE : Hid (sel (l.take (j + 1)) L = B) := by show _ = _; rw [HS.out, HT.out, h1, h2]; rfl
              clear HS HT
              go_wp2
              go_round
              case rel => exact ⟨j + 1, by omega, by go_num, by rw [HE.out]⟩
              case measure => simp [intOf]; omega
          · have HE : Hid (sel (l.take (j + 1)) L = B) := by show _ = _; rw [HS.out, HT.out, h1]; rfl
            clear HS HT
            go_wp2
            go_round
            case rel => exact ⟨j + 1, by omega, by go_num, by rw [HE.out]⟩
            case measure => simp [intOf]; omega
        · have HSE : Hid (sel (l.take j) L = sel l L) := by show _ = _; rw [List.take_of_length_le (by omega)]
          rw [HSE.out]
          clear HC HSE
          rcases h1 : (bs (sel l L)).toList.isEmpty with _ | _
          · by_cases hk0 : k = 0
            · subst hk0
              have HE : Hid (ordT [b8 c] l = ordGo [b8 c] l (l.length - (0 + 1)) (T ++ sel l L) (sel l L)) := by
                show _ = _; rw [tl] at h1; rw [HD.out, h1, HL.out]; simp
              have HL' : Hid ((sel l L).isEmpty = decide (0 + 1 = 0)) := by show _ = _; rw [tl] at h1; rw [h1]; rfl
              clear HD HL
              go_wp2
              go_roundw
              case rel => exact ⟨0 + 1, T ++ sel l L, sel l L, by omega, by go_num, by rw [bs_app], rfl, by rw [bs_size] at hTs hsel ⊢; simp only [List.length_append]; omega, HE, HL', HB.out⟩
              case measure => simp [intOf]; omega
            · have HE : Hid (ordT [b8 c] l = ordGo [b8 c] l (l.length - (k + 1)) (T ++ [b8 c] ++ sel l L) (sel l L)) := by
                show _ = _; rw [tl] at h1; rw [HD.out, h1, HL.out]; simp [hk0]
              have HL' : Hid ((sel l L).isEmpty = decide (k + 1 = 0)) := by show _ = _; rw [tl] at h1; rw [h1]; simp
              have hkp : (0 : Int) < (k : Int) := by omega
              have hcv := conv1 wr c hc
              have hs1 : (bs [b8 c]).size ≤ 1 := by rw [bs_size]; simp
              clear HD HL hk0
              go_wp2
              go_roundw
              case rel => exact ⟨k + 1, T ++ [b8 c] ++ sel l L, sel l L, by omega, by go_num, by rw [bs_app, bs_app], rfl, by rw [bs_size] at hTs hsel ⊢; simp only [List.length_append, List.length_cons, List.length_nil]; omega, HE, HL', HB.out.alloc hbs _⟩
              case measure => simp [intOf]; omega
          · have HE : Hid (ordT [b8 c] l = T) := by show _ = _; rw [tl] at h1; rw [HD.out, h1]; rfl
            clear HD
            go_wp2
            go_ret
            exact ⟨ret_str (by rw [HE.out]), HB.out⟩
    · have HE : Hid (ordT [b8 c] l = T) := by show _ = _; rw [HO.out, show l.length - k = 0 by omega]; rfl
      go_wp2
      go_ret
      exact ⟨ret_str (by rw [HE.out]), hb⟩

end Go.Proofs.YtdfnnpakdbhhpaaGreatDoor
