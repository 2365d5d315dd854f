import Derived.Test.YtdfnnpakdbhhpaaGreatDoorRdK
import Derived.Test.YtdfnnpakdbhhpaaGreatDoorRepS
import Derived.Test.YtdfnnpakdbhhpaaGreatDoorShM
namespace Go.Proofs.YtdfnnpakdbhhpaaGreatDoor
open Go.RowKit

theorem tl (l : List UInt8) : (bs l).toList = l := by rw [ByteArray.toList_eq, bs_list]
theorem bs_app (a b : List UInt8) : bs a ++ bs b = bs (a ++ b) := by
  apply ByteArray.ext
  simp [bs, ByteArray.data_append]
theorem ret_str {a b : ByteArray} (h : a = b) : Ending.returned (.string a) = .returned (.string b) := by rw [h]

set_option maxHeartbeats 1600000 in
set_option maxRecDepth 100000 in
theorem doc_leastAbove (v : Value) (l : List (List UInt8)) (fl : ByteArray) (w : World) (hl : l.length ≤ 2000) (hst : StAt w v l) :
    Calls Tryz.prog 82 #[v, .string fl] w fun e w' => e = .returned (strV (sel l fl.data.toList)) ∧ w' = w := by
  obtain ⟨F, rfl⟩ : ∃ F, fl = bs F := ⟨fl.data.toList, rfl⟩
  rw [bs_list]
  obtain ⟨ao, cap, rfl, hcell⟩ : ∃ ao cap, v = .slice ao l.length cap ∧ ∀ j (h : j < l.length), ∃ g, ao = some ⟨g, 0, none⟩ ∧ w.cell? ⟨g, j, none⟩ = some (.string (bs l[j])) := by
    rcases hst.cells with ⟨rfl, rfl⟩ | ⟨g, cap, rfl, _, hx⟩
    · exact ⟨none, 0, rfl, fun j h => by simp at h⟩
    · exact ⟨_, _, rfl, fun j h => ⟨g, rfl, hx j _ (List.getElem?_eq_getElem h)⟩⟩
  have HC : Hid _ := hcell
  clear hcell hst
  go_enter Tryz.func82, Tryz.ntmps82
  go_wp2
  go_loop [5, 10] (fun m i => ∃ k : Nat, k ≤ l.length ∧ i = .int .i64 k ∧ m = .string (bs (sel (l.take k) F))) (fun _ i => l.length - (intOf i).toNat)
  case atStart => exact ⟨0, by omega, rfl, rfl⟩
  case round =>
    obtain ⟨k, hk, rfl, rfl⟩ := hrel
    by_cases hlt : k < l.length
    · obtain ⟨g, rfl, x⟩ := HC.out k hlt
      have HS : Hid (sel (l.take (k + 1)) F = selStep F (sel (l.take k) F) l[k]) := by show _ = _; rw [List.take_succ_eq_append_getElem hlt, sel_snoc]
      clear HC
      generalize sel (l.take k) F = L at *
      generalize hX : l[k] = X at *
      clear hX
      have HT : Hid (selStep F L X = if (!(Op.bytesLess (bs X).toList (bs F).toList || (bs X).toList == (bs F).toList)) && ((bs L).toList.isEmpty || Op.bytesLess (bs X).toList (bs L).toList) then X else L) := by
        show _ = _; rw [tl, tl, tl]; rfl
      rcases h1 : Op.bytesLess (bs X).toList (bs F).toList with _ | _
      · rcases h2 : ((bs X).toList == (bs F).toList) with _ | _
        · rcases h3 : (bs L).toList.isEmpty with _ | _
          · rcases h4 : Op.bytesLess (bs X).toList (bs L).toList with _ | _
            · have HE : Hid (sel (l.take (k + 1)) F = L) := by show _ = _; rw [HS.out, HT.out, h1, h2, h3, h4]; rfl
              clear HS HT
              go_wp2
              go_round
              case rel => exact ⟨k + 1, by omega, by go_num, by rw [HE.out]⟩
              case measure => simp [intOf]; omega
            · have HE : Hid (sel (l.take (k + 1)) F = X) := by show _ = _; rw [HS.out, HT.out, h1, h2, h3, h4]; rfl
              clear HS HT
              go_wp2
              go_round
              case rel => exact ⟨k + 1, by omega, by go_num, by rw [HE.out]⟩
              case measure => simp [intOf]; omega
          · have HE : Hid (sel (l.take (k + 1)) F = X) := by show _ = _; rw [HS.out, HT.out, h1, h2, h3]; rfl
            clear HS HT
            go_wp2
            go_round
            case rel => exact ⟨k + 1, by omega, by go_num, by rw [HE.out]⟩
            case measure => simp [intOf]; omega
        · have HE : Hid (sel (l.take (k + 1)) F = L) := by show _ = _; rw [HS.out, HT.out, h1, h2]; rfl
          clear HS HT
          go_wp2
          go_round
          case rel => exact ⟨k + 1, by omega, by go_num, by rw [HE.out]⟩
          case measure => simp [intOf]; omega
      · have HE : Hid (sel (l.take (k + 1)) F = L) := by show _ = _; rw [HS.out, HT.out, h1]; rfl
        clear HS HT
        go_wp2
        go_round
        case rel => exact ⟨k + 1, by omega, by go_num, by rw [HE.out]⟩
        case measure => simp [intOf]; omega
    · have HE : Hid (sel (l.take k) F = sel l F) := by show _ = _; rw [List.take_of_length_le (by omega)]
      clear HC
      go_wp2
      go_ret
      exact ⟨ret_str (by rw [HE.out]), rfl⟩

end Go.Proofs.YtdfnnpakdbhhpaaGreatDoor
