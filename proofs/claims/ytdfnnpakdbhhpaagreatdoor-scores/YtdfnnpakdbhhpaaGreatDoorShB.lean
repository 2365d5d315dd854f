import Derived.Test.YtdfnnpakdbhhpaaGreatDoorShA
namespace Go.Proofs.YtdfnnpakdbhhpaaGreatDoor
open Go.RowKit

set_option maxHeartbeats 1600000 in
set_option maxRecDepth 100000 in
theorem doc_inOrder (v : Value) (l : List (List UInt8)) (sp : ByteArray) (w : World) (hl : l.length ≤ 2000) (hM : ∀ a ∈ l, a.length ≤ 3000000) (hsp : sp.size ≤ 10) (hst : StAt w v l) :
    Calls Tryz.prog 44 #[v, .string sp] w fun e w' => e = .returned (strV (ordT sp.data.toList l)) ∧ w' = w := by
  obtain ⟨S, rfl⟩ : ∃ S, sp = bs S := ⟨sp.data.toList, rfl⟩
  rw [bs_list]
  obtain ⟨ao, cap, rfl⟩ : ∃ ao cap, v = .slice ao l.length cap := by
    rcases hst.cells with ⟨rfl, rfl⟩ | ⟨g, cap, rfl, _, _⟩
    · exact ⟨none, 0, rfl⟩
    · exact ⟨_, _, rfl⟩
  have HC : Hid (StAt w (.slice ao l.length cap) l) := hst
  have HM : Hid (∀ a ∈ l, a.length ≤ 3000000) := hM
  clear hst hM
  go_enter Tryz.func44, Tryz.ntmps44
  go_wp2
  go_loop [5, 6, 10] (fun t m i => ∃ (k : Nat) (T L : List UInt8), k ≤ l.length ∧ i = .int .i64 k ∧ t = .string (bs T) ∧ m = .string (bs L) ∧ (bs T).size ≤ k * 3000010 ∧ Hid (ordT S l = ordGo S l (l.length - k) T L)) (fun _ _ i => l.length - (intOf i).toNat)
  case atStart => exact ⟨0, [], [], by omega, rfl, rfl, rfl, by decide, rfl⟩
  case round =>
    obtain ⟨k, T, L, hk, rfl, rfl, rfl, hTs, HO⟩ := hrel
    by_cases hlt : k < l.length
    · have HD : Hid (ordT S l = if (sel l L).isEmpty then T else ordGo S l (l.length - (k + 1)) (T ++ (if L.isEmpty then [] else S) ++ sel l L) (sel l L)) := by
        show _ = _; rw [HO.out, show l.length - k = (l.length - (k + 1)) + 1 by omega, ordGo]
      clear HO
      have hsel : (bs (sel l L)).size ≤ 3000000 := by
        rw [bs_size]
        rcases sel_mem L l [] with h | h
        · show (sel l L).length ≤ _; unfold sel; rw [h]; simp
        · exact HM.out _ h
      go_wp2_with fail
      refine (doc_leastAbove _ l (bs L) _ hl HC.out).mono ?_
      rintro e w1 ⟨rfl, rfl⟩
      rw [bs_list]
      unfold strV
      rcases h1 : (bs (sel l L)).toList.isEmpty with _ | _
      · rcases h2 : (bs L).toList.isEmpty with _ | _
        · have HE : Hid (ordT S l = ordGo S l (l.length - (k + 1)) (T ++ S ++ sel l L) (sel l L)) := by
            show _ = _; rw [tl] at h1 h2; rw [HD.out, h1, h2]; rfl
          clear HD
          go_wp2
          go_round
          case rel => exact ⟨k + 1, T ++ S ++ sel l L, sel l L, by omega, by go_num, by rw [bs_app, bs_app], rfl, by rw [bs_size] at hTs hsp hsel ⊢; simp only [List.length_append]; omega, HE⟩
          case measure => simp [intOf]; omega
        · have HE : Hid (ordT S l = ordGo S l (l.length - (k + 1)) (T ++ sel l L) (sel l L)) := by
            show _ = _; rw [tl] at h1 h2; rw [HD.out, h1, h2]; simp
          clear HD
          go_wp2
          go_round
          case rel => exact ⟨k + 1, T ++ sel l L, sel l L, by omega, by go_num, by rw [bs_app], rfl, by rw [bs_size] at hTs hsp hsel ⊢; simp only [List.length_append]; omega, HE⟩
          case measure => simp [intOf]; omega
      · have HE : Hid (ordT S l = T) := by show _ = _; rw [tl] at h1; rw [HD.out, h1]; rfl
        clear HD
        go_wp2
        go_ret
        exact ⟨ret_str (by rw [HE.out]), rfl⟩
    · have HE : Hid (ordT S l = T) := by show _ = _; rw [HO.out, show l.length - k = 0 by omega]; rfl
      go_wp2
      go_ret
      exact ⟨ret_str (by rw [HE.out]), rfl⟩

end Go.Proofs.YtdfnnpakdbhhpaaGreatDoor
