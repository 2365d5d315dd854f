import Derived.Test.YtdfnnpakdbhhpaaGreatDoorRfA
import Derived.Test.YtdfnnpakdbhhpaaGreatDoorShD
import Derived.Test.YtdfnnpakdbhhpaaGreatDoorRefG
namespace Go.Proofs.YtdfnnpakdbhhpaaGreatDoor
open Go.RowKit

set_option maxHeartbeats 1600000 in
set_option maxRecDepth 100000 in
theorem ref_usualNeeds (v : Value) (l : List (List Cn)) (w : World) (hl : l.length ≤ 801) (hl2 : ∀ n ∈ l, n.length ≤ 801 ∧ (ndT n).length ≤ 800) (hok : ∀ n ∈ l, NdOk n) (hst : StAt w v (l.map ndT)) :
    Calls Tryz.prog 58 #[v] w fun e w' => e = .returned (strV (ordT [44] (l.map ndS))) ∧ Below w.heap.size w w' := by
  obtain ⟨i0, hi, hz0, hz1, hz2⟩ := info_parts Tryz.infoStr
  obtain ⟨ao, cap, rfl, hcell⟩ : ∃ ao cap, v = .slice ao l.length cap ∧ ∀ j (h : j < l.length), ∃ g, ao = some ⟨g, 0, none⟩ ∧ g < w.heap.size ∧ w.cell? ⟨g, j, none⟩ = some (.string (bs (ndT l[j]))) := by
    rcases hst.cells with ⟨rfl, h0⟩ | ⟨g, cap, rfl, hg, hx⟩
    · have : l = [] := by simpa using h0
      subst this
      exact ⟨none, 0, rfl, fun j h => by simp at h⟩
    · exact ⟨_, _, by rw [List.length_map], fun j h => ⟨g, rfl, hg, hx j _ (by simp [h])⟩⟩
  have HC : Hid _ := hcell
  have HOK : Hid (∀ n ∈ l, NdOk n) := hok
  have HL2 : Hid (∀ n ∈ l, n.length ≤ 801 ∧ (ndT n).length ≤ 800) := hl2
  clear hcell hst hok hl2
  go_enter Tryz.func58, Tryz.ntmps58
  go_wp2
  go_loopw [3, 4] (fun o i wr => ∃ k : Nat, k ≤ l.length ∧ i = .int .i64 k ∧ wr.ownsRow w.heap.size 9 1 o k ((l.map fun c => strV (ndS c)).take k) ∧ Below w.heap.size w wr) (fun _ i _ => l.length - (intOf i).toNat)
  case atStart => exact ⟨0, by omega, rfl, World.ownsRow_nil _ _ _ _, Below.refl _ _⟩
  case round =>
    obtain ⟨k, hk, rfl, hown, hb⟩ := hrel
    have hbs := hb.size
    by_cases hlt : k < l.length
    · obtain ⟨g, rfl, hg, x0⟩ := HC.out k hlt
      rw [← hb.cell (p := ⟨g, _, none⟩) hg] at x0
      have hc : NdOk l[k] := HOK.out _ (List.getElem_mem _)
      have hcl := HL2.out _ (List.getElem_mem hlt)
      have HS : Hid ((l.map (fun c => strV (ndS c))).take (k + 1) = (l.map (fun c => strV (ndS c))).take k ++ [strV (ndS l[k])]) := by show _ = _; rw [List.take_succ_eq_append_getElem (by simpa using hlt), List.getElem_map]
      generalize l[k] = N at *
      have HCC : Hid (NdOk N) := hc
      have HO : Hid _ := hown
      clear hc
      go_wp2_with fail
      refine (ref_split' (bs (ndT N)) 124 124 rfl _ (by rw [bs_size]; exact hcl.2)).mono ?_
      rintro e w1 ⟨a1, n1, c1, rfl, h1, hb1⟩
      rw [bs_list, nd_split HCC.out] at h1
      have HST : Hid (StAt w1 (.slice a1 n1 c1) (N.map cnT)) := StAt.of h1
      have hown1 := World.ownsRow.kept (row := none) hown ⟨hb1.os, hb1.tape, hb1.output, hb1.size, fun k hk _ => hb1.block k hk⟩ (by rcases Value.ownBlock _ with _ | k <;> simp)
      have hs1 := hb1.size
      have HB1 : Hid (Below w.heap.size w w1) := hb.trans (hb1.mono hbs)
      clear h1 hb1 hown HO hb
      go_wp2_with fail
      refine (ref_usual (.slice a1 n1 c1) (N.map cnT) 124 124 rfl (by omega) _ (by simp; omega) (fun a ha => by obtain ⟨d, _, rfl⟩ := List.mem_map.1 ha; have := cnT_len d; omega) HST.out).mono ?_
      rintro e w2 ⟨rfl, hb2⟩
      have hown2 := World.ownsRow.kept (row := none) hown1 ⟨hb2.os, hb2.tape, hb2.output, hb2.size, fun k hk _ => hb2.block k hk⟩ (by rcases Value.ownBlock _ with _ | k <;> simp)
      have hs2 := hb2.size
      have HB2 : Hid (Below w.heap.size w w2) := HB1.out.trans (hb2.mono (by omega))
      rw [show ordT [b8 124] (N.map cnT) = ndS N from rfl]
      unfold strV at *
      clear hb2 HST HB1 hown1
      go_wp2_with (at_builtin; refine wpList_append_own _ rfl _ _ 67 rfl w.heap.size 9 i0 (.string ByteArray.empty) 1 16 Tryz.underlying67 hi hz0 hz1 hz2 rfl (by decide) _ _ _ rfl (hown2.alloc _) ⟨w2.heap.size, 0, none⟩ 1 1 [.string (bs (ndS N))] rfl rfl ?c1 ?c2 ?c3 ?c4 ?c5 ?_)
      case c1 => exact cell_one_new _ _ _
      case c2 => intro u hu; simp at hu; subst hu; rfl
      case c3 => unfold maxLen; omega
      case c4 => omega
      case c5 => simp; omega
      intro v' w3 hown' hgrow _
      have HB3 : Hid (Below w.heap.size w w3) := (HB2.out.alloc (by omega) _).grown hgrow (by simp; omega) (fun j hj => (hown2.lt j hj).1)
      have HO2 : Hid (w3.ownsRow w.heap.size 9 1 v' (k + 1) ((l.map fun c => Value.string (bs (ndS c))).take (k + 1))) := by show World.ownsRow _ _ _ _ _ _ _; rw [HS.out]; exact hown'
      clear hown' hgrow hown2
      go_wp2
      go_roundw
      case rel => exact ⟨k + 1, by omega, by go_num, HO2.out, HB3.out⟩
      case measure => simp [intOf]; omega
    · have hkl : k = l.length := by omega
      have hst := StAt.ofMap (f := ndS) hown hkl
      have HST : Hid _ := hst
      have HB : Hid (Below w.heap.size w wr) := hb
      clear hst hown hb hkl
      go_wp2_with fail
      refine (ref_usual _ (l.map ndS) 44 44 rfl (by omega) _ (by simp; omega) (fun a ha => by obtain ⟨c, hc, rfl⟩ := List.mem_map.1 ha; have := ndS_len c (HL2.out c hc).1; omega) HST.out).mono ?_
      rintro e w1 ⟨rfl, hb1⟩
      have HB1 : Hid (Below w.heap.size w w1) := HB.out.trans (hb1.mono HB.out.size)
      clear hb1
      go_wp2
      go_ret
      exact ⟨rfl, HB1.out⟩

end Go.Proofs.YtdfnnpakdbhhpaaGreatDoor
