import Derived.Test.YtdfnnpakdbhhpaaGreatDoorShC
import Derived.Test.YtdfnnpakdbhhpaaGreatDoorRefD
namespace Go.Proofs.YtdfnnpakdbhhpaaGreatDoor
open Go.RowKit

theorem cs_row {B : Nat} {w : World} {v : Value} {l : List Cn} (h : CsAt B w v l) : (v = .slice none 0 0 ∧ l = []) ∨ ∃ g cap, v = .slice (some ⟨g, 0, none⟩) l.length cap ∧ g < w.heap.size ∧ ∀ j (h : j < l.length), w.cell? ⟨g, j * 3, none⟩ = some (.int .u8 l[j].n) ∧ w.cell? ⟨g, j * 3 + 1, none⟩ = some (.int .u8 l[j].s) ∧ w.cell? ⟨g, j * 3 + 2, none⟩ = some (.int .u8 l[j].v) := by
  rcases own_shape h with ⟨rfl, h0⟩ | ⟨g, cap, rfl, hc⟩
  · exact Or.inl ⟨rfl, List.eq_nil_of_length_eq_zero h0⟩
  · refine Or.inr ⟨g, cap, rfl, own_lt h, fun j hj => ?_⟩
    have h3 : ∀ c ∈ l.map cnCells, c.length = 3 := fun c hc => by obtain ⟨d, _, rfl⟩ := List.mem_map.1 hc; rfl
    have hf : ∀ k, k < 3 → (cnFlat l)[j * 3 + k]? = (cnCells l[j])[k]? := fun k hk => by
      unfold cnFlat
      rw [List.flatMap_def, flat_get 3 _ h3 j k hk]
      simp [hj]
    exact ⟨own_cell h _ _ (hf 0 (by omega)), own_cell h _ _ (hf 1 (by omega)), own_cell h _ _ (hf 2 (by omega))⟩

theorem StAt.ofMap {α : Type} {f : α → List UInt8} {l : List α} {w : World} {base k : Nat} {v : Value} (h : w.ownsRow base 9 1 v k ((l.map fun c => strV (f c)).take k)) (hk : k = l.length) : StAt w v (l.map f) := by
  subst hk
  rw [List.take_of_length_le (by simp)] at h
  refine StAt.of (base := base) ?_
  simpa [Function.comp_def] using h
theorem cnT_len (c : Cn) : (cnT c).length ≤ 3 := by unfold cnT; split <;> simp

set_option maxHeartbeats 1600000 in
set_option maxRecDepth 100000 in
theorem doc_constraintsText (B : Nat) (v : Value) (l : List Cn) (sp : ByteArray) (w : World) (hl : l.length ≤ 801) (hok : ∀ c ∈ l, CnOk c) (hsp : sp.size ≤ 10) (hcs : CsAt B w v l) :
    Calls Tryz.prog 45 #[v, .string sp] w fun e w' => e = .returned (strV (ordT sp.data.toList (l.map cnT))) ∧ Below w.heap.size w w' := by
  obtain ⟨i0, hi, hz0, hz1, hz2⟩ := info_parts Tryz.infoStr
  obtain ⟨ao, cap, rfl, hcell⟩ : ∃ ao cap, v = .slice ao l.length cap ∧ ∀ j (h : j < l.length), ∃ g, ao = some ⟨g, 0, none⟩ ∧ g < w.heap.size ∧ w.cell? ⟨g, j * 3, none⟩ = some (.int .u8 l[j].n) ∧ w.cell? ⟨g, j * 3 + 1, none⟩ = some (.int .u8 l[j].s) ∧ w.cell? ⟨g, j * 3 + 2, none⟩ = some (.int .u8 l[j].v) := by
    rcases cs_row hcs with ⟨rfl, rfl⟩ | ⟨g, cap, rfl, hg, hx⟩
    · exact ⟨none, 0, rfl, fun j h => by simp at h⟩
    · exact ⟨_, _, rfl, fun j h => ⟨g, rfl, hg, hx j h⟩⟩
  have HC : Hid _ := hcell
  have HOK : Hid (∀ c ∈ l, CnOk c) := hok
  clear hcell hcs hok
  go_enter Tryz.func45, Tryz.ntmps45
  go_wp2
  go_loopw [5, 11] (fun o i wr => ∃ k : Nat, k ≤ l.length ∧ i = .int .i64 k ∧ wr.ownsRow w.heap.size 9 1 o k ((l.map fun c => strV (cnT c)).take k) ∧ Below w.heap.size w wr) (fun _ i _ => l.length - (intOf i).toNat)
  case atStart => exact ⟨0, by omega, rfl, World.ownsRow_nil _ _ _ _, Below.refl _ _⟩
  case round =>
    obtain ⟨k, hk, rfl, hown, hb⟩ := hrel
    have hbs := hb.size
    by_cases hlt : k < l.length
    · obtain ⟨g, rfl, hg, x0, x1, x2⟩ := HC.out k hlt
      rw [← hb.cell (p := ⟨g, _, none⟩) hg] at x0 x1 x2
      have hc : CnOk l[k] := HOK.out _ (List.getElem_mem _)
      have HS : Hid ((l.map (fun c => strV (cnT c))).take (k + 1) = (l.map (fun c => strV (cnT c))).take k ++ [strV (cnT l[k])]) := by show _ = _; rw [List.take_succ_eq_append_getElem (by simpa using hlt), List.getElem_map]
      generalize l[k] = c at *
      have HO : Hid _ := hown
      have HCC : Hid (CnOk c) := hc
      clear hc
      go_wp2_with fail
      refine (doc_constraintText c HCC.out _).mono ?_
      rintro e w1 ⟨rfl, hb1⟩
      have hb1' : Below wr.heap.size wr w1 := ((Below.refl _ _).alloc (Nat.le_refl _) _).trans (hb1.mono (by simp))
      have hown1 := World.ownsRow.kept (row := none) hown ⟨hb1'.os, hb1'.tape, hb1'.output, hb1'.size, fun k hk _ => hb1'.block k hk⟩ (by rcases Value.ownBlock _ with _ | k <;> simp)
      have hs1 := hb1'.size
      have HB1 : Hid (Below w.heap.size w w1) := hb.trans (hb1'.mono hbs)
      unfold strV at *
      clear hb1 hb1' HO hown
      go_wp2_with (at_builtin; refine wpList_append_own _ rfl _ _ 67 rfl w.heap.size 9 i0 (.string ByteArray.empty) 1 16 Tryz.underlying67 hi hz0 hz1 hz2 rfl (by decide) _ _ _ rfl (hown1.alloc _) ⟨w1.heap.size, 0, none⟩ 1 1 [.string (bs (cnT c))] rfl rfl ?c1 ?c2 ?c3 ?c4 ?c5 ?_)
      case c1 => exact cell_one_new _ _ _
      case c2 => intro u hu; simp at hu; subst hu; rfl
      case c3 => unfold maxLen; omega
      case c4 => omega
      case c5 => simp; omega
      intro v' w2 hown' hgrow _
      have HB2 : Hid (Below w.heap.size w w2) := (HB1.out.alloc (by omega) _).grown hgrow (by simp; omega) (fun j hj => (hown1.lt j hj).1)
      have HO2 : Hid (w2.ownsRow w.heap.size 9 1 v' (k + 1) ((l.map fun c => Value.string (bs (cnT c))).take (k + 1))) := by show World.ownsRow _ _ _ _ _ _ _; rw [HS.out]; exact hown'
      clear hown' hgrow hown1
      go_wp2
      go_roundw
      case rel => exact ⟨k + 1, by omega, by go_num, HO2.out, HB2.out⟩
      case measure => simp [intOf]; omega
    · have hkl : k = l.length := by omega
      have hst := StAt.ofMap (f := cnT) hown hkl
      have HST : Hid _ := hst
      have HB : Hid (Below w.heap.size w wr) := hb
      clear hst hown hb hkl
      go_wp2_with fail
      refine (doc_inOrder _ (l.map cnT) sp _ (by simp; omega) (fun a ha => by obtain ⟨c, _, rfl⟩ := List.mem_map.1 ha; have := cnT_len c; omega) hsp HST.out).mono ?_
      rintro e w1 ⟨rfl, rfl⟩
      go_wp2
      go_ret
      exact ⟨rfl, HB.out⟩

theorem ord_len (sep : List UInt8) (l : List (List UInt8)) (M : Nat) (hM : ∀ a ∈ l, a.length ≤ M) : ∀ (n : Nat) (t last : List UInt8), (ordGo sep l n t last).length ≤ t.length + n * (M + sep.length)
  | 0, t, last => by simp [ordGo]
  | n + 1, t, last => by
    have hs : (sel l last).length ≤ M := by
      rcases sel_mem last l [] with h | h
      · unfold sel; rw [h]; simp
      · exact hM _ h
    rw [ordGo]
    split
    · omega
    · have ih := ord_len sep l M hM n (t ++ (if last.isEmpty then [] else sep) ++ sel l last) (sel l last)
      have h2 : (if last.isEmpty then [] else sep).length ≤ sep.length := by split <;> simp
      simp only [List.length_append] at ih
      rw [Nat.add_mul]
      omega
theorem ordT_len (sep : List UInt8) (l : List (List UInt8)) (M : Nat) (hM : ∀ a ∈ l, a.length ≤ M) : (ordT sep l).length ≤ l.length * (M + sep.length) := by
  have := ord_len sep l M hM l.length [] []
  simpa [ordT] using this

/-- A row of old memory is there later. -/
theorem own_below' {B : Nat} {w w' : World} {v : Value} {l : List Cn} (h : CsAt B w v l) (hb : Below w.heap.size w w') : CsAt B w' v l := h.kp ((Kp.refl _ _).below hb)

/-- A need in its usual form. -/
def ndS (n : List Cn) : List UInt8 := ordT [124] (n.map cnT)
theorem ndS_len (n : List Cn) (h : n.length ≤ 801) : (ndS n).length ≤ 3204 := by
  have := ordT_len [124] (n.map cnT) 3 (fun a ha => by obtain ⟨c, _, rfl⟩ := List.mem_map.1 ha; exact cnT_len c)
  simp at this
  unfold ndS
  omega

theorem ns_row {B : Nat} {w : World} {v : Value} {l : List (List Cn)} (h : NsAt B w v l) : (v = .slice none 0 0 ∧ l = []) ∨ ∃ g cap, v = .slice (some ⟨g, 0, none⟩) l.length cap ∧ g < w.heap.size ∧ ∀ j (h : j < l.length), ∃ a n c, w.cell? ⟨g, j, none⟩ = some (.slice a n c) ∧ CsAt B w (.slice a n c) l[j] := by
  obtain ⟨vs, h1, h2⟩ := h
  rcases own_shape h1 with ⟨rfl, h0⟩ | ⟨g, cap, rfl, hc⟩
  · exact Or.inl ⟨rfl, List.eq_nil_of_length_eq_zero h0⟩
  · refine Or.inr ⟨g, cap, rfl, own_lt h1, fun j hj => ?_⟩
    obtain ⟨u, hu, hcs⟩ := h2.get (j := j) (List.getElem?_eq_getElem hj)
    obtain ⟨a, n, c, rfl⟩ : ∃ a n c, u = .slice a n c := by rcases own_shape hcs with ⟨rfl, _⟩ | ⟨g, cap, rfl, _⟩ <;> exact ⟨_, _, _, rfl⟩
    exact ⟨a, n, c, own_cell h1 j _ hu, hcs⟩

set_option maxHeartbeats 1600000 in
set_option maxRecDepth 100000 in
theorem doc_needsText (B : Nat) (v : Value) (l : List (List Cn)) (w : World) (hl : l.length ≤ 801) (hl2 : ∀ n ∈ l, n.length ≤ 801) (hok : ∀ n ∈ l, NdOk n) (hns : NsAt B w v l) :
    Calls Tryz.prog 80 #[v] w fun e w' => e = .returned (strV (ordT [44] (l.map ndS))) ∧ Below w.heap.size w w' := by
  obtain ⟨i0, hi, hz0, hz1, hz2⟩ := info_parts Tryz.infoStr
  obtain ⟨ao, cap, rfl, hcell⟩ : ∃ ao cap, v = .slice ao l.length cap ∧ ∀ j (h : j < l.length), ∃ g, ao = some ⟨g, 0, none⟩ ∧ g < w.heap.size ∧ ∃ a n c, w.cell? ⟨g, j, none⟩ = some (.slice a n c) ∧ CsAt B w (.slice a n c) l[j] := by
    rcases ns_row hns with ⟨rfl, rfl⟩ | ⟨g, cap, rfl, hg, hx⟩
    · exact ⟨none, 0, rfl, fun j h => by simp at h⟩
    · exact ⟨_, _, rfl, fun j h => ⟨g, rfl, hg, hx j h⟩⟩
  have HC : Hid _ := hcell
  have HOK : Hid (∀ n ∈ l, NdOk n) := hok
  have HL2 : Hid (∀ n ∈ l, n.length ≤ 801) := hl2
  clear hcell hns hok hl2
  go_enter Tryz.func80, Tryz.ntmps80
  go_wp2
  go_loopw [3, 9] (fun o i wr => ∃ k : Nat, k ≤ l.length ∧ i = .int .i64 k ∧ wr.ownsRow w.heap.size 9 1 o k ((l.map fun c => strV (ndS c)).take k) ∧ Below w.heap.size w wr) (fun _ i _ => l.length - (intOf i).toNat)
  case atStart => exact ⟨0, by omega, rfl, World.ownsRow_nil _ _ _ _, Below.refl _ _⟩
  case round =>
    obtain ⟨k, hk, rfl, hown, hb⟩ := hrel
    have hbs := hb.size
    by_cases hlt : k < l.length
    · obtain ⟨g, rfl, hg, a, n, c, x0, hcs⟩ := HC.out k hlt
      rw [← hb.cell (p := ⟨g, _, none⟩) hg] at x0
      have hcs' : CsAt B wr (.slice a n c) l[k] := own_below' hcs hb
      have hc : NdOk l[k] := HOK.out _ (List.getElem_mem _)
      have hcl : l[k].length ≤ 801 := HL2.out _ (List.getElem_mem _)
      have HS : Hid ((l.map (fun c => strV (ndS c))).take (k + 1) = (l.map (fun c => strV (ndS c))).take k ++ [strV (ndS l[k])]) := by show _ = _; rw [List.take_succ_eq_append_getElem (by simpa using hlt), List.getElem_map]
      generalize l[k] = N at *
      have HCS : Hid (CsAt B wr (.slice a n c) N) := hcs'
      have HCC : Hid (NdOk N) := hc
      clear hc hcs hcs'
      go_wp2_with fail
      refine (doc_constraintsText B (.slice a n c) N (bs [124]) _ hcl HCC.out.2 (by decide) (HCS.out.alloc _)).mono ?_
      rintro e w1 ⟨rfl, hb1⟩
      rw [bs_list]
      have hb1' : Below wr.heap.size wr w1 := ((Below.refl _ _).alloc (Nat.le_refl _) _).trans (hb1.mono (by simp))
      have hown1 := World.ownsRow.kept (row := none) hown ⟨hb1'.os, hb1'.tape, hb1'.output, hb1'.size, fun k hk _ => hb1'.block k hk⟩ (by rcases Value.ownBlock _ with _ | k <;> simp)
      have hs1 := hb1'.size
      have HB1 : Hid (Below w.heap.size w w1) := hb.trans (hb1'.mono hbs)
      rw [show ordT [124] (N.map cnT) = ndS N from rfl]
      unfold strV at *
      clear hb1 hb1' hown HCS
      go_wp2_with (at_builtin; refine wpList_append_own _ rfl _ _ 67 rfl w.heap.size 9 i0 (.string ByteArray.empty) 1 16 Tryz.underlying67 hi hz0 hz1 hz2 rfl (by decide) _ _ _ rfl (hown1.alloc _) ⟨w1.heap.size, 0, none⟩ 1 1 [.string (bs (ndS N))] rfl rfl ?c1 ?c2 ?c3 ?c4 ?c5 ?_)
      case c1 => exact cell_one_new _ _ _
      case c2 => intro u hu; simp at hu; subst hu; rfl
      case c3 => unfold maxLen; omega
      case c4 => omega
      case c5 => simp; omega
      intro v' w2 hown' hgrow _
      have HB2 : Hid (Below w.heap.size w w2) := (HB1.out.alloc (by omega) _).grown hgrow (by simp; omega) (fun j hj => (hown1.lt j hj).1)
      have HO2 : Hid (w2.ownsRow w.heap.size 9 1 v' (k + 1) ((l.map fun c => Value.string (bs (ndS c))).take (k + 1))) := by show World.ownsRow _ _ _ _ _ _ _; rw [HS.out]; exact hown'
      clear hown' hgrow hown1
      go_wp2
      go_roundw
      case rel => exact ⟨k + 1, by omega, by go_num, HO2.out, HB2.out⟩
      case measure => simp [intOf]; omega
    · have hkl : k = l.length := by omega
      have hst := StAt.ofMap (f := ndS) hown hkl
      have HST : Hid _ := hst
      have HB : Hid (Below w.heap.size w wr) := hb
      clear hst hown hb hkl
      go_wp2_with fail
      refine (doc_inOrder _ (l.map ndS) (bs [44]) _ (by simp; omega) (fun a ha => by obtain ⟨c, hc, rfl⟩ := List.mem_map.1 ha; have := ndS_len c (HL2.out c hc); omega) (by decide) HST.out).mono ?_
      rintro e w1 ⟨rfl, rfl⟩
      rw [bs_list]
      go_wp2
      go_ret
      exact ⟨rfl, HB.out⟩

theorem bs_row {B : Nat} {w : World} {v : Value} {l : List Nat} (h : BsAt B w v l) : (v = .slice none 0 0 ∧ l = []) ∨ ∃ g cap, v = .slice (some ⟨g, 0, none⟩) l.length cap ∧ g < w.heap.size ∧ ∀ j (h : j < l.length), w.cell? ⟨g, j, none⟩ = some (.int .u8 (l[j] : Int)) := by
  rcases own_shape h with ⟨rfl, h0⟩ | ⟨g, cap, rfl, hc⟩
  · exact Or.inl ⟨rfl, List.eq_nil_of_length_eq_zero h0⟩
  · exact Or.inr ⟨g, cap, rfl, own_lt h, fun j hj => own_cell h j _ (by simp [hj])⟩

set_option maxHeartbeats 1600000 in
set_option maxRecDepth 100000 in
theorem doc_namesText (B : Nat) (v : Value) (l : List Nat) (w : World) (hl : l.length ≤ 801) (hok : ∀ n ∈ l, nmB (n : Nat) = true) (hns : BsAt B w v l) :
    Calls Tryz.prog 81 #[v] w fun e w' => e = .returned (strV (ordT [44] (l.map fun c => [b8 c]))) ∧ Below w.heap.size w w' := by
  obtain ⟨i0, hi, hz0, hz1, hz2⟩ := info_parts Tryz.infoStr
  obtain ⟨ao, cap, rfl, hcell⟩ : ∃ ao cap, v = .slice ao l.length cap ∧ ∀ j (h : j < l.length), ∃ g, ao = some ⟨g, 0, none⟩ ∧ g < w.heap.size ∧ w.cell? ⟨g, j, none⟩ = some (.int .u8 (l[j] : Int)) := by
    rcases bs_row hns with ⟨rfl, rfl⟩ | ⟨g, cap, rfl, hg, hx⟩
    · exact ⟨none, 0, rfl, fun j h => by simp at h⟩
    · exact ⟨_, _, rfl, fun j h => ⟨g, rfl, hg, hx j h⟩⟩
  have HC : Hid _ := hcell
  have HOK : Hid (∀ n ∈ l, nmB (n : Nat) = true) := hok
  clear hcell hns hok
  go_enter Tryz.func81, Tryz.ntmps81
  go_wp2
  go_loopw [3, 8] (fun o i wr => ∃ k : Nat, k ≤ l.length ∧ i = .int .i64 k ∧ wr.ownsRow w.heap.size 9 1 o k ((l.map fun (c : Nat) => strV [b8 c]).take k) ∧ Below w.heap.size w wr) (fun _ i _ => l.length - (intOf i).toNat)
  case atStart => exact ⟨0, by omega, rfl, World.ownsRow_nil _ _ _ _, Below.refl _ _⟩
  case round =>
    obtain ⟨k, hk, rfl, hown, hb⟩ := hrel
    have hbs := hb.size
    by_cases hlt : k < l.length
    · obtain ⟨g, rfl, hg, x0⟩ := HC.out k hlt
      rw [← hb.cell (p := ⟨g, _, none⟩) hg] at x0
      have hn : l[k] < 256 := nm_lt (HOK.out _ (List.getElem_mem _))
      have HS : Hid ((l.map (fun (c : Nat) => strV [b8 c])).take (k + 1) = (l.map (fun (c : Nat) => strV [b8 c])).take k ++ [strV [b8 l[k]]]) := by show _ = _; rw [List.take_succ_eq_append_getElem (by simpa using hlt), List.getElem_map]
      generalize l[k] = N at *
      have hcv := conv1 wr N hn
      have hown1 := hown.alloc (.cells #[.int .u8 N] 5)
      unfold strV at *
      go_wp2_with (at_builtin; refine wpList_append_own _ rfl _ _ 67 rfl w.heap.size 9 i0 (.string ByteArray.empty) 1 16 Tryz.underlying67 hi hz0 hz1 hz2 rfl (by decide) _ _ _ rfl (hown1.alloc _) ⟨wr.heap.size + 1, 0, none⟩ 1 1 [.string (bs [b8 N])] rfl rfl ?c1 ?c2 ?c3 ?c4 ?c5 ?_)
      case c1 => have := cell_one_new (wr.alloc (.cells #[.int .u8 N] 5)) (.string (bs [b8 N])) 9; rwa [World.size_alloc] at this
      case c2 => intro u hu; simp at hu; subst hu; rfl
      case c3 => unfold maxLen; omega
      case c4 => omega
      case c5 => simp; omega
      intro v' w2 hown' hgrow _
      have HB2 : Hid (Below w.heap.size w w2) := ((hb.alloc hbs _).alloc (by simp; omega) _).grown hgrow (by simp; omega) (fun j hj => (hown1.lt j hj).1)
      have HO2 : Hid (w2.ownsRow w.heap.size 9 1 v' (k + 1) ((l.map fun (c : Nat) => Value.string (bs [b8 c])).take (k + 1))) := by show World.ownsRow _ _ _ _ _ _ _; rw [HS.out]; exact hown'
      clear hown' hgrow hown1 hown hb
      go_wp2
      go_roundw
      case rel => exact ⟨k + 1, by omega, by go_num, HO2.out, HB2.out⟩
      case measure => simp [intOf]; omega
    · have hkl : k = l.length := by omega
      have hst := StAt.ofMap (f := fun (c : Nat) => [b8 c]) hown hkl
      have HST : Hid _ := hst
      have HB : Hid (Below w.heap.size w wr) := hb
      clear hst hown hb hkl
      go_wp2_with fail
      refine (doc_inOrder _ (l.map fun c => [b8 c]) (bs [44]) _ (by simp; omega) (fun a ha => by obtain ⟨c, hc, rfl⟩ := List.mem_map.1 ha; simp) (by decide) HST.out).mono ?_
      rintro e w1 ⟨rfl, rfl⟩
      rw [bs_list]
      go_wp2
      go_ret
      exact ⟨rfl, HB.out⟩

end Go.Proofs.YtdfnnpakdbhhpaaGreatDoor
