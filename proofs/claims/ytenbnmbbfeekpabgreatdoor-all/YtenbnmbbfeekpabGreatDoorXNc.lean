import Derived.Test.YtenbnmbbfeekpabGreatDoorXNa

namespace Go.Proofs.YtenbnmbbfeekpabGreatDoor
open Go.RowKit

structure NmSm (n : Nm) : Prop where
  a : n.a < 2 ^ 20
  w : n.w < 2 ^ 20
  l : n.l < 2 ^ 20

set_option maxHeartbeats 6400000 in
theorem name_always (n : Nm) (c s p : Nat) (hn : NmSm n) (hs : s < 2 ^ 20) (hp : p < 2 ^ 20) (w : World) :
    Calls Tryz.prog 120 #[.agg #[.int .u32 n.a, .int .u32 n.w, .int .u32 n.l], .int .u8 c, .agg #[.int .u32 s, .int .u32 p]] w fun e w' => e = .returned (.bool (alwB c s p n)) ∧ Below w.heap.size w w' := by
  have na := hn.a
  have nw := hn.w
  have nl := hn.l
  have x1 : n.a &&& s < 2 ^ 20 := and_lt na
  have x2 : n.a &&& p < 2 ^ 20 := and_lt na
  have a1 := and_u32 n.a s (by omega) (by omega)
  have a2 := and_u32 n.a p (by omega) (by omega)
  have a3 := andNot_u32 (n.a &&& s) n.w (by omega) (by omega)
  have a4 := andNot_u32 n.w (n.a &&& p) (by omega) (by omega)
  have a5 := and_u32 (n.a &&& p) n.l (by omega) (by omega)
  have a6 := and_u32 (n.a &&& s) n.l (by omega) (by omega)
  have a7 := andNot_u32 (n.a &&& p) n.l (by omega) (by omega)
  have HB : Hid (Below w.heap.size w ((w.alloc (.cells #[.int .u32 n.a, .int .u32 n.w, .int .u32 n.l] 157)).alloc (.cells #[.int .u32 s, .int .u32 p] 98))) := ((Below.refl _ _).alloc (Nat.le_refl _) _).alloc (by simp) _
  by_cases hc114 : c = 114
  · have k114 : ((c : Int) == 114) = true := by rw [beq_iff_eq]; omega
    have k110 : ((c : Int) == 110) = false := by rw [beq_eq_false_iff_ne]; omega
    have k99 : ((c : Int) == 99) = false := by rw [beq_eq_false_iff_ne]; omega
    have k117 : ((c : Int) == 117) = false := by rw [beq_eq_false_iff_ne]; omega
    by_cases h1 : n.w = 0
    · have eh1 : (((n.w : Nat) : Int) != 0) = false := by rw [bne_eq_false_iff_eq]; omega
      have HF : Hid (alwB c s p n = false) := by show _ = _; unfold alwB; simp [hc114, h1]
      clear hc114 h1
      go_enter Tryz.func120, Tryz.ntmps120
      go_wp2
      go_ret
      exact ⟨ret_bool HF.out.symm, HB.out⟩
    · have eh1 : (((n.w : Nat) : Int) != 0) = true := by rw [bne_iff_ne]; omega
      by_cases h2 : n.a &&& p = 0
      · have eh2 : (((n.a &&& p : Nat) : Int) == 0) = true := by rw [beq_iff_eq]; omega
        have HF : Hid (alwB c s p n = true) := by show _ = _; unfold alwB; simp [hc114, h1, h2]
        clear hc114 h1 h2
        go_enter Tryz.func120, Tryz.ntmps120
        go_wp2
        go_ret
        exact ⟨ret_bool HF.out.symm, HB.out⟩
      · have eh2 : (((n.a &&& p : Nat) : Int) == 0) = false := by rw [beq_eq_false_iff_ne]; omega
        have HF : Hid (alwB c s p n = false) := by show _ = _; unfold alwB; simp [hc114, h1, h2]
        clear hc114 h1 h2
        go_enter Tryz.func120, Tryz.ntmps120
        go_wp2
        go_ret
        exact ⟨ret_bool HF.out.symm, HB.out⟩
  have k114 : ((c : Int) == 114) = false := by rw [beq_eq_false_iff_ne]; omega
  by_cases hc110 : c = 110
  · have k110 : ((c : Int) == 110) = true := by rw [beq_iff_eq]; omega
    have k99 : ((c : Int) == 99) = false := by rw [beq_eq_false_iff_ne]; omega
    have k117 : ((c : Int) == 117) = false := by rw [beq_eq_false_iff_ne]; omega
    by_cases h1 : n.w = 0
    · have eh1 : (((n.w : Nat) : Int) == 0) = true := by rw [beq_iff_eq]; omega
      by_cases h2 : n.a &&& s = 0
      · have eh2 : (((n.a &&& s : Nat) : Int) != 0) = false := by rw [bne_eq_false_iff_eq]; omega
        have HF : Hid (alwB c s p n = false) := by show _ = _; unfold alwB; simp [hc110, h1, h2]
        clear hc110 h1 h2
        go_enter Tryz.func120, Tryz.ntmps120
        go_wp2
        go_ret
        exact ⟨ret_bool HF.out.symm, HB.out⟩
      · have eh2 : (((n.a &&& s : Nat) : Int) != 0) = true := by rw [bne_iff_ne]; omega
        have HF : Hid (alwB c s p n = true) := by show _ = _; unfold alwB; simp [hc110, h1, h2]
        clear hc110 h1 h2
        go_enter Tryz.func120, Tryz.ntmps120
        go_wp2
        go_ret
        exact ⟨ret_bool HF.out.symm, HB.out⟩
    · have eh1 : (((n.w : Nat) : Int) == 0) = false := by rw [beq_eq_false_iff_ne]; omega
      have HF : Hid (alwB c s p n = false) := by show _ = _; unfold alwB; simp [hc110, h1]
      clear hc110 h1
      go_enter Tryz.func120, Tryz.ntmps120
      go_wp2
      go_ret
      exact ⟨ret_bool HF.out.symm, HB.out⟩
  have k110 : ((c : Int) == 110) = false := by rw [beq_eq_false_iff_ne]; omega
  by_cases hc99 : c = 99
  · have k99 : ((c : Int) == 99) = true := by rw [beq_iff_eq]; omega
    have k117 : ((c : Int) == 117) = false := by rw [beq_eq_false_iff_ne]; omega
    by_cases h1 : adN (n.a &&& s) n.w = 0
    · have eh1 : (((adN (n.a &&& s) n.w : Nat) : Int) != 0) = false := by rw [bne_eq_false_iff_eq]; omega
      by_cases h2 : adN n.w (n.a &&& p) = 0
      · have eh2 : (((adN n.w (n.a &&& p) : Nat) : Int) != 0) = false := by rw [bne_eq_false_iff_eq]; omega
        have HF : Hid (alwB c s p n = false) := by show _ = _; unfold alwB; simp [hc99, h1, h2]
        clear hc99 h1 h2
        go_enter Tryz.func120, Tryz.ntmps120
        go_wp2
        go_ret
        exact ⟨ret_bool HF.out.symm, HB.out⟩
      · have eh2 : (((adN n.w (n.a &&& p) : Nat) : Int) != 0) = true := by rw [bne_iff_ne]; omega
        have HF : Hid (alwB c s p n = true) := by show _ = _; unfold alwB; simp [hc99, h1, h2]
        clear hc99 h1 h2
        go_enter Tryz.func120, Tryz.ntmps120
        go_wp2
        go_ret
        exact ⟨ret_bool HF.out.symm, HB.out⟩
    · have eh1 : (((adN (n.a &&& s) n.w : Nat) : Int) != 0) = true := by rw [bne_iff_ne]; omega
      have HF : Hid (alwB c s p n = true) := by show _ = _; unfold alwB; simp [hc99, h1]
      clear hc99 h1
      go_enter Tryz.func120, Tryz.ntmps120
      go_wp2
      go_ret
      exact ⟨ret_bool HF.out.symm, HB.out⟩
  have k99 : ((c : Int) == 99) = false := by rw [beq_eq_false_iff_ne]; omega
  by_cases hc117 : c = 117
  · have k117 : ((c : Int) == 117) = true := by rw [beq_iff_eq]; omega
    by_cases h1 : n.a &&& s = 0
    · have eh1 : (((n.a &&& s : Nat) : Int) != 0) = false := by rw [bne_eq_false_iff_eq]; omega
      have HF : Hid (alwB c s p n = false) := by show _ = _; unfold alwB; simp [hc117, h1]
      clear hc117 h1
      go_enter Tryz.func120, Tryz.ntmps120
      go_wp2
      go_ret
      exact ⟨ret_bool HF.out.symm, HB.out⟩
    · have eh1 : (((n.a &&& s : Nat) : Int) != 0) = true := by rw [bne_iff_ne]; omega
      by_cases h2 : (n.a &&& p) &&& n.l = 0
      · have eh2 : ((((n.a &&& p) &&& n.l : Nat) : Int) == 0) = true := by rw [beq_iff_eq]; omega
        have HF : Hid (alwB c s p n = true) := by show _ = _; unfold alwB; simp [hc117, h1, h2]
        clear hc117 h1 h2
        go_enter Tryz.func120, Tryz.ntmps120
        go_wp2
        go_ret
        exact ⟨ret_bool HF.out.symm, HB.out⟩
      · have eh2 : ((((n.a &&& p) &&& n.l : Nat) : Int) == 0) = false := by rw [beq_eq_false_iff_ne]; omega
        have HF : Hid (alwB c s p n = false) := by show _ = _; unfold alwB; simp [hc117, h1, h2]
        clear hc117 h1 h2
        go_enter Tryz.func120, Tryz.ntmps120
        go_wp2
        go_ret
        exact ⟨ret_bool HF.out.symm, HB.out⟩
  have k117 : ((c : Int) == 117) = false := by rw [beq_eq_false_iff_ne]; omega
  have HF : Hid (alwB c s p n = false) := by show _ = _; unfold alwB; simp [hc114, hc110, hc99, hc117]
  clear hc114 hc110 hc99 hc117
  go_enter Tryz.func120, Tryz.ntmps120
  go_wp2
  go_ret
  exact ⟨ret_bool HF.out.symm, HB.out⟩

set_option maxHeartbeats 6400000 in
theorem name_sometimes (n : Nm) (c s p : Nat) (hn : NmSm n) (hs : s < 2 ^ 20) (hp : p < 2 ^ 20) (w : World) :
    Calls Tryz.prog 149 #[.agg #[.int .u32 n.a, .int .u32 n.w, .int .u32 n.l], .int .u8 c, .agg #[.int .u32 s, .int .u32 p]] w fun e w' => e = .returned (.bool (somB c s p n)) ∧ Below w.heap.size w w' := by
  have na := hn.a
  have nw := hn.w
  have nl := hn.l
  have x1 : n.a &&& s < 2 ^ 20 := and_lt na
  have x2 : n.a &&& p < 2 ^ 20 := and_lt na
  have a1 := and_u32 n.a s (by omega) (by omega)
  have a2 := and_u32 n.a p (by omega) (by omega)
  have a3 := andNot_u32 (n.a &&& s) n.w (by omega) (by omega)
  have a4 := andNot_u32 n.w (n.a &&& p) (by omega) (by omega)
  have a5 := and_u32 (n.a &&& p) n.l (by omega) (by omega)
  have a6 := and_u32 (n.a &&& s) n.l (by omega) (by omega)
  have a7 := andNot_u32 (n.a &&& p) n.l (by omega) (by omega)
  have HB : Hid (Below w.heap.size w ((w.alloc (.cells #[.int .u32 n.a, .int .u32 n.w, .int .u32 n.l] 157)).alloc (.cells #[.int .u32 s, .int .u32 p] 98))) := ((Below.refl _ _).alloc (Nat.le_refl _) _).alloc (by simp) _
  by_cases hc114 : c = 114
  · have k114 : ((c : Int) == 114) = true := by rw [beq_iff_eq]; omega
    have k110 : ((c : Int) == 110) = false := by rw [beq_eq_false_iff_ne]; omega
    have k99 : ((c : Int) == 99) = false := by rw [beq_eq_false_iff_ne]; omega
    have k117 : ((c : Int) == 117) = false := by rw [beq_eq_false_iff_ne]; omega
    by_cases h1 : n.w = 0
    · have eh1 : (((n.w : Nat) : Int) != 0) = false := by rw [bne_eq_false_iff_eq]; omega
      have HF : Hid (somB c s p n = false) := by show _ = _; unfold somB; simp [hc114, h1]
      clear hc114 h1
      go_enter Tryz.func149, Tryz.ntmps149
      go_wp2
      go_ret
      exact ⟨ret_bool HF.out.symm, HB.out⟩
    · have eh1 : (((n.w : Nat) : Int) != 0) = true := by rw [bne_iff_ne]; omega
      by_cases h2 : n.a &&& s = 0
      · have eh2 : (((n.a &&& s : Nat) : Int) == 0) = true := by rw [beq_iff_eq]; omega
        have HF : Hid (somB c s p n = true) := by show _ = _; unfold somB; simp [hc114, h1, h2]
        clear hc114 h1 h2
        go_enter Tryz.func149, Tryz.ntmps149
        go_wp2
        go_ret
        exact ⟨ret_bool HF.out.symm, HB.out⟩
      · have eh2 : (((n.a &&& s : Nat) : Int) == 0) = false := by rw [beq_eq_false_iff_ne]; omega
        have HF : Hid (somB c s p n = false) := by show _ = _; unfold somB; simp [hc114, h1, h2]
        clear hc114 h1 h2
        go_enter Tryz.func149, Tryz.ntmps149
        go_wp2
        go_ret
        exact ⟨ret_bool HF.out.symm, HB.out⟩
  have k114 : ((c : Int) == 114) = false := by rw [beq_eq_false_iff_ne]; omega
  by_cases hc110 : c = 110
  · have k110 : ((c : Int) == 110) = true := by rw [beq_iff_eq]; omega
    have k99 : ((c : Int) == 99) = false := by rw [beq_eq_false_iff_ne]; omega
    have k117 : ((c : Int) == 117) = false := by rw [beq_eq_false_iff_ne]; omega
    by_cases h1 : n.w = 0
    · have eh1 : (((n.w : Nat) : Int) == 0) = true := by rw [beq_iff_eq]; omega
      by_cases h2 : n.a &&& p = 0
      · have eh2 : (((n.a &&& p : Nat) : Int) != 0) = false := by rw [bne_eq_false_iff_eq]; omega
        have HF : Hid (somB c s p n = false) := by show _ = _; unfold somB; simp [hc110, h1, h2]
        clear hc110 h1 h2
        go_enter Tryz.func149, Tryz.ntmps149
        go_wp2
        go_ret
        exact ⟨ret_bool HF.out.symm, HB.out⟩
      · have eh2 : (((n.a &&& p : Nat) : Int) != 0) = true := by rw [bne_iff_ne]; omega
        have HF : Hid (somB c s p n = true) := by show _ = _; unfold somB; simp [hc110, h1, h2]
        clear hc110 h1 h2
        go_enter Tryz.func149, Tryz.ntmps149
        go_wp2
        go_ret
        exact ⟨ret_bool HF.out.symm, HB.out⟩
    · have eh1 : (((n.w : Nat) : Int) == 0) = false := by rw [beq_eq_false_iff_ne]; omega
      have HF : Hid (somB c s p n = false) := by show _ = _; unfold somB; simp [hc110, h1]
      clear hc110 h1
      go_enter Tryz.func149, Tryz.ntmps149
      go_wp2
      go_ret
      exact ⟨ret_bool HF.out.symm, HB.out⟩
  have k110 : ((c : Int) == 110) = false := by rw [beq_eq_false_iff_ne]; omega
  by_cases hc99 : c = 99
  · have k99 : ((c : Int) == 99) = true := by rw [beq_iff_eq]; omega
    have k117 : ((c : Int) == 117) = false := by rw [beq_eq_false_iff_ne]; omega
    by_cases h1 : n.a &&& s = n.w
    · have eh1 : (((n.a &&& s : Nat) : Int) != ((n.w : Nat) : Int)) = false := by rw [bne_eq_false_iff_eq]; omega
      by_cases h2 : n.a &&& p = n.w
      · have eh2 : (((n.a &&& p : Nat) : Int) != ((n.w : Nat) : Int)) = false := by rw [bne_eq_false_iff_eq]; omega
        have HF : Hid (somB c s p n = false) := by show _ = _; unfold somB; simp [hc99, h1, h2]
        clear hc99 h1 h2
        go_enter Tryz.func149, Tryz.ntmps149
        go_wp2
        go_ret
        exact ⟨ret_bool HF.out.symm, HB.out⟩
      · have eh2 : (((n.a &&& p : Nat) : Int) != ((n.w : Nat) : Int)) = true := by rw [bne_iff_ne]; omega
        have HF : Hid (somB c s p n = true) := by show _ = _; unfold somB; simp [hc99, h1, h2]
        clear hc99 h1 h2
        go_enter Tryz.func149, Tryz.ntmps149
        go_wp2
        go_ret
        exact ⟨ret_bool HF.out.symm, HB.out⟩
    · have eh1 : (((n.a &&& s : Nat) : Int) != ((n.w : Nat) : Int)) = true := by rw [bne_iff_ne]; omega
      have HF : Hid (somB c s p n = true) := by show _ = _; unfold somB; simp [hc99, h1]
      clear hc99 h1
      go_enter Tryz.func149, Tryz.ntmps149
      go_wp2
      go_ret
      exact ⟨ret_bool HF.out.symm, HB.out⟩
  have k99 : ((c : Int) == 99) = false := by rw [beq_eq_false_iff_ne]; omega
  by_cases hc117 : c = 117
  · have k117 : ((c : Int) == 117) = true := by rw [beq_iff_eq]; omega
    by_cases h1 : (n.a &&& s) &&& n.l = 0
    · have eh1 : ((((n.a &&& s) &&& n.l : Nat) : Int) == 0) = true := by rw [beq_iff_eq]; omega
      by_cases h2 : adN (n.a &&& p) n.l = 0
      · have eh2 : (((adN (n.a &&& p) n.l : Nat) : Int) != 0) = false := by rw [bne_eq_false_iff_eq]; omega
        have HF : Hid (somB c s p n = false) := by show _ = _; unfold somB; simp [hc117, h1, h2]
        clear hc117 h1 h2
        go_enter Tryz.func149, Tryz.ntmps149
        go_wp2
        go_ret
        exact ⟨ret_bool HF.out.symm, HB.out⟩
      · have eh2 : (((adN (n.a &&& p) n.l : Nat) : Int) != 0) = true := by rw [bne_iff_ne]; omega
        have HF : Hid (somB c s p n = true) := by show _ = _; unfold somB; simp [hc117, h1, h2]
        clear hc117 h1 h2
        go_enter Tryz.func149, Tryz.ntmps149
        go_wp2
        go_ret
        exact ⟨ret_bool HF.out.symm, HB.out⟩
    · have eh1 : ((((n.a &&& s) &&& n.l : Nat) : Int) == 0) = false := by rw [beq_eq_false_iff_ne]; omega
      have HF : Hid (somB c s p n = false) := by show _ = _; unfold somB; simp [hc117, h1]
      clear hc117 h1
      go_enter Tryz.func149, Tryz.ntmps149
      go_wp2
      go_ret
      exact ⟨ret_bool HF.out.symm, HB.out⟩
  have k117 : ((c : Int) == 117) = false := by rw [beq_eq_false_iff_ne]; omega
  have HF : Hid (somB c s p n = false) := by show _ = _; unfold somB; simp [hc114, hc110, hc99, hc117]
  clear hc114 hc110 hc99 hc117
  go_enter Tryz.func149, Tryz.ntmps149
  go_wp2
  go_ret
  exact ⟨ret_bool HF.out.symm, HB.out⟩

end Go.Proofs.YtenbnmbbfeekpabGreatDoor

namespace Go.Proofs.YtenbnmbbfeekpabGreatDoor
open Go.RowKit

def nmCells (n : Nm) : List Value := [.int .u32 (n.a : Int), .int .u32 (n.w : Int), .int .u32 (n.l : Int)]
def NmO (b : Nat) (w : World) (v : Value) (l : List Nm) : Prop := w.ownsRow b 157 3 v l.length (l.map nmCells).flatten
def NmV (w : World) (v : Value) (l : List Nm) : Prop := l.length ≤ 801 ∧ ∃ ao cap, v = .slice ao l.length cap ∧ ∀ j (h : j < l.length), ∃ g off, ao = some ⟨g, off, none⟩ ∧ g < w.heap.size ∧ w.cell? ⟨g, off + j * 3, none⟩ = some (.int .u32 (l[j].a : Int)) ∧ w.cell? ⟨g, off + j * 3 + 1, none⟩ = some (.int .u32 (l[j].w : Int)) ∧ w.cell? ⟨g, off + j * 3 + 2, none⟩ = some (.int .u32 (l[j].l : Int))
theorem NmV.below {w w' : World} {v : Value} {l : List Nm} (h : NmV w v l) (hb : Below w.heap.size w w') : NmV w' v l := by
  obtain ⟨h0, ao, cap, h1, h2⟩ := h
  refine ⟨h0, ao, cap, h1, fun j hj => ?_⟩
  obtain ⟨g, off, e, hg, x, y, z⟩ := h2 j hj
  exact ⟨g, off, e, Nat.lt_of_lt_of_le hg hb.size, (hb.cell (p := ⟨g, _, none⟩) hg).trans x, (hb.cell (p := ⟨g, _, none⟩) hg).trans y, (hb.cell (p := ⟨g, _, none⟩) hg).trans z⟩
theorem NmO.nv {b : Nat} {w : World} {v : Value} {l : List Nm} (h : NmO b w v l) (hl : l.length ≤ 801) : NmV w v l := by
  rcases own_shape h with ⟨rfl, h0⟩ | ⟨g, cap, rfl, hc⟩
  · have : l = [] := List.eq_nil_of_length_eq_zero h0
    subst this
    exact ⟨hl, none, 0, rfl, fun j hj => by simp at hj⟩
  · refine ⟨hl, _, _, rfl, fun j hj => ?_⟩
    have h6 : ∀ c ∈ l.map nmCells, c.length = 3 := fun c hc => by obtain ⟨u, _, rfl⟩ := List.mem_map.1 hc; rfl
    have hf : ∀ k, k < 3 → (l.map nmCells).flatten[j * 3 + k]? = (nmCells l[j])[k]? := fun k hk => by rw [flat_get 3 _ h6 j k hk, List.getElem?_map, List.getElem?_eq_getElem hj]; rfl
    refine ⟨g, 0, rfl, own_lt h, ?_, ?_, ?_⟩
    · rw [Nat.zero_add]; exact own_cell h _ _ (hf 0 (by omega))
    · rw [Nat.zero_add]; exact own_cell h _ _ (hf 1 (by omega))
    · rw [Nat.zero_add]; exact own_cell h _ _ (hf 2 (by omega))
theorem NmO.shape {b : Nat} {w : World} {v : Value} {l : List Nm} (h : NmO b w v l) : ∃ a c, v = .slice a l.length c := by
  rcases own_shape h with ⟨rfl, h0⟩ | ⟨g, cap, rfl, hc⟩
  · exact ⟨none, 0, by rw [h0]⟩
  · exact ⟨_, _, rfl⟩
theorem cnt_snoc {α : Type} (f : α → Bool) (l : List α) (k : Nat) (h : k < l.length) : (l.take (k + 1)).countP f = (l.take k).countP f + if f l[k] then 1 else 0 := by
  rw [List.take_succ_eq_append_getElem h, List.countP_append]
  cases hf : f l[k] <;> simp [hf]

set_option maxHeartbeats 3200000 in
set_option maxRecDepth 100000 in
theorem sc_fewest (c : Nat) (v : Value) (L : List Nm) (s p : Nat) (w : World) (hv : NmV w v L) (hsm : ∀ n ∈ L, NmSm n) (hs : s < 2 ^ 20) (hp : p < 2 ^ 20) :
    Calls Tryz.prog 86 #[.int .u8 c, v, .agg #[.int .u32 s, .int .u32 p]] w fun e w' => e = .returned (.int .i64 (fewN c L s p : Nat)) ∧ Below w.heap.size w w' := by
  obtain ⟨hl, a, cp, rfl, hrow⟩ := hv
  have HR : Hid _ := hrow
  have HQ : Hid (∀ n ∈ L, NmSm n) := hsm
  clear hrow hsm
  unfold fewN
  obtain ⟨F, hF⟩ : ∃ F, F = alwB c s p := ⟨_, rfl⟩
  have HFE : Hid (∀ n, alwB c s p n = F n) := fun n => by rw [hF]
  rw [← hF]
  clear hF
  go_enter Tryz.func86, Tryz.ntmps86
  go_wp2
  go_loopw [7, 12] (fun o i wr => ∃ k A : Nat, k ≤ L.length ∧ o = .int .i64 (A : Nat) ∧ i = .int .i64 k ∧ A ≤ k ∧ Hid ((L.take k).countP F = A) ∧ Below w.heap.size w wr ∧ wr.heap[w.heap.size]? = some (.cells #[.int .u32 s, .int .u32 p] 98 (0, 0))) (fun _ i _ => L.length - (intOf i).toNat)
  case atStart => exact ⟨0, 0, by omega, rfl, rfl, by omega, by show _ = _; simp, (Below.refl _ _).alloc (Nat.le_refl _) _, blk_new _ _⟩
  case round =>
    obtain ⟨k, A, hk, rfl, rfl, hA, HI, hb, hbx⟩ := hrel
    have hbs := hb.size
    have y0 := cellAt hbx 0
    have y1 := cellAt hbx 1
    have hlx := ltAt hbx
    have HBX : Hid (wr.heap[w.heap.size]? = some (.cells #[.int .u32 s, .int .u32 p] 98 (0, 0))) := hbx
    simp at y0 y1
    clear hbx
    by_cases hlt : k < L.length
    · obtain ⟨g, off, rfl, hg, x0, x1, x2⟩ := HR.out k hlt
      rw [← hb.cell (p := ⟨g, _, none⟩) hg] at x0 x1 x2
      have HSM : Hid (NmSm L[k]) := HQ.out _ (List.getElem_mem hlt)
      have HD : Hid ((L.take (k + 1)).countP F = A + if F L[k] then 1 else 0) := by show _ = _; rw [cnt_snoc F L k hlt, HI.out]
      have HBA : Hid (Below w.heap.size w (wr.alloc (.cells #[.int .u32 (L[k].a : Int), .int .u32 (L[k].w : Int), .int .u32 (L[k].l : Int)] 157))) := hb.alloc hbs _
      have HKA : Hid ((wr.alloc (.cells #[.int .u32 (L[k].a : Int), .int .u32 (L[k].w : Int), .int .u32 (L[k].l : Int)] 157)).heap[w.heap.size]? = some (.cells #[.int .u32 s, .int .u32 p] 98 (0, 0))) := blk_old HBX.out _
      clear HI
      generalize L[k] = n at *
      go_wp2_with fail
      refine (name_always n c s p HSM.out hs hp _).mono ?_
      rintro e w1 ⟨rfl, hb1⟩
      rw [HFE.out]
      have HB2 : Hid (Below w.heap.size w w1) := HBA.out.trans (hb1.mono (by simp; omega))
      have HK2 : Hid (w1.heap[w.heap.size]? = some (.cells #[.int .u32 s, .int .u32 p] 98 (0, 0))) := blk_below hb1 HKA.out (by simp; omega)
      clear hb1
      cases hf : F n with
      | true =>
        have HE : Hid ((L.take (k + 1)).countP F = A + 1) := by show _ = _; rw [HD.out, hf]; rfl
        clear hf HD
        go_wp2
        go_roundw
        case rel => exact ⟨k + 1, A + 1, by omega, by go_num, by go_num, by omega, HE, HB2.out, HK2.out⟩
        case measure => simp [intOf]; omega
      | false =>
        have HE : Hid ((L.take (k + 1)).countP F = A) := by show _ = _; rw [HD.out, hf]; rfl
        clear hf HD
        go_wp2
        go_roundw
        case rel => exact ⟨k + 1, A, by omega, rfl, by go_num, by omega, HE, HB2.out, HK2.out⟩
        case measure => simp [intOf]; omega
    · have HE : Hid (L.countP F = A) := by show _ = _; rw [← HI.out, List.take_of_length_le (by omega)]
      clear HI
      go_wp2
      go_ret
      exact ⟨ret_int (by rw [HE.out]), hb⟩

set_option maxHeartbeats 3200000 in
set_option maxRecDepth 100000 in
theorem sc_most (c : Nat) (v : Value) (L : List Nm) (s p : Nat) (w : World) (hv : NmV w v L) (hsm : ∀ n ∈ L, NmSm n) (hs : s < 2 ^ 20) (hp : p < 2 ^ 20) :
    Calls Tryz.prog 132 #[.int .u8 c, v, .agg #[.int .u32 s, .int .u32 p]] w fun e w' => e = .returned (.int .i64 (mostN c L s p : Nat)) ∧ Below w.heap.size w w' := by
  obtain ⟨hl, a, cp, rfl, hrow⟩ := hv
  have HR : Hid _ := hrow
  have HQ : Hid (∀ n ∈ L, NmSm n) := hsm
  clear hrow hsm
  unfold mostN
  obtain ⟨F, hF⟩ : ∃ F, F = somB c s p := ⟨_, rfl⟩
  have HFE : Hid (∀ n, somB c s p n = F n) := fun n => by rw [hF]
  rw [← hF]
  clear hF
  go_enter Tryz.func132, Tryz.ntmps132
  go_wp2
  go_loopw [7, 12] (fun o i wr => ∃ k A : Nat, k ≤ L.length ∧ o = .int .i64 (A : Nat) ∧ i = .int .i64 k ∧ A ≤ k ∧ Hid ((L.take k).countP F = A) ∧ Below w.heap.size w wr ∧ wr.heap[w.heap.size]? = some (.cells #[.int .u32 s, .int .u32 p] 98 (0, 0))) (fun _ i _ => L.length - (intOf i).toNat)
  case atStart => exact ⟨0, 0, by omega, rfl, rfl, by omega, by show _ = _; simp, (Below.refl _ _).alloc (Nat.le_refl _) _, blk_new _ _⟩
  case round =>
    obtain ⟨k, A, hk, rfl, rfl, hA, HI, hb, hbx⟩ := hrel
    have hbs := hb.size
    have y0 := cellAt hbx 0
    have y1 := cellAt hbx 1
    have hlx := ltAt hbx
    have HBX : Hid (wr.heap[w.heap.size]? = some (.cells #[.int .u32 s, .int .u32 p] 98 (0, 0))) := hbx
    simp at y0 y1
    clear hbx
    by_cases hlt : k < L.length
    · obtain ⟨g, off, rfl, hg, x0, x1, x2⟩ := HR.out k hlt
      rw [← hb.cell (p := ⟨g, _, none⟩) hg] at x0 x1 x2
      have HSM : Hid (NmSm L[k]) := HQ.out _ (List.getElem_mem hlt)
      have HD : Hid ((L.take (k + 1)).countP F = A + if F L[k] then 1 else 0) := by show _ = _; rw [cnt_snoc F L k hlt, HI.out]
      have HBA : Hid (Below w.heap.size w (wr.alloc (.cells #[.int .u32 (L[k].a : Int), .int .u32 (L[k].w : Int), .int .u32 (L[k].l : Int)] 157))) := hb.alloc hbs _
      have HKA : Hid ((wr.alloc (.cells #[.int .u32 (L[k].a : Int), .int .u32 (L[k].w : Int), .int .u32 (L[k].l : Int)] 157)).heap[w.heap.size]? = some (.cells #[.int .u32 s, .int .u32 p] 98 (0, 0))) := blk_old HBX.out _
      clear HI
      generalize L[k] = n at *
      go_wp2_with fail
      refine (name_sometimes n c s p HSM.out hs hp _).mono ?_
      rintro e w1 ⟨rfl, hb1⟩
      rw [HFE.out]
      have HB2 : Hid (Below w.heap.size w w1) := HBA.out.trans (hb1.mono (by simp; omega))
      have HK2 : Hid (w1.heap[w.heap.size]? = some (.cells #[.int .u32 s, .int .u32 p] 98 (0, 0))) := blk_below hb1 HKA.out (by simp; omega)
      clear hb1
      cases hf : F n with
      | true =>
        have HE : Hid ((L.take (k + 1)).countP F = A + 1) := by show _ = _; rw [HD.out, hf]; rfl
        clear hf HD
        go_wp2
        go_roundw
        case rel => exact ⟨k + 1, A + 1, by omega, by go_num, by go_num, by omega, HE, HB2.out, HK2.out⟩
        case measure => simp [intOf]; omega
      | false =>
        have HE : Hid ((L.take (k + 1)).countP F = A) := by show _ = _; rw [HD.out, hf]; rfl
        clear hf HD
        go_wp2
        go_roundw
        case rel => exact ⟨k + 1, A, by omega, rfl, by go_num, by omega, HE, HB2.out, HK2.out⟩
        case measure => simp [intOf]; omega
    · have HE : Hid (L.countP F = A) := by show _ = _; rw [← HI.out, List.take_of_length_le (by omega)]
      clear HI
      go_wp2
      go_ret
      exact ⟨ret_int (by rw [HE.out]), hb⟩

theorem Tryz.infoNm : (Tryz.prog.info? 157).map (fun i => (i.zero, i.size, i.bytes)) = some (some (.agg #[.int .u32 0, .int .u32 0, .int .u32 0]), 3, 12) := by kernel_rfl

set_option maxHeartbeats 3200000 in
set_option maxRecDepth 100000 in
theorem sc_Names (ao : Option Addr) (cap : Nat) (ps : List Pk) (w : World) (hp : PV w ao ps) :
    Calls Tryz.prog 41 #[.slice ao ps.length cap] w fun e w' => ∃ r cr, e = .returned (.slice r (nmL ps 26).length cr) ∧ Below w.heap.size w w' ∧ NmO w.heap.size w' (.slice r (nmL ps 26).length cr) (nmL ps 26) := by
  obtain ⟨i0, hi0, hz0, hz1, hz2⟩ := info_parts Tryz.infoNm
  have HV : Hid (∀ w', Below w.heap.size w w' → PV w' ao ps) := fun w' hb => hp.below hb
  obtain ⟨R, hR⟩ : ∃ R, R = nmL ps := ⟨_, rfl⟩
  have HG : Hid (∀ k, R (k + 1) = if wnM ps (97 + k) = 0 then R k else R k ++ [nm0 ps (97 + k)]) := fun k => by rw [hR]; rfl
  have HZ : Hid (R 0 = []) := by show _ = _; rw [hR]; rfl
  rw [← hR]
  clear hp hR
  obtain ⟨NW, hNW⟩ : ∃ NW, nowM ps = NW := ⟨_, rfl⟩
  have ln : NW < 2 ^ 20 := by rw [← hNW]; exact mskN_lt _ _
  have HNW : Hid (nowM ps = NW) := hNW
  clear hNW
  go_enter Tryz.func41, Tryz.ntmps41
  go_wp2_with fail
  refine (doc_Now ao cap ps _ (HV.out _ (Below.refl _ _))).mono ?_
  rintro e w1 ⟨rfl, hb1⟩
  rw [HNW.out]
  have HB1 : Hid (Below w.heap.size w w1) := hb1
  clear hb1
  go_wp2
  go_loopw [4, 5] (fun o v wr => ∃ (a B : Nat) (acc : List Nm), a ≤ 26 ∧ B = 97 + a ∧ v = .int .u8 (B : Int) ∧ acc.length ≤ a ∧ Hid (NmO w.heap.size wr o acc) ∧ Hid (R a = acc) ∧ Below w.heap.size w wr) (fun _ v _ => 130 - (intOf v).toNat)
  case atStart => exact ⟨0, 97, [], by omega, rfl, rfl, by simp, World.ownsRow_nil _ _ _ _, HZ, HB1.out⟩
  case round =>
    obtain ⟨a, B, acc, ha, hB, rfl, hacc, HO, HI, hb⟩ := hrel
    have HB : Hid (Below w.heap.size w wr) := hb
    have HBE : Hid (B = 97 + a) := hB
    have hB9 : 97 ≤ B := by omega
    have hB3 : B ≤ 123 := by omega
    have hbs := hb.size
    clear hb
    by_cases ha9 : a < 26
    · have HN : Hid (R (a + 1) = if wnM ps B = 0 then acc else acc ++ [nm0 ps B]) := by show _ = _; rw [HG.out, HI.out, hB]
      have hle : (B : Int) ≤ 122 := by omega
      clear hB HI
      have l1 : wnM ps B < 2 ^ 20 := mskN_lt _ _
      have HNM : Hid (nm0 ps B = ⟨wnM ps B, wnM ps B &&& NW, nbM ps (wnM ps B) (grN ps (wnM ps B) ps.length)⟩) := by show _ = _; rw [← HNW.out]; rfl
      go_wp2_with fail
      refine (doc_WithName ao cap ps B _ (HV.out _ HB.out)).mono ?_
      rintro e w2 ⟨rfl, hb2⟩
      generalize wnM ps B = W at *
      have HB2 : Hid (Below w.heap.size w w2) := HB.out.trans (hb2.mono hbs)
      have HO2 : Hid (NmO w.heap.size w2 u4 acc) := own_kept HO.out hb2
      have hs2 := HB2.out.size
      clear hb2 HO
      by_cases h0 : W = 0
      · have e0 : ((W : Int) == 0) = true := by rw [beq_iff_eq]; omega
        have HE : Hid (R (a + 1) = acc) := by show _ = _; rw [HN.out, if_pos h0]
        clear HN h0 HNM
        go_wp2
        go_roundw
        case rel => exact ⟨a + 1, B + 1, acc, by omega, by have := HBE.out; omega, by go_num, by omega, HO2, HE, HB2.out⟩
        case measure => simp [intOf]; omega
      · have e0 : ((W : Int) == 0) = false := by rw [beq_eq_false_iff_ne]; omega
        have HE : Hid (R (a + 1) = acc ++ [nm0 ps B]) := by show _ = _; rw [HN.out, if_neg h0]
        clear HN h0
        go_wp2_with fail
        refine (doc_Greatest ao cap ps W l1 _ (HV.out _ HB2.out)).mono ?_
        rintro e w3 ⟨rfl, hb3⟩
        generalize grN ps W ps.length = G at *
        have HB3 : Hid (Below w.heap.size w w3) := HB2.out.trans (hb3.mono hs2)
        have HO3 : Hid (NmO w.heap.size w3 u4 acc) := own_kept HO2.out hb3
        have hs3 := HB3.out.size
        clear hb3 HO2
        go_wp2_with fail
        refine (doc_NotBelow ao cap ps W G l1 _ (HV.out _ HB3.out)).mono ?_
        rintro e w4 ⟨rfl, hb4⟩
        generalize nbM ps W G = M at *
        have HB4 : Hid (Below w.heap.size w w4) := HB3.out.trans (hb4.mono hs3)
        have hown : w4.ownsRow w.heap.size 157 3 u4 acc.length (acc.map nmCells).flatten := own_kept HO3.out hb4
        have hs4 := HB4.out.size
        clear hb4 HO3
        have a1 := and_u32 W NW (by omega) (by omega)
        obtain ⟨X, hX⟩ : ∃ X, W &&& NW = X := ⟨_, rfl⟩
        rw [hX] at a1 HNM
        clear hX
        go_wp2_with (at_builtin; refine wpList_append_own _ rfl _ _ 101 rfl w.heap.size 157 i0 (.agg #[.int .u32 0, .int .u32 0, .int .u32 0]) 3 12 Tryz.underlying101 hi0 hz0 hz1 hz2 rfl (by decide) _ _ _ rfl (hown.alloc _) ⟨w4.heap.size, 0, none⟩ 1 1 (nmCells ⟨W, X, M⟩) rfl rfl ?c1 ?c2 ?c3 ?c4 ?c5 ?_)
        case c1 => exact cell_new w4 (nmCells ⟨W, X, M⟩) 157
        case c2 => intro u hu; simp [nmCells] at hu; rcases hu with rfl | rfl | rfl <;> rfl
        case c3 => unfold maxLen; omega
        case c4 => omega
        case c5 => simp; omega
        intro v' w5 hown' hgrow _
        have HB5 : Hid (Below w.heap.size w w5) := (HB4.out.alloc (by omega) _).grown hgrow (by simp; omega) (fun j hj => (hown.lt j hj).1)
        have HO5 : Hid (NmO w.heap.size w5 v' (acc ++ [⟨W, X, M⟩])) := by
          show World.ownsRow _ _ _ _ _ _ _
          simpa using hown'
        have HE5 : Hid (R (a + 1) = acc ++ [⟨W, X, M⟩]) := by show _ = _; rw [HE.out, HNM.out]
        clear hown' hgrow hown
        go_wp2
        go_roundw
        case rel => exact ⟨a + 1, B + 1, acc ++ [⟨W, X, M⟩], by omega, by have := HBE.out; omega, by go_num, by simp; omega, HO5, HE5, HB5.out⟩
        case measure => simp [intOf]; omega
    · have ha' : a = 26 := by omega
      have hle : ¬ (B : Int) ≤ 122 := by omega
      have HF : Hid (R 26 = acc) := by show _ = _; rw [← HI.out, ha']
      obtain ⟨r, cr, rfl⟩ := HO.out.shape
      clear ha' hB HI
      go_wp2
      go_ret
      exact ⟨r, cr, ret_slice (by rw [HF.out]), HB.out, by rw [HF.out]; exact HO.out⟩

end Go.Proofs.YtenbnmbbfeekpabGreatDoor

namespace Go.Proofs.YtenbnmbbfeekpabGreatDoor
open Go.RowKit

theorem Tryz.infoCr : (Tryz.prog.info? 114).map (fun i => (i.zero, i.size, i.bytes)) = some (some (.agg #[.bool false, .int .u8 0]), 2, 2) := by kernel_rfl
def crCells (c : Cr) : List Value := [.bool c.1, .int .u8 (c.2 : Int)]
def CrO (b : Nat) (w : World) (v : Value) (l : List Cr) : Prop := w.ownsRow b 114 2 v l.length (l.map crCells).flatten
def CrV (w : World) (v : Value) (l : List Cr) : Prop := l.length ≤ 801 ∧ ∃ ao cap, v = .slice ao l.length cap ∧ ∀ j (h : j < l.length), ∃ g off, ao = some ⟨g, off, none⟩ ∧ g < w.heap.size ∧ w.cell? ⟨g, off + j * 2, none⟩ = some (.bool l[j].1) ∧ w.cell? ⟨g, off + j * 2 + 1, none⟩ = some (.int .u8 (l[j].2 : Int))
theorem CrV.below {w w' : World} {v : Value} {l : List Cr} (h : CrV w v l) (hb : Below w.heap.size w w') : CrV w' v l := by
  obtain ⟨h0, ao, cap, h1, h2⟩ := h
  refine ⟨h0, ao, cap, h1, fun j hj => ?_⟩
  obtain ⟨g, off, e, hg, x, y⟩ := h2 j hj
  exact ⟨g, off, e, Nat.lt_of_lt_of_le hg hb.size, (hb.cell (p := ⟨g, _, none⟩) hg).trans x, (hb.cell (p := ⟨g, _, none⟩) hg).trans y⟩
theorem CrO.cv {b : Nat} {w : World} {v : Value} {l : List Cr} (h : CrO b w v l) (hl : l.length ≤ 801) : CrV w v l := by
  rcases own_shape h with ⟨rfl, h0⟩ | ⟨g, cap, rfl, hc⟩
  · have : l = [] := List.eq_nil_of_length_eq_zero h0
    subst this
    exact ⟨hl, none, 0, rfl, fun j hj => by simp at hj⟩
  · refine ⟨hl, _, _, rfl, fun j hj => ?_⟩
    have h6 : ∀ c ∈ l.map crCells, c.length = 2 := fun c hc => by obtain ⟨u, _, rfl⟩ := List.mem_map.1 hc; rfl
    have hf : ∀ k, k < 2 → (l.map crCells).flatten[j * 2 + k]? = (crCells l[j])[k]? := fun k hk => by rw [flat_get 2 _ h6 j k hk, List.getElem?_map, List.getElem?_eq_getElem hj]; rfl
    refine ⟨g, 0, rfl, own_lt h, ?_, ?_⟩
    · rw [Nat.zero_add]; exact own_cell h _ _ (hf 0 (by omega))
    · rw [Nat.zero_add]; exact own_cell h _ _ (hf 1 (by omega))
theorem CrO.shape {b : Nat} {w : World} {v : Value} {l : List Cr} (h : CrO b w v l) : ∃ a c, v = .slice a l.length c := by
  rcases own_shape h with ⟨rfl, h0⟩ | ⟨g, cap, rfl, hc⟩
  · exact ⟨none, 0, by rw [h0]⟩
  · exact ⟨_, _, rfl⟩

set_option maxHeartbeats 1600000 in
set_option maxRecDepth 100000 in
theorem sc_hasLetter (v : Value) (L : List Cr) (c : Nat) (w : World) (hv : CrV w v L) :
    Calls Tryz.prog 95 #[v, .int .u8 c] w fun e w' => e = .returned (.bool (hlB L c)) ∧ Below w.heap.size w w' := by
  obtain ⟨hl, a, cp, rfl, hrow⟩ := hv
  have HR : Hid _ := hrow
  clear hrow
  go_enter Tryz.func95, Tryz.ntmps95
  go_wp2
  go_loopw [9] (fun i wr => ∃ k : Nat, k ≤ L.length ∧ i = .int .i64 k ∧ Hid (hlB L c = hlB (L.drop k) c) ∧ Below w.heap.size w wr) (fun i _ => L.length - (intOf i).toNat)
  case atStart => exact ⟨0, by omega, rfl, by show _ = _; simp, Below.refl _ _⟩
  case round =>
    obtain ⟨k, hk, rfl, HP, hb⟩ := hrel
    have hbs := hb.size
    by_cases hlt : k < L.length
    · obtain ⟨g, off, rfl, hg, x0, x1⟩ := HR.out k hlt
      rw [← hb.cell (p := ⟨g, _, none⟩) hg] at x0 x1
      have HD : Hid (hlB (L.drop k) c = ((L[k].2 == c) || hlB (L.drop (k + 1)) c)) := by show _ = _; rw [List.drop_eq_getElem_cons hlt]; rfl
      have HBA : Hid (Below w.heap.size w (wr.alloc (.cells #[.bool L[k].1, .int .u8 (L[k].2 : Int)] 114))) := hb.alloc hbs _
      generalize L[k] = q at *
      by_cases e1 : q.2 = c
      · have e1' : ((q.2 : Int) == c) = true := by rw [beq_iff_eq]; omega
        have HF : Hid (hlB L c = true) := by show _ = _; rw [HP.out, HD.out]; simp [e1]
        clear e1 HP HD
        go_wp2
        go_ret
        exact ⟨ret_bool HF.out.symm, HBA.out⟩
      · have e1' : ((q.2 : Int) == c) = false := by rw [beq_eq_false_iff_ne]; omega
        have HF : Hid (hlB L c = hlB (L.drop (k + 1)) c) := by show _ = _; rw [HP.out, HD.out]; simp [e1]
        clear e1 HP HD
        go_wp2
        go_roundw
        case rel => exact ⟨k + 1, by omega, by go_num, HF, HBA.out⟩
        case measure => simp [intOf]; omega
    · have HF : Hid (hlB L c = false) := by show _ = _; rw [HP.out, List.drop_of_length_le (by omega)]; rfl
      clear HP
      go_wp2
      go_ret
      exact ⟨ret_bool HF.out.symm, hb⟩

theorem tl_len : ∀ (r T : List Cr), (r.foldl tl1 T).length ≤ T.length + r.length
  | [], T => by simp
  | c :: r, T => by
    rw [List.foldl_cons]
    have := tl_len r (tl1 T c)
    have h2 : (tl1 T c).length ≤ T.length + 1 := by unfold tl1; split <;> simp
    simp only [List.length_cons]
    omega
theorem tlL_len (l : List Cr) : (tlL l).length ≤ l.length := by have := tl_len l []; simpa [tlL] using this

set_option maxHeartbeats 3200000 in
set_option maxRecDepth 100000 in
theorem sc_Telling (v : Value) (L : List Cr) (w : World) (hv : CrV w v L) :
    Calls Tryz.prog 52 #[v] w fun e w' => ∃ r cr, e = .returned (.slice r (tlL L).length cr) ∧ Below w.heap.size w w' ∧ CrO w.heap.size w' (.slice r (tlL L).length cr) (tlL L) := by
  obtain ⟨i0, hi0, hz0, hz1, hz2⟩ := info_parts Tryz.infoCr
  obtain ⟨hl, a, cp, rfl, hrow⟩ := hv
  have HR : Hid _ := hrow
  clear hrow
  go_enter Tryz.func52, Tryz.ntmps52
  go_wp2
  go_loopw [3, 8] (fun o i wr => ∃ (k : Nat) (acc : List Cr), k ≤ L.length ∧ i = .int .i64 k ∧ acc.length ≤ k ∧ Hid (CrO w.heap.size wr o acc) ∧ Hid (tlL (L.take k) = acc) ∧ Below w.heap.size w wr) (fun _ i _ => L.length - (intOf i).toNat)
  case atStart => exact ⟨0, [], by omega, rfl, by simp, World.ownsRow_nil _ _ _ _, by show _ = _; simp [tlL], Below.refl _ _⟩
  case round =>
    obtain ⟨k, acc, hk, rfl, hacc, HO, HI, hb⟩ := hrel
    have hbs := hb.size
    by_cases hlt : k < L.length
    · obtain ⟨g, off, rfl, hg, x0, x1⟩ := HR.out k hlt
      rw [← hb.cell (p := ⟨g, _, none⟩) hg] at x0 x1
      have HD : Hid (tlL (L.take (k + 1)) = if hlB acc L[k].2 then acc else acc ++ [L[k]]) := by
        show _ = _
        rw [← HI.out, List.take_succ_eq_append_getElem hlt]
        unfold tlL
        rw [List.foldl_append]
        rfl
      have HBA : Hid (Below w.heap.size w (wr.alloc (.cells #[.bool L[k].1, .int .u8 (L[k].2 : Int)] 114))) := hb.alloc hbs _
      have HPA : Hid _ := blk_new wr (.cells #[.bool L[k].1, .int .u8 (L[k].2 : Int)] 114)
      have HOA : Hid (CrO w.heap.size (wr.alloc (.cells #[.bool L[k].1, .int .u8 (L[k].2 : Int)] 114)) u3 acc) := World.ownsRow.alloc HO.out _
      clear HI HO
      generalize L[k] = q at *
      go_wp2_with fail
      refine (sc_hasLetter _ acc q.2 _ (CrO.cv HOA.out (by omega))).mono ?_
      rintro e w1 ⟨rfl, hb1⟩
      have HB1 : Hid (Below w.heap.size w w1) := HBA.out.trans (hb1.mono (by simp; omega))
      have HP1 : Hid _ := blk_below hb1 HPA.out (by simp)
      have z0 : w1.cell? ⟨wr.heap.size, 0, none⟩ = some (.bool q.1) := (cellAt HP1.out 0).trans rfl
      have z1 : w1.cell? ⟨wr.heap.size, 1, none⟩ = some (.int .u8 (q.2 : Int)) := (cellAt HP1.out 1).trans rfl
      have hown : w1.ownsRow w.heap.size 114 2 u3 acc.length (acc.map crCells).flatten := own_kept HOA.out hb1
      have hs1 := HB1.out.size
      have hl1 := ltAt HP1.out
      clear hb1 HPA HOA HP1
      cases hf : hlB acc q.2 with
      | true =>
        have HE : Hid (tlL (L.take (k + 1)) = acc) := by show _ = _; rw [HD.out, hf]; rfl
        have HO1 : Hid (CrO w.heap.size w1 u3 acc) := hown
        clear hf HD hown
        go_wp2
        go_roundw
        case rel => exact ⟨k + 1, acc, by omega, by go_num, by omega, HO1, HE, HB1.out⟩
        case measure => simp [intOf]; omega
      | false =>
        have HE : Hid (tlL (L.take (k + 1)) = acc ++ [q]) := by show _ = _; rw [HD.out, hf]; rfl
        clear hf HD
        go_wp2_with (at_builtin; refine wpList_append_own _ rfl _ _ 67 rfl w.heap.size 114 i0 (.agg #[.bool false, .int .u8 0]) 2 2 Tryz.underlying67 hi0 hz0 hz1 hz2 rfl (by decide) _ _ _ rfl (hown.alloc _) ⟨w1.heap.size, 0, none⟩ 1 1 (crCells q) rfl rfl ?c1 ?c2 ?c3 ?c4 ?c5 ?_)
        case c1 => exact cell_new w1 (crCells q) 114
        case c2 => intro u hu; simp [crCells] at hu; rcases hu with rfl | rfl <;> rfl
        case c3 => unfold maxLen; omega
        case c4 => omega
        case c5 => simp; omega
        intro v' w2 hown' hgrow _
        have HB2 : Hid (Below w.heap.size w w2) := (HB1.out.alloc (by omega) _).grown hgrow (by simp; omega) (fun j hj => (hown.lt j hj).1)
        have HO2 : Hid (CrO w.heap.size w2 v' (acc ++ [q])) := by
          show World.ownsRow _ _ _ _ _ _ _
          simpa using hown'
        clear hown' hgrow hown
        go_wp2
        go_roundw
        case rel => exact ⟨k + 1, acc ++ [q], by omega, by go_num, by simp; omega, HO2, HE, HB2.out⟩
        case measure => simp [intOf]; omega
    · have HF : Hid (tlL L = acc) := by show _ = _; rw [← HI.out, List.take_of_length_le (by omega)]
      obtain ⟨r, cr, rfl⟩ := HO.out.shape
      clear HI
      go_wp2
      go_ret
      exact ⟨r, cr, ret_slice (by rw [HF.out]), hb, by rw [HF.out]; exact HO.out⟩

set_option maxHeartbeats 3200000 in
set_option maxRecDepth 100000 in
theorem sc_Cost (v : Value) (L : List Cr) (vn : Value) (ns : List Nm) (s p : Nat) (w : World) (hv : CrV w v L) (h4 : L.length ≤ 4) (hn : NmV w vn ns) (h26 : ns.length ≤ 26) (hsm : ∀ n ∈ ns, NmSm n) (hs : s < 2 ^ 20) (hp : p < 2 ^ 20) :
    Calls Tryz.prog 96 #[v, vn, .agg #[.int .u32 s, .int .u32 p]] w fun e w' => e = .returned (.int .i64 (csN L ns s p)) ∧ Below w.heap.size w w' := by
  obtain ⟨hl, a, cp, rfl, hrow⟩ := hv
  have HR : Hid _ := hrow
  have HV : Hid (∀ w', Below w.heap.size w w' → NmV w' vn ns) := fun w' hb => hn.below hb
  have HSM : Hid (∀ n ∈ ns, NmSm n) := hsm
  obtain ⟨_, an, cn, rfl, _⟩ := hn
  clear hrow hsm
  obtain ⟨R, hR⟩ : ∃ R : Nat → Int, R = fun k => csN (L.take k) ns s p := ⟨_, rfl⟩
  have HZ : Hid (R 0 = 0) := by show _ = _; rw [hR]; simp [csN]
  have HG : Hid (∀ k (h : k < L.length), R (k + 1) = cs1 ns s p (R k) L[k]) := fun k h => by
    rw [hR]
    simp only
    rw [List.take_succ_eq_append_getElem h]
    unfold csN
    rw [List.foldl_append]
    rfl
  have HE0 : Hid (csN L ns s p = R L.length) := by show _ = _; rw [hR]; simp
  clear hR
  go_enter Tryz.func96, Tryz.ntmps96
  go_wp2
  go_loopw [7, 12] (fun o i wr => ∃ (k : Nat) (A : Int), k ≤ L.length ∧ o = .int .i64 A ∧ i = .int .i64 k ∧ (-(100 ^ k : Nat) ≤ A ∧ A ≤ (100 ^ k : Nat)) ∧ Hid (R k = A) ∧ Below w.heap.size w wr ∧ wr.heap[w.heap.size]? = some (.cells #[.int .u32 s, .int .u32 p] 98 (0, 0))) (fun _ i _ => L.length - (intOf i).toNat)
  case atStart => exact ⟨0, 0, by omega, rfl, rfl, by simp, HZ, (Below.refl _ _).alloc (Nat.le_refl _) _, blk_new _ _⟩
  case round =>
    obtain ⟨k, A, hk, rfl, rfl, hA, HI, hb, hbx⟩ := hrel
    have HAB : Hid (-(100 ^ k : Nat) ≤ A ∧ A ≤ (100 ^ k : Nat)) := hA
    have hpw : 100 ^ k ≤ 100000000 := Nat.le_trans (Nat.pow_le_pow_right (by omega) (show k ≤ 4 by omega)) (by decide)
    have hA1 : -100000000 ≤ A := by have := hA.1; omega
    have hA2 : A ≤ 100000000 := by have := hA.2; omega
    clear hA hpw
    have hbs := hb.size
    have y0 := cellAt hbx 0
    have y1 := cellAt hbx 1
    have hlx := ltAt hbx
    have HBX : Hid (wr.heap[w.heap.size]? = some (.cells #[.int .u32 s, .int .u32 p] 98 (0, 0))) := hbx
    simp at y0 y1
    clear hbx
    by_cases hlt : k < L.length
    · obtain ⟨g, off, rfl, hg, x0, x1⟩ := HR.out k hlt
      rw [← hb.cell (p := ⟨g, _, none⟩) hg] at x0 x1
      have HD : Hid (R (k + 1) = if L[k].1 then A * 21 - (mostN L[k].2 ns s p : Nat) else A * 21 + (fewN L[k].2 ns s p : Nat)) := by show _ = _; rw [HG.out k hlt, HI.out]; rfl
      have HBA : Hid (Below w.heap.size w (wr.alloc (.cells #[.bool L[k].1, .int .u8 (L[k].2 : Int)] 114))) := hb.alloc hbs _
      have HKA : Hid ((wr.alloc (.cells #[.bool L[k].1, .int .u8 (L[k].2 : Int)] 114)).heap[w.heap.size]? = some (.cells #[.int .u32 s, .int .u32 p] 98 (0, 0))) := blk_old HBX.out _
      clear HI hb
      generalize L[k] = q at *
      obtain ⟨q1, q2⟩ := q
      simp only at *
      have m1 : IntKind.i64.wrap (A * 21) = A * 21 := by rw [IntKind.wrap_i64]; omega
      have hfl : fewN q2 ns s p ≤ 26 := Nat.le_trans List.countP_le_length h26
      have hml : mostN q2 ns s p ≤ 26 := Nat.le_trans List.countP_le_length h26
      cases q1 with
      | true =>
        have HE : Hid (R (k + 1) = A * 21 - (mostN q2 ns s p : Nat)) := by show _ = _; rw [HD.out]; rfl
        clear HD
        go_wp2_with fail
        refine (sc_most q2 _ ns s p _ (HV.out _ HBA.out) HSM.out hs hp).mono ?_
        rintro e w1 ⟨rfl, hb1⟩
        generalize mostN q2 ns s p = M at *
        have m2 : IntKind.i64.wrap (A * 21 - (M : Int)) = A * 21 - (M : Int) := by rw [IntKind.wrap_i64]; omega
        have HB2 : Hid (Below w.heap.size w w1) := HBA.out.trans (hb1.mono (by simp; omega))
        have HK2 : Hid (w1.heap[w.heap.size]? = some (.cells #[.int .u32 s, .int .u32 p] 98 (0, 0))) := blk_below hb1 HKA.out (by simp; omega)
        clear hb1
        go_wp2
        go_roundw
        case rel => exact ⟨k + 1, A * 21 - (M : Int), by omega, rfl, by go_num, by have h1 := HAB.out; have h2 := Nat.pow_succ 100 k; have h3 : 0 < 100 ^ k := Nat.pow_pos (by omega); generalize 100 ^ k = P at *; rw [h2]; omega, HE, HB2.out, HK2.out⟩
        case measure => simp [intOf]; omega
      | false =>
        have HE : Hid (R (k + 1) = A * 21 + (fewN q2 ns s p : Nat)) := by show _ = _; rw [HD.out]; rfl
        clear HD
        go_wp2_with fail
        refine (sc_fewest q2 _ ns s p _ (HV.out _ HBA.out) HSM.out hs hp).mono ?_
        rintro e w1 ⟨rfl, hb1⟩
        generalize fewN q2 ns s p = M at *
        have m2 : IntKind.i64.wrap (A * 21 + (M : Int)) = A * 21 + (M : Int) := by rw [IntKind.wrap_i64]; omega
        have HB2 : Hid (Below w.heap.size w w1) := HBA.out.trans (hb1.mono (by simp; omega))
        have HK2 : Hid (w1.heap[w.heap.size]? = some (.cells #[.int .u32 s, .int .u32 p] 98 (0, 0))) := blk_below hb1 HKA.out (by simp; omega)
        clear hb1
        go_wp2
        go_roundw
        case rel => exact ⟨k + 1, A * 21 + (M : Int), by omega, rfl, by go_num, by have h1 := HAB.out; have h2 := Nat.pow_succ 100 k; have h3 : 0 < 100 ^ k := Nat.pow_pos (by omega); generalize 100 ^ k = P at *; rw [h2]; omega, HE, HB2.out, HK2.out⟩
        case measure => simp [intOf]; omega
    · have hkl : k = L.length := by omega
      have HF : Hid (csN L ns s p = A) := by show _ = _; rw [HE0.out, ← hkl, HI.out]
      clear HI hkl
      go_wp2
      go_ret
      exact ⟨ret_int (by rw [HF.out]), hb⟩

end Go.Proofs.YtenbnmbbfeekpabGreatDoor
