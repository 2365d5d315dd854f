import Derived.Test.YtenbnmbbfeekpaaDoorXH

namespace Go.Proofs.YtenbnmbbfeekpaaDoor
open Go.RowKit

set_option maxHeartbeats 800000 in
set_option maxRecDepth 100000 in
theorem pack_provides (p : Pk) (a : Nat) (an : Option Addr) (nn cn : Nat) (ac : Option Addr) (nc cc : Nat) (ap : Option Addr) (np cp : Nat) (w : World) (hp : PkV w p an nn cn ac nc cc ap np cp) :
    Calls Tryd.prog 85 #[.agg #[.int .u8 p.n, .int .u8 p.v, .int .i64 p.m, .slice an nn cn, .slice ac nc cc, .slice ap np cp], .int .u8 a] w fun e w' => e = .returned (.bool (p.prov.any fun x => x == a)) ∧ Below w.heap.size w w' := by
  obtain ⟨hl, ao', cap', e, hrow⟩ := hp.2.2
  injection e with e1 e2 e3
  subst e1 e2 e3
  have HR : Hid _ := hrow
  clear hrow hp
  generalize p.prov = L at *
  go_enter Tryd.func85, Tryd.ntmps85
  go_wp2
  go_loopw [10] (fun i wr => ∃ k : Nat, k ≤ L.length ∧ i = .int .i64 k ∧ Hid ((L.any fun x => x == a) = (L.drop k).any fun x => x == a) ∧ Below w.heap.size w wr) (fun i _ => L.length - (intOf i).toNat)
  case atStart => exact ⟨0, by omega, rfl, by show _ = _; simp, (Below.refl _ _).alloc (Nat.le_refl _) _⟩
  case round =>
    obtain ⟨k, hk, rfl, HP, hb⟩ := hrel
    by_cases hlt : k < L.length
    · obtain ⟨g, off, rfl, hg, x0⟩ := HR.out k hlt
      rw [← hb.cell (p := ⟨g, _, none⟩) hg] at x0
      have HD : Hid (((L.drop k).any fun x => x == a) = ((L[k] == a) || (L.drop (k + 1)).any fun x => x == a)) := by show _ = _; rw [List.drop_eq_getElem_cons hlt]; rfl
      by_cases e1 : L[k] = a
      · have e1' : ((L[k] : Int) == a) = true := by rw [beq_iff_eq]; omega
        have HF : Hid ((L.any fun x => x == a) = true) := by show _ = _; rw [HP.out, HD.out]; simp [e1]
        clear e1
        go_wp2
        go_ret
        exact ⟨ret_bool HF.out.symm, hb⟩
      · have e1' : ((L[k] : Int) == a) = false := by rw [beq_eq_false_iff_ne]; omega
        have HF : Hid ((L.any fun x => x == a) = (L.drop (k + 1)).any fun x => x == a) := by show _ = _; rw [HP.out, HD.out]; simp [e1]
        clear e1
        go_wp2
        go_roundw
        case rel => exact ⟨k + 1, by omega, by go_num, HF, hb⟩
        case measure => simp [intOf]; omega
    · have HF : Hid ((L.any fun x => x == a) = false) := by show _ = _; rw [HP.out, List.drop_of_length_le (by omega)]; rfl
      go_wp2
      go_ret
      exact ⟨ret_bool HF.out.symm, hb⟩

set_option maxHeartbeats 800000 in
theorem doc_versionFits (v : Nat) (c : Cn) (w : World) :
    Calls Tryd.prog 86 #[.int .u8 v, .agg #[.int .u8 c.n, .int .u8 c.s, .int .u8 c.v]] w fun e w' => e = .returned (.bool (vfB v c)) ∧ Below w.heap.size w w' := by
  by_cases h1 : c.s = 61
  · have e1 : ((c.s : Int) == 61) = true := by rw [beq_iff_eq]; omega
    have HF : Hid (((v : Int) == c.v) = vfB v c) := by
      show _ = _
      unfold vfB
      rw [h1, Bool.eq_iff_iff]
      simp
      omega
    clear h1
    go_enter Tryd.func86, Tryd.ntmps86
    go_wp2
    go_ret
    exact ⟨ret_bool HF.out, (Below.refl _ _).alloc (Nat.le_refl _) _⟩
  · have e1 : ((c.s : Int) == 61) = false := by rw [beq_eq_false_iff_ne]; omega
    by_cases h2 : c.s = 60
    · have e2 : ((c.s : Int) == 60) = true := by rw [beq_iff_eq]; omega
      have HF : Hid (decide (v ≤ c.v) = vfB v c) := by
        show _ = _
        unfold vfB
        rw [h2, Bool.eq_iff_iff]
        simp
      clear h1 h2
      go_enter Tryd.func86, Tryd.ntmps86
      go_wp2
      go_ret
      exact ⟨ret_bool HF.out, (Below.refl _ _).alloc (Nat.le_refl _) _⟩
    · have e2 : ((c.s : Int) == 60) = false := by rw [beq_eq_false_iff_ne]; omega
      by_cases h3 : c.s = 62
      · have e3 : ((c.s : Int) == 62) = true := by rw [beq_iff_eq]; omega
        have HF : Hid (decide (c.v ≤ v) = vfB v c) := by
          show _ = _
          unfold vfB
          rw [h3, Bool.eq_iff_iff]
          simp
        clear h1 h2 h3
        go_enter Tryd.func86, Tryd.ntmps86
        go_wp2
        go_ret
        exact ⟨ret_bool HF.out, (Below.refl _ _).alloc (Nat.le_refl _) _⟩
      · have e3 : ((c.s : Int) == 62) = false := by rw [beq_eq_false_iff_ne]; omega
        have HF : Hid (vfB v c = false) := by show _ = _; unfold vfB; simp [h1, h2, h3]
        clear h1 h2 h3
        go_enter Tryd.func86, Tryd.ntmps86
        go_wp2
        go_ret
        exact ⟨ret_bool HF.out.symm, (Below.refl _ _).alloc (Nat.le_refl _) _⟩

end Go.Proofs.YtenbnmbbfeekpaaDoor

namespace Go.Proofs.YtenbnmbbfeekpaaDoor
open Go.RowKit

set_option maxHeartbeats 1600000 in
theorem pack_Fits (p : Pk) (c : Cn) (an : Option Addr) (nn cn : Nat) (ac : Option Addr) (nc cc : Nat) (ap : Option Addr) (np cp : Nat) (w : World) (hp : PkV w p an nn cn ac nc cc ap np cp) :
    Calls Tryd.prog 64 #[.agg #[.int .u8 p.n, .int .u8 p.v, .int .i64 p.m, .slice an nn cn, .slice ac nc cc, .slice ap np cp], .agg #[.int .u8 c.n, .int .u8 c.s, .int .u8 c.v]] w fun e w' => e = .returned (.bool (fitB p c)) ∧ Below w.heap.size w w' := by
  have HV : Hid (∀ w', Below w.heap.size w w' → PkV w' p an nn cn ac nc cc ap np cp) := fun w' hb => hp.below hb
  clear hp
  have HBW : Hid (Below w.heap.size w ((w.alloc (.cells #[.int .u8 p.n, .int .u8 p.v, .int .i64 p.m, .slice an nn cn, .slice ac nc cc, .slice ap np cp] 91)).alloc (.cells #[.int .u8 c.n, .int .u8 c.s, .int .u8 c.v] 125))) := ((Below.refl _ _).alloc (Nat.le_refl _) _).alloc (by simp) _
  by_cases h0 : c.s = 0
  · have e0 : ((c.s : Int) == 0) = true := by rw [beq_iff_eq]; omega
    by_cases h1 : p.n = c.n
    · have e1 : ((p.n : Int) == c.n) = true := by rw [beq_iff_eq]; omega
      have HF : Hid (fitB p c = true) := by show _ = _; unfold fitB; simp [h0, h1]
      clear h0 h1
      go_enter Tryd.func64, Tryd.ntmps64
      go_wp2
      go_ret
      exact ⟨ret_bool HF.out.symm, HBW.out⟩
    · have e1 : ((p.n : Int) == c.n) = false := by rw [beq_eq_false_iff_ne]; omega
      have HF : Hid ((p.prov.any fun x => x == c.n) = fitB p c) := by show _ = _; unfold fitB; simp [h0, h1]
      clear h0 h1
      go_enter Tryd.func64, Tryd.ntmps64
      go_wp2_with fail
      refine (pack_provides p c.n an nn cn ac nc cc ap np cp _ (HV.out _ HBW.out)).mono ?_
      rintro e w1 ⟨rfl, hb1⟩
      go_wp2
      go_ret
      exact ⟨ret_bool HF.out, HBW.out.trans (hb1.mono (by simp; omega))⟩
  · have e0 : ((c.s : Int) == 0) = false := by rw [beq_eq_false_iff_ne]; omega
    by_cases h1 : p.n = c.n
    · have e1 : ((p.n : Int) == c.n) = true := by rw [beq_iff_eq]; omega
      have HF : Hid (vfB p.v c = fitB p c) := by show _ = _; unfold fitB vfB; simp [h0, h1]
      clear h0 h1
      go_enter Tryd.func64, Tryd.ntmps64
      go_wp2_with fail
      refine (doc_versionFits p.v c _).mono ?_
      rintro e w1 ⟨rfl, hb1⟩
      go_wp2
      go_ret
      exact ⟨ret_bool HF.out, HBW.out.trans (hb1.mono (by simp; omega))⟩
    · have e1 : ((p.n : Int) == c.n) = false := by rw [beq_eq_false_iff_ne]; omega
      have HF : Hid (fitB p c = false) := by show _ = _; unfold fitB; simp [h0, h1]
      clear h0 h1
      go_enter Tryd.func64, Tryd.ntmps64
      go_wp2
      go_ret
      exact ⟨ret_bool HF.out.symm, HBW.out⟩

end Go.Proofs.YtenbnmbbfeekpaaDoor
