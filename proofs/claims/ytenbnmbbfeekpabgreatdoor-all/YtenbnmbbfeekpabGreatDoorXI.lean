import Derived.Test.YtenbnmbbfeekpabGreatDoorXG
import Derived.Test.YtenbnmbbfeekpabGreatDoorXH
import Derived.Deep.QuietTactic
import Derived.BigQuiet

namespace Go.Proofs.YtenbnmbbfeekpabGreatDoor
open Go.RowKit

set_option maxHeartbeats 400000 in
set_option maxRecDepth 100000 in
theorem ref_in (P I : List UInt8) (w : World) (hP : P.length ≤ maxLen) : Calls Tryz.prog 106 #[.string (bs P), .string (bs I)] w fun e w' => e = .returned (.bool (inB P I)) ∧ w' = w := by
  have hsz : (bs P).size = P.length := bs_size P
  unfold maxLen at hP
  have hb : (bs P).size ≤ 9223372036854775807 := by omega
  have HZ : Hid ((bs P).size = P.length) := hsz
  clear hsz hP
  go_enter Tryz.func106, Tryz.ntmps106
  go_wp2
  go_loop [5] (fun i => ∃ m j : Nat, Hid (j = 2 * m) ∧ j ≤ (bs P).size ∧ j + 1 ≤ 9223372036854775807 ∧ i = .int .i64 j ∧ Hid (inB P I = inB (P.drop j) I)) (fun i => (bs P).size + 2 - (intOf i).toNat)
  case atStart => exact ⟨0, 0, rfl, by omega, by omega, rfl, rfl⟩
  case round =>
    obtain ⟨m, j, HJ, hj, hj1, rfl, HI⟩ := hrel
    by_cases hlt : j + 1 < (bs P).size
    · obtain ⟨a, b, r, hd⟩ : ∃ a b r, P.drop j = a :: b :: r := by
        have h1 : j < P.length := by rw [HZ.out] at hlt; omega
        have h2 : j + 1 < P.length := by rw [HZ.out] at hlt; omega
        exact ⟨_, _, _, by rw [List.drop_eq_getElem_cons h1, List.drop_eq_getElem_cons h2]⟩
      have hx : (P.take (j + 2)).drop j = [a, b] := by
        rw [List.drop_take, hd, show j + 2 - j = 2 by omega]; rfl
      have HR : Hid (P.drop (j + 2) = r) := by
        show _ = _
        rw [show j + 2 = j + 1 + 1 by omega, ← List.drop_drop, ← List.drop_drop, hd]; rfl
      have HX : Hid (((bs P).extract j (j + 2)).toList = [a, b]) := by show _ = _; rw [extract_bs, bs_list, hx, tl]
      have HD : Hid (inB (P.drop j) I = (([a, b] == I) || inB (P.drop (j + 2)) I)) := by show _ = _; rw [HR.out, hd]; rfl
      have HJ2 : Hid (j + 2 = 2 * (m + 1)) := by show _ = _; have := HJ.out; omega
      clear hd hx
      rcases he : ([a, b] == I) with _ | _
      · have he' : (((bs P).extract j (j + 2)).toList == (bs I).toList) = false := by rw [HX.out, tl]; exact he
        have HE : Hid (inB P I = inB (P.drop (j + 2)) I) := by show _ = _; rw [HI.out, HD.out, he]; simp
        clear he HI HD
        go_wp2
        go_round
        case rel => exact ⟨m + 1, j + 2, HJ2, by omega, by have := HJ2.out; omega, by go_num, HE⟩
        case measure => simp [intOf]; omega
      · have he' : (((bs P).extract j (j + 2)).toList == (bs I).toList) = true := by rw [HX.out, tl]; exact he
        have HE : Hid (inB P I = true) := by show _ = _; rw [HI.out, HD.out, he]; simp
        clear he HI HD
        go_wp2
        go_ret
        exact ⟨ret_bool HE.out.symm, rfl⟩
    · have HE : Hid (inB P I = false) := by
        show _ = _
        rw [HI.out]
        have h2 : (P.drop j).length ≤ 1 := by rw [HZ.out] at hlt; simp; omega
        match h3 : P.drop j, h2 with
        | [], _ => rfl
        | [x], _ => rfl
      go_wp2
      go_ret
      exact ⟨ret_bool HE.out.symm, rfl⟩

end Go.Proofs.YtenbnmbbfeekpabGreatDoor

namespace Go.Proofs.YtenbnmbbfeekpabGreatDoor
open Go.RowKit

set_option maxHeartbeats 1600000 in
set_option maxRecDepth 100000 in
theorem ref_Fits0 (p : Pk) (n : Nat) (hn : n < 256) (mk : ByteArray) (vn vc : Value) (an : Option Addr) (nn cn : Nat) (ac : Option Addr) (nc cc : Nat) (hvn : vn = .slice an nn cn) (hvc : vc = .slice ac nc cc) (ap : Option Addr) (np cp : Nat) (w : World) (hok : PkOk p) (hpl : p.prov.length ≤ 801) (hst : StAt w (.slice ap np cp) (p.prov.map fun c => [b8 c])) :
    Calls Tryz.prog 143 #[.agg #[.string (bs [b8 p.n, b8 p.v]), .string mk, vn, vc, .slice ap np cp], .string (bs [b8 n])] w fun e w' => e = .returned (.bool (p.prov.any (fun x => x == n) || p.n == n)) ∧ Below w.heap.size w w' := by
  subst hvn hvc
  have hnp : np = p.prov.length := by
    rcases own_shape hst with ⟨h, h0⟩ | ⟨g, cap, h, _⟩
    · injection h with _ h _; simp at h0; rw [h0]; exact h
    · injection h with _ h _; simpa using h
  subst hnp
  have hrow : ∀ j (h : j < p.prov.length), ∃ g, ap = some ⟨g, 0, none⟩ ∧ g < w.heap.size ∧ w.cell? ⟨g, j, none⟩ = some (.string (bs [b8 p.prov[j]])) := by
    intro j hj
    rcases hst.cells with ⟨_, h0⟩ | ⟨g, cap, h, hg, hx⟩
    · simp at h0; rw [h0] at hj; simp at hj
    · injection h with h _ _
      exact ⟨g, h, hg, hx j _ (by simp [hj])⟩
  have HR : Hid _ := hrow
  have HOK : Hid (∀ x ∈ p.prov, x < 256) := fun x hx => nm_lt (hok.prov x hx)
  have hpn := nm_lt hok.n
  have h1 : (bs [b8 n]).size = 1 := by rw [bs_size]; rfl
  have hz1 : (((bs [b8 n]).size : Int) == 1) = true := by rw [h1]; rfl
  have h2 : (1 : Int) ≤ ((bs [b8 p.n, b8 p.v]).size : Int) := by rw [bs_size]; simp
  have HF : Hid (((bs [b8 p.n, b8 p.v]).extract 0 1).toList = [b8 p.n]) := by show _ = _; rw [extract_bs, bs_list, tl]; rfl
  clear hrow hst hok h1
  go_enter Tryz.func143, Tryz.ntmps143
  go_wp2
  go_loopw [5] (fun i wr => ∃ k : Nat, k ≤ p.prov.length ∧ i = .int .i64 k ∧ Hid (p.prov.any (fun x => x == n) = (p.prov.drop k).any (fun x => x == n)) ∧ Below w.heap.size w wr ∧ wr.heap[w.heap.size]? = some (.cells #[.string (bs [b8 p.n, b8 p.v]), .string mk, .slice an nn cn, .slice ac nc cc, .slice ap p.prov.length cp] 173 (0, 0))) (fun i _ => p.prov.length - (intOf i).toNat)
  case atStart => exact ⟨0, by omega, rfl, rfl, (Below.refl _ _).alloc (Nat.le_refl _) _, blk_new _ _⟩
  case round =>
    obtain ⟨k, hk, rfl, HA, hb, hblk⟩ := hrel
    have m4 : wr.cell? ⟨w.heap.size, 4, none⟩ = some (.slice ap p.prov.length cp) := by rw [cellAt hblk]; rfl
    have m0 : wr.cell? ⟨w.heap.size, 0, none⟩ = some (.string (bs [b8 p.n, b8 p.v])) := by rw [cellAt hblk]; rfl
    have HB : Hid (Below w.heap.size w wr) := hb
    have HBK : Hid _ := hblk
    by_cases hlt : k < p.prov.length
    · obtain ⟨g, rfl, hg, x⟩ := HR.out k hlt
      rw [← hb.cell (p := ⟨g, _, none⟩) hg] at x
      have HD : Hid ((p.prov.drop k).any (fun x => x == n) = ((p.prov[k] == n) || (p.prov.drop (k + 1)).any (fun x => x == n))) := by show _ = _; rw [List.drop_eq_getElem_cons hlt]; rfl
      have HEQ : Hid (((bs [b8 p.prov[k]]).toList == (bs [b8 n]).toList) = (p.prov[k] == n)) := by
        show _ = _; rw [tl, tl]
        have := b8_eq (HOK.out _ (List.getElem_mem hlt)) hn
        simpa using this
      clear hb hblk
      generalize p.prov[k] = X at *
      rcases he : (X == n) with _ | _
      · have he' : ((bs [b8 X]).toList == (bs [b8 n]).toList) = false := by rw [HEQ.out]; exact he
        have HE : Hid (p.prov.any (fun x => x == n) = (p.prov.drop (k + 1)).any (fun x => x == n)) := by show _ = _; rw [HA.out, HD.out, he]; simp
        clear he HA HD HEQ
        go_wp2
        go_roundw
        case rel => exact ⟨k + 1, by omega, by go_num, HE, HB.out, HBK.out⟩
        case measure => simp [intOf]; omega
      · have he' : ((bs [b8 X]).toList == (bs [b8 n]).toList) = true := by rw [HEQ.out]; exact he
        have HE : Hid (p.prov.any (fun x => x == n) = true) := by show _ = _; rw [HA.out, HD.out, he]; simp
        clear he HA HD HEQ
        go_wp2
        go_ret
        exact ⟨ret_bool (by rw [HE.out]; rfl), HB.out⟩
    · have HE : Hid (p.prov.any (fun x => x == n) = false) := by show _ = _; rw [HA.out, List.drop_of_length_le (by omega)]; rfl
      have HEQ : Hid ((((bs [b8 p.n, b8 p.v]).extract 0 1).toList == (bs [b8 n]).toList) = (p.n == n)) := by
        show _ = _; rw [HF.out, tl]
        have := b8_eq hpn hn
        simpa using this
      clear hb hblk HA
      go_wp2
      go_ret
      exact ⟨ret_bool (by rw [HE.out, Bool.false_or]; exact HEQ.out), HB.out⟩

end Go.Proofs.YtenbnmbbfeekpabGreatDoor

namespace Go.Proofs.YtenbnmbbfeekpabGreatDoor
open Go.RowKit

set_option maxHeartbeats 1600000 in
set_option maxRecDepth 100000 in
theorem ref_Fits3 (p : Pk) (n s v : Nat) (hn : n < 256) (hs : s = 61 ∨ s = 60 ∨ s = 62) (hv : v < 256) (mk : ByteArray) (an : Option Addr) (nn cn : Nat) (ac : Option Addr) (nc cc : Nat) (ap : Option Addr) (np cp : Nat) (w : World) (hok : PkOk p) :
    Calls Tryz.prog 143 #[.agg #[.string (bs [b8 p.n, b8 p.v]), .string mk, .slice an nn cn, .slice ac nc cc, .slice ap np cp], .string (bs [b8 n, b8 s, b8 v])] w fun e w' => e = .returned (.bool (p.n == n && ((s == 61 && p.v == v) || (s == 60 && decide (p.v ≤ v)) || (s == 62 && decide (v ≤ p.v))))) ∧ Below w.heap.size w w' := by
  have hpn := nm_lt hok.n
  have hpv := vr_lt hok.v
  have h1 : (bs [b8 n, b8 s, b8 v]).size = 3 := by rw [bs_size]; rfl
  have h2 : (bs [b8 p.n, b8 p.v]).size = 2 := by rw [bs_size]; rfl
  have hz1 : (((bs [b8 n, b8 s, b8 v]).size : Int) == 1) = false := by rw [h1]; rfl
  have a0 : (0 : Int) < ((bs [b8 n, b8 s, b8 v]).size : Int) := by rw [h1]; decide
  have a1 : (1 : Int) < ((bs [b8 n, b8 s, b8 v]).size : Int) := by rw [h1]; decide
  have a2 : (2 : Int) < ((bs [b8 n, b8 s, b8 v]).size : Int) := by rw [h1]; decide
  have c0 : (0 : Int) < ((bs [b8 p.n, b8 p.v]).size : Int) := by rw [h2]; decide
  have c1 : (1 : Int) < ((bs [b8 p.n, b8 p.v]).size : Int) := by rw [h2]; decide
  have hsl : s < 256 := by omega
  have x0 : ∀ h, ((bs [b8 p.n, b8 p.v])[0]'h).toNat = p.n := fun _ => b8_val hpn
  have x1 : ∀ h, ((bs [b8 p.n, b8 p.v])[1]'h).toNat = p.v := fun _ => b8_val hpv
  have y0 : ∀ h, ((bs [b8 n, b8 s, b8 v])[0]'h).toNat = n := fun _ => b8_val hn
  have y1 : ∀ h, ((bs [b8 n, b8 s, b8 v])[1]'h).toNat = s := fun _ => b8_val hsl
  have y2 : ∀ h, ((bs [b8 n, b8 s, b8 v])[2]'h).toNat = v := fun _ => b8_val hv
  clear h1 h2
  have hX : Hid True := trivial
  generalize bs [b8 p.n, b8 p.v] = X at *
  generalize bs [b8 n, b8 s, b8 v] = C at *
  generalize p.n = pn at *
  generalize p.v = pv at *
  by_cases hne : pn = n
  · have hne' : ((pn : Int) != (n : Int)) = false := by rw [bne_eq_false_iff_eq]; omega
    have HN : Hid (pn = n) := hne
    clear hne
    rcases hs with hs | hs | hs
    · by_cases he : pv = v
      · have he1 : ((pv : Int) == (v : Int)) = true := by rw [beq_iff_eq]; omega
        have HE : Hid ((pn == n && ((s == 61 && pv == v) || (s == 60 && decide (pv ≤ v)) || (s == 62 && decide (v ≤ pv)))) = true) := by show _ = _; simp [HN.out, hs, he]
        clear he
        have z1 : ((s : Int) == 61) = true := by rw [beq_iff_eq]; omega
        have z4 : ((s : Int) == 60) = false := by rw [beq_eq_false_iff_ne]; omega
        have z5 : ((s : Int) == 62) = false := by rw [beq_eq_false_iff_ne]; omega
        have HS : Hid (s = 61) := hs
        clear hs
        clear hok
        go_enter Tryz.func143, Tryz.ntmps143
        go_wp2_with fail
        go_quiet (fail)
        go_wp2
        go_ret
        exact ⟨ret_bool HE.out.symm, ((Below.refl _ _).alloc (Nat.le_refl _) _).trans ⟨rfl, rfl, rfl, Nat.le_refl _, fun _ _ => rfl⟩⟩
      · have he1 : ((pv : Int) == (v : Int)) = false := by rw [beq_eq_false_iff_ne]; omega
        have HE : Hid ((pn == n && ((s == 61 && pv == v) || (s == 60 && decide (pv ≤ v)) || (s == 62 && decide (v ≤ pv)))) = false) := by show _ = _; simp [HN.out, hs, he]
        clear he
        have z1 : ((s : Int) == 61) = true := by rw [beq_iff_eq]; omega
        have z4 : ((s : Int) == 60) = false := by rw [beq_eq_false_iff_ne]; omega
        have z5 : ((s : Int) == 62) = false := by rw [beq_eq_false_iff_ne]; omega
        have HS : Hid (s = 61) := hs
        clear hs
        clear hok
        go_enter Tryz.func143, Tryz.ntmps143
        go_wp2_with fail
        go_quiet (fail)
        go_wp2
        go_ret
        exact ⟨ret_bool HE.out.symm, ((Below.refl _ _).alloc (Nat.le_refl _) _).trans ⟨rfl, rfl, rfl, Nat.le_refl _, fun _ _ => rfl⟩⟩
    · by_cases he : pv ≤ v
      · have he1 : (pv : Int) ≤ (v : Int) := by omega
        have HE : Hid ((pn == n && ((s == 61 && pv == v) || (s == 60 && decide (pv ≤ v)) || (s == 62 && decide (v ≤ pv)))) = true) := by show _ = _; simp [HN.out, hs, he]
        clear he
        have z1 : ((s : Int) == 61) = false := by rw [beq_eq_false_iff_ne]; omega
        have z2 : ((s : Int) == 60) = true := by rw [beq_iff_eq]; omega
        have z5 : ((s : Int) == 62) = false := by rw [beq_eq_false_iff_ne]; omega
        have HS : Hid (s = 60) := hs
        clear hs
        clear hok
        go_enter Tryz.func143, Tryz.ntmps143
        go_wp2_with fail
        go_quiet (fail)
        go_wp2
        go_ret
        exact ⟨ret_bool HE.out.symm, ((Below.refl _ _).alloc (Nat.le_refl _) _).trans ⟨rfl, rfl, rfl, Nat.le_refl _, fun _ _ => rfl⟩⟩
      · have he1 : ¬ (pv : Int) ≤ (v : Int) := by omega
        have HE : Hid ((pn == n && ((s == 61 && pv == v) || (s == 60 && decide (pv ≤ v)) || (s == 62 && decide (v ≤ pv)))) = false) := by show _ = _; simp [HN.out, hs, he]
        clear he
        have z1 : ((s : Int) == 61) = false := by rw [beq_eq_false_iff_ne]; omega
        have z2 : ((s : Int) == 60) = true := by rw [beq_iff_eq]; omega
        have z5 : ((s : Int) == 62) = false := by rw [beq_eq_false_iff_ne]; omega
        have HS : Hid (s = 60) := hs
        clear hs
        clear hok
        go_enter Tryz.func143, Tryz.ntmps143
        go_wp2_with fail
        go_quiet (fail)
        go_wp2
        go_ret
        exact ⟨ret_bool (by rw [HE.out]; exact decide_eq_false (by omega)), ((Below.refl _ _).alloc (Nat.le_refl _) _).trans ⟨rfl, rfl, rfl, Nat.le_refl _, fun _ _ => rfl⟩⟩
    · by_cases he : v ≤ pv
      · have he1 : (v : Int) ≤ (pv : Int) := by omega
        have HE : Hid ((pn == n && ((s == 61 && pv == v) || (s == 60 && decide (pv ≤ v)) || (s == 62 && decide (v ≤ pv)))) = true) := by show _ = _; simp [HN.out, hs, he]
        clear he
        have z1 : ((s : Int) == 61) = false := by rw [beq_eq_false_iff_ne]; omega
        have z2 : ((s : Int) == 60) = false := by rw [beq_eq_false_iff_ne]; omega
        have z3 : ((s : Int) == 62) = true := by rw [beq_iff_eq]; omega
        have HS : Hid (s = 62) := hs
        clear hs
        clear hok
        go_enter Tryz.func143, Tryz.ntmps143
        go_wp2_with fail
        go_quiet (fail)
        go_wp2
        go_ret
        exact ⟨ret_bool HE.out.symm, ((Below.refl _ _).alloc (Nat.le_refl _) _).trans ⟨rfl, rfl, rfl, Nat.le_refl _, fun _ _ => rfl⟩⟩
      · have he1 : ¬ (v : Int) ≤ (pv : Int) := by omega
        have HE : Hid ((pn == n && ((s == 61 && pv == v) || (s == 60 && decide (pv ≤ v)) || (s == 62 && decide (v ≤ pv)))) = false) := by show _ = _; simp [HN.out, hs, he]
        clear he
        have z1 : ((s : Int) == 61) = false := by rw [beq_eq_false_iff_ne]; omega
        have z2 : ((s : Int) == 60) = false := by rw [beq_eq_false_iff_ne]; omega
        have z3 : ((s : Int) == 62) = true := by rw [beq_iff_eq]; omega
        have HS : Hid (s = 62) := hs
        clear hs
        clear hok
        go_enter Tryz.func143, Tryz.ntmps143
        go_wp2_with fail
        go_quiet (fail)
        go_wp2
        go_ret
        exact ⟨ret_bool (by rw [HE.out]; exact decide_eq_false (by omega)), ((Below.refl _ _).alloc (Nat.le_refl _) _).trans ⟨rfl, rfl, rfl, Nat.le_refl _, fun _ _ => rfl⟩⟩
  · have hne' : ((pn : Int) != (n : Int)) = true := by rw [bne_iff_ne]; omega
    have HE : Hid ((pn == n && ((s == 61 && pv == v) || (s == 60 && decide (pv ≤ v)) || (s == 62 && decide (v ≤ pv)))) = false) := by show _ = _; simp [hne]
    clear hne hs
    clear hok
    go_enter Tryz.func143, Tryz.ntmps143
    go_wp2_with fail
    go_quiet (fail)
    go_wp2
    go_ret
    exact ⟨ret_bool HE.out.symm, ((Below.refl _ _).alloc (Nat.le_refl _) _).trans ⟨rfl, rfl, rfl, Nat.le_refl _, fun _ _ => rfl⟩⟩

end Go.Proofs.YtenbnmbbfeekpabGreatDoor

namespace Go.Proofs.YtenbnmbbfeekpabGreatDoor
open Go.RowKit

theorem ref_Fits (p : Pk) (c : Cn) (mk : ByteArray) (an : Option Addr) (nn cn : Nat) (ac : Option Addr) (nc cc : Nat) (ap : Option Addr) (np cp : Nat) (w : World) (hok : PkOk p) (hc : CnOk c) (hpl : p.prov.length ≤ 801) (hst : StAt w (.slice ap np cp) (p.prov.map fun c => [b8 c])) :
    Calls Tryz.prog 143 #[.agg #[.string (bs [b8 p.n, b8 p.v]), .string mk, .slice an nn cn, .slice ac nc cc, .slice ap np cp], .string (bs (cnT c))] w fun e w' => e = .returned (.bool (fitB p c)) ∧ Below w.heap.size w w' := by
  have hn := nm_lt hc.n
  rcases hc.sv with ⟨h0, h1⟩ | ⟨h0, h1⟩
  · have e1 : cnT c = [b8 c.n] := by unfold cnT; rw [if_pos h0]
    have e2 : fitB p c = (p.prov.any (fun x => x == c.n) || p.n == c.n) := by unfold fitB; rw [if_pos h0]
    rw [e1, e2]
    exact ref_Fits0 p c.n hn mk _ _ an nn cn ac nc cc rfl rfl ap np cp w hok hpl hst
  · have hs : c.s = 61 ∨ c.s = 60 ∨ c.s = 62 := by
      unfold sgB at h0
      simp at h0
      omega
    have hz : c.s ≠ 0 := by omega
    have e1 : cnT c = [b8 c.n, b8 c.s, b8 c.v] := by unfold cnT; rw [if_neg hz]
    have e2 : fitB p c = (p.n == c.n && ((c.s == 61 && p.v == c.v) || (c.s == 60 && decide (p.v ≤ c.v)) || (c.s == 62 && decide (c.v ≤ p.v)))) := by unfold fitB; rw [if_neg hz]
    rw [e1, e2]
    exact ref_Fits3 p c.n c.s c.v hn hs (vr_lt h1) mk an nn cn ac nc cc ap np cp w hok

/-- The rows of the packages, one by one. -/
def RRow (w : World) (ap : Option Addr) (ps : List Pk) : Prop := ∀ j (h : j < ps.length), ∃ g, ap = some ⟨g, 0, none⟩ ∧ g < w.heap.size ∧ ∃ an nn cn ac nc cc ap np cp, (w.cell? ⟨g, j * 5, none⟩ = some (.string (bs [b8 ps[j].n, b8 ps[j].v])) ∧ w.cell? ⟨g, j * 5 + 1, none⟩ = some (.string (bs (mkT ps[j].m))) ∧
      w.cell? ⟨g, j * 5 + 2, none⟩ = some (.slice an nn cn) ∧ w.cell? ⟨g, j * 5 + 3, none⟩ = some (.slice ac nc cc) ∧ w.cell? ⟨g, j * 5 + 4, none⟩ = some (.slice ap np cp)) ∧ RPkAt w ps[j] (.slice an nn cn) (.slice ac nc cc) (.slice ap np cp)

theorem rrow {w : World} {ap : Option Addr} {np cp : Nat} {ps : List Pk} (h : RPksAt w (.slice ap np cp) ps) : RRow w ap ps ∧ np = ps.length := by
  constructor
  · intro j hj
    rcases rpks_row2 h with ⟨_, h0⟩ | ⟨g, cap, h, hg, hx⟩
    · rw [h0] at hj; simp at hj
    · injection h with h _ _
      exact ⟨g, h, hg, hx j hj⟩
  · rcases rpks_row2 h with ⟨h, h0⟩ | ⟨g, cap, h, _⟩
    · injection h with _ h _; rw [h0]; exact h
    · injection h with _ h _

set_option maxHeartbeats 1600000 in
set_option maxRecDepth 100000 in
theorem ref_fitted (ps : List Pk) (P : List UInt8) (c : Cn) (but : List UInt8) (ap : Option Addr) (np cp : Nat) (ai : Option Addr) (ni ci : Nat) (ar : Option Addr) (nr cr : Nat) (au : Option Addr) (nu cu : Nat) (w : World) (hd : RPksAt w (.slice ap np cp) ps) (hok : ∀ p ∈ ps, PkOk p ∧ PkSm p) (hpl : ps.length ≤ 801) (hc : CnOk c) (hP : P.length ≤ 2000) :
    Calls Tryz.prog 110 #[.agg #[.slice ap np cp, .slice ai ni ci, .slice ar nr cr, .slice au nu cu], .string (bs P), .string (bs (cnT c)), .string (bs but)] w fun e w' => e = .returned (.bool (fittedB ps P c but)) ∧ Below w.heap.size w w' := by
  obtain ⟨hr, rfl⟩ := rrow hd
  have HR : Hid (RRow w ap ps) := hr
  have HOK : Hid _ := hok
  have HC : Hid (CnOk c) := hc
  have HP : Hid (P.length ≤ 2000) := hP
  clear hr hd hok hc hP
  go_enter Tryz.func110, Tryz.ntmps110
  go_wp2
  go_loopw [9] (fun i wr => ∃ k : Nat, k ≤ ps.length ∧ i = .int .i64 k ∧ Hid (fittedB ps P c but = fittedB (ps.drop k) P c but) ∧ Below w.heap.size w wr ∧ wr.heap[w.heap.size]? = some (.cells #[.slice ap ps.length cp, .slice ai ni ci, .slice ar nr cr, .slice au nu cu] 126 (0, 0))) (fun i _ => ps.length - (intOf i).toNat)
  case atStart => exact ⟨0, by omega, rfl, rfl, (Below.refl _ _).alloc (Nat.le_refl _) _, blk_new _ _⟩
  case round =>
    obtain ⟨k, hk, rfl, HA, hb, hblk⟩ := hrel
    have hbs := hb.size
    have m0 : wr.cell? ⟨w.heap.size, 0, none⟩ = some (.slice ap ps.length cp) := by rw [cellAt hblk]; rfl
    have HB : Hid (Below w.heap.size w wr) := hb
    have HBK : Hid _ := hblk
    by_cases hlt : k < ps.length
    · obtain ⟨g, rfl, hg, an, nn, cn, ac, nc, cc, ap', np, cp', ⟨x0, x1, x2, x3, x4⟩, hpk⟩ := HR.out k hlt
      rw [← hb.cell (p := ⟨g, _, none⟩) hg] at x0 x1 x2 x3 x4
      obtain ⟨hpo, hpsm⟩ := HOK.out ps[k] (List.getElem_mem _)
      have HP3 : Hid (StAt wr (.slice ap' np cp') (ps[k].prov.map fun c => [b8 c])) := hpk.2.2.below hb
      have HD : Hid (fittedB (ps.drop k) P c but = ((inB P (pkI ps[k]) && fitB ps[k] c && !(pkI ps[k] == but)) || fittedB (ps.drop (k + 1)) P c but)) := by show _ = _; rw [List.drop_eq_getElem_cons hlt]; rfl
      clear hpk hb hblk
      generalize ps[k] = Q at *
      have HPO : Hid (PkOk Q ∧ PkSm Q) := ⟨hpo, hpsm⟩
      clear hpo hpsm
      have HN : Hid (fittedB ps P c but = ((inB P (pkI Q) && fitB Q c && !(pkI Q == but)) || fittedB (ps.drop (k + 1)) P c but)) := HA.out.trans HD.out
      clear HA HD
      go_wp2_with fail
      obtain ⟨W, hW⟩ : ∃ W, W = wr.alloc (.cells #[.string (bs [b8 Q.n, b8 Q.v]), .string (bs (mkT Q.m)), .slice an nn cn, .slice ac nc cc, .slice ap' np cp'] 173) := ⟨_, rfl⟩
      have hWb : W.heap[wr.heap.size]? = some (.cells #[.string (bs [b8 Q.n, b8 Q.v]), .string (bs (mkT Q.m)), .slice an nn cn, .slice ac nc cc, .slice ap' np cp'] 173 (0, 0)) := by rw [hW]; exact blk_new _ _
      have HWB : Hid (Below wr.heap.size wr W) := by show Below _ _ _; rw [hW]; exact (Below.refl _ _).alloc (Nat.le_refl _) _
      have k0 : W.cell? ⟨wr.heap.size, 0, none⟩ = some (.string (bs [b8 Q.n, b8 Q.v])) := by rw [cellAt hWb]; rfl
      have k1 : W.cell? ⟨wr.heap.size, 1, none⟩ = some (.string (bs (mkT Q.m))) := by rw [cellAt hWb]; rfl
      have k2 : W.cell? ⟨wr.heap.size, 2, none⟩ = some (.slice an nn cn) := by rw [cellAt hWb]; rfl
      have k3 : W.cell? ⟨wr.heap.size, 3, none⟩ = some (.slice ac nc cc) := by rw [cellAt hWb]; rfl
      have k4 : W.cell? ⟨wr.heap.size, 4, none⟩ = some (.slice ap' np cp') := by rw [cellAt hWb]; rfl
      have HSt : Hid (StAt W (.slice ap' np cp') (Q.prov.map fun c => [b8 c])) := HP3.out.below HWB.out
      rw [← hW]
      have HBW : Hid (Below w.heap.size w W) := HB.out.trans (HWB.out.mono hbs)
      have HBKW : Hid (W.heap[w.heap.size]? = _) := blk_below HWB.out HBK.out (ltAt HBK.out)
      clear hW hWb HWB HB HBK HP3 x0 x1 x2 x3 x4 m0
      refine (ref_in P _ _ (le_max HP.out)).mono ?_
      rintro e w1 ⟨rfl, rfl⟩
      go_wp2_with fail
      refine (ref_Fits Q c _ an nn cn ac nc cc ap' np cp' _ HPO.out.1 HC.out HPO.out.2.prov HSt.out).mono ?_
      rintro e w2 ⟨rfl, hb2⟩
      have hl0 : wr.heap.size < w1.heap.size := World.block_lt_of_cell? _ _ k0
      have k0' : w2.cell? ⟨wr.heap.size, 0, none⟩ = some (.string (bs [b8 Q.n, b8 Q.v])) := (hb2.cell (p := ⟨wr.heap.size, 0, none⟩) hl0).trans k0
      have HB2 : Hid (Below w.heap.size w w2) := HBW.out.trans (hb2.mono HBW.out.size)
      have HBK2 : Hid (w2.heap[w.heap.size]? = _) := blk_below hb2 HBKW.out (ltAt HBKW.out)
      change Hid (_ = ((inB P [b8 Q.n, b8 Q.v] && fitB Q c && !([b8 Q.n, b8 Q.v] == but)) || _)) at HN
      have HQ : Hid (((bs [b8 Q.n, b8 Q.v]).toList == (bs but).toList) = ([b8 Q.n, b8 Q.v] == but)) := by show _ = _; rw [tl, tl]
      clear hb2 k0 k1 k2 k3 k4 HBW HBKW HSt
      generalize inB P [b8 Q.n, b8 Q.v] = A at *
      generalize fitB Q c = B at *
      have hno : (A && B && !([b8 Q.n, b8 Q.v] == but)) = false → Hid (fittedB ps P c but = fittedB (ps.drop (k + 1)) P c but) := fun h => by show _ = _; rw [HN.out, h]; rfl
      cases A with
      | false =>
        have HE := hno rfl
        clear hno HN HQ
        go_wp2
        go_roundw
        case rel => exact ⟨k + 1, by omega, by go_num, HE, HB2.out, HBK2.out⟩
        case measure => simp [intOf]; omega
      | true =>
        cases B with
        | false =>
          have HE := hno rfl
          clear hno HN HQ
          go_wp2
          go_roundw
          case rel => exact ⟨k + 1, by omega, by go_num, HE, HB2.out, HBK2.out⟩
          case measure => simp [intOf]; omega
        | true =>
          rcases he : ([b8 Q.n, b8 Q.v] == but) with _ | _
          · have he' : ((bs [b8 Q.n, b8 Q.v]).toList == (bs but).toList) = false := by rw [HQ.out, he]
            have HE : Hid (fittedB ps P c but = true) := by show _ = _; rw [HN.out, he]; rfl
            clear hno HN HQ he
            go_wp2
            go_ret
            exact ⟨ret_bool HE.out.symm, HB2.out⟩
          · have he' : ((bs [b8 Q.n, b8 Q.v]).toList == (bs but).toList) = true := by rw [HQ.out, he]
            have HE := hno (by rw [he]; rfl)
            clear hno HN HQ he
            go_wp2
            go_roundw
            case rel => exact ⟨k + 1, by omega, by go_num, HE, HB2.out, HBK2.out⟩
            case measure => simp [intOf]; omega
    · have HE : Hid (fittedB ps P c but = false) := by show _ = _; rw [HA.out, List.drop_of_length_le (by omega)]; rfl
      clear hb hblk HA
      go_wp2
      go_ret
      exact ⟨ret_bool HE.out.symm, HB.out⟩

end Go.Proofs.YtenbnmbbfeekpabGreatDoor

namespace Go.Proofs.YtenbnmbbfeekpabGreatDoor
open Go.RowKit

/-- The rows of a list of texts, one by one. -/
def SRow (w : World) (a : Option Addr) (l : List (List UInt8)) : Prop := ∀ j (h : j < l.length), ∃ g, a = some ⟨g, 0, none⟩ ∧ g < w.heap.size ∧ w.cell? ⟨g, j, none⟩ = some (.string (bs l[j]))

theorem srow {w : World} {a : Option Addr} {n c : Nat} {l : List (List UInt8)} (h : StAt w (.slice a n c) l) : SRow w a l ∧ n = l.length := by
  constructor
  · intro j hj
    rcases h.cells with ⟨_, h0⟩ | ⟨g, cap, h, hg, hx⟩
    · rw [h0] at hj; simp at hj
    · injection h with h _ _
      exact ⟨g, h, hg, hx j _ (by simp [hj])⟩
  · rcases own_shape h with ⟨h, h0⟩ | ⟨g, cap, h, _⟩
    · injection h with _ h _; rw [h0]; exact h
    · injection h with _ h _

theorem dcell {W w' : World} (hb : Below W.drew.heap.size W.drew w') {p : Addr} {v : Value} (h : W.cell? p = some v) : w'.cell? p = some v := ((below_drew hb).cell (World.block_lt_of_cell? _ _ h)).trans h

set_option maxHeartbeats 1600000 in
set_option maxRecDepth 100000 in
theorem ref_beside (ps : List Pk) (P : List UInt8) (p : Pk) (mk : ByteArray) (ap : Option Addr) (np cp : Nat) (ai : Option Addr) (ni ci : Nat) (ar : Option Addr) (nr cr : Nat) (au : Option Addr) (nu cu : Nat) (an : Option Addr) (nn cn : Nat) (ac : Option Addr) (nc cc : Nat) (av : Option Addr) (nv cv : Nat) (w : World) (hd : RPksAt w (.slice ap np cp) ps) (hok : ∀ p ∈ ps, PkOk p ∧ PkSm p) (hpl : ps.length ≤ 801) (hP : P.length ≤ 2000) (hp : ∀ c ∈ p.conf, CnOk c) (hcl : p.conf.length ≤ 801) (hst : StAt w (.slice ac nc cc) (p.conf.map cnT)) :
    Calls Tryz.prog 108 #[.agg #[.slice ap np cp, .slice ai ni ci, .slice ar nr cr, .slice au nu cu], .string (bs P), .agg #[.string (bs [b8 p.n, b8 p.v]), .string mk, .slice an nn cn, .slice ac nc cc, .slice av nv cv]] w fun e w' => e = .returned (.bool (besideB ps P p)) ∧ Below w.heap.size w w' := by
  obtain ⟨hr, hnc⟩ := srow hst
  rw [List.length_map] at hnc
  subst hnc
  have HR : Hid (SRow w ac (p.conf.map cnT)) := hr
  have HD : Hid (RPksAt w (.slice ap np cp) ps) := hd
  have HOK : Hid _ := hok
  have HC : Hid (∀ c ∈ p.conf, CnOk c) := hp
  have HP : Hid (P.length ≤ 2000) := hP
  have HPL : Hid (ps.length ≤ 801) := hpl
  clear hr hd hok hp hP hst hpl
  have HI : Hid (besideB ps P p = p.conf.all fun c => !fittedB ps P c [b8 p.n, b8 p.v]) := rfl
  generalize hL : p.conf = L at *
  clear hL
  generalize hB : besideB ps P p = RB at *
  clear hB
  generalize hpi : [b8 p.n, b8 p.v] = I at *
  clear hpi
  go_enter Tryz.func108, Tryz.ntmps108
  go_wp2
  go_loopw [7] (fun i wr => ∃ k : Nat, k ≤ L.length ∧ i = .int .i64 k ∧ Hid (RB = (L.drop k).all fun c => !fittedB ps P c I) ∧ Below w.heap.size w wr ∧ wr.heap[w.heap.size]? = some (.cells #[.slice ap np cp, .slice ai ni ci, .slice ar nr cr, .slice au nu cu] 126 (0, 0)) ∧ wr.heap[w.heap.size + 1]? = some (.cells #[.string (bs I), .string mk, .slice an nn cn, .slice ac L.length cc, .slice av nv cv] 173 (0, 0))) (fun i _ => L.length - (intOf i).toNat)
  case atStart => exact ⟨0, by omega, rfl, HI, ((Below.refl _ _).alloc (Nat.le_refl _) _).alloc (by simp) _, blk_old (blk_new _ _) _, by have := blk_new (w.alloc (.cells #[.slice ap np cp, .slice ai ni ci, .slice ar nr cr, .slice au nu cu] 126)) (.cells #[.string (bs I), .string mk, .slice an nn cn, .slice ac L.length cc, .slice av nv cv] 173); simpa using this⟩
  case round =>
    obtain ⟨k, hk, rfl, HA, hb, hblk, hblk2⟩ := hrel
    have hbs := hb.size
    have hlt2 := ltAt hblk2
    have d0 : wr.cell? ⟨w.heap.size, 0, none⟩ = some (.slice ap np cp) := by rw [cellAt hblk]; rfl
    have d1 : wr.cell? ⟨w.heap.size, 1, none⟩ = some (.slice ai ni ci) := by rw [cellAt hblk]; rfl
    have d2 : wr.cell? ⟨w.heap.size, 2, none⟩ = some (.slice ar nr cr) := by rw [cellAt hblk]; rfl
    have d3 : wr.cell? ⟨w.heap.size, 3, none⟩ = some (.slice au nu cu) := by rw [cellAt hblk]; rfl
    have m0 : wr.cell? ⟨w.heap.size + 1, 0, none⟩ = some (.string (bs I)) := by rw [cellAt hblk2]; rfl
    have m3 : wr.cell? ⟨w.heap.size + 1, 3, none⟩ = some (.slice ac L.length cc) := by rw [cellAt hblk2]; rfl
    have HB : Hid (Below w.heap.size w wr) := hb
    have HBK : Hid _ := hblk
    have HBK2 : Hid _ := hblk2
    by_cases hlt : k < L.length
    · obtain ⟨g, rfl, hg, x0⟩ := HR.out k (by simpa using hlt)
      rw [← hb.cell (p := ⟨g, _, none⟩) hg, List.getElem_map] at x0
      have hgr : g < wr.heap.size := by omega
      have hco := HC.out L[k] (List.getElem_mem _)
      have HCO : Hid (CnOk L[k]) := hco
      have HDr : Hid (RPksAt wr (.slice ap np cp) ps) := HD.out.below hb
      have HD1 : Hid (((L.drop k).all fun c => !fittedB ps P c I) = (!fittedB ps P L[k] I && (L.drop (k + 1)).all fun c => !fittedB ps P c I)) := by show _ = _; rw [List.drop_eq_getElem_cons hlt]; rfl
      clear hblk hblk2 hco hb
      generalize L[k] = C at *
      have HN : Hid (RB = (!fittedB ps P C I && (L.drop (k + 1)).all fun c => !fittedB ps P c I)) := HA.out.trans HD1.out
      clear HA HD1
      rcases hf : fittedB ps P C I with _ | _
      · have HE : Hid (RB = (L.drop (k + 1)).all fun c => !fittedB ps P c I) := by show _ = _; rw [HN.out, hf]; rfl
        have HF : Hid _ := hf
        clear HN hf
        go_wp2_with fail
        go_region_held3 (fun w' => w'.cell? ⟨w.heap.size, 0, none⟩ = some (.slice ap np cp) ∧ w'.cell? ⟨w.heap.size, 1, none⟩ = some (.slice ai ni ci) ∧ w'.cell? ⟨w.heap.size, 2, none⟩ = some (.slice ar nr cr) ∧ w'.cell? ⟨w.heap.size, 3, none⟩ = some (.slice au nu cu) ∧ w'.cell? ⟨w.heap.size + 1, 0, none⟩ = some (.string (bs I)) ∧ w'.cell? ⟨w.heap.size + 1, 3, none⟩ = some (.slice (some ⟨g, 0, none⟩) L.length cc) ∧ w'.cell? ⟨g, k, none⟩ = some (.string (bs (cnT C)))) (first | exact ⟨d0, d1, d2, d3, m0, m3, x0⟩ | exact ⟨dcell (by assumption) d0, dcell (by assumption) d1, dcell (by assumption) d2, dcell (by assumption) d3, dcell (by assumption) m0, dcell (by assumption) m3, dcell (by assumption) x0⟩)
          (first | (go_at_call 110; refine (ref_fitted ps P C I ap np cp ai ni ci ar nr cr au nu cu _ (by exact HDr.out) HOK.out HPL.out HCO.out HP.out).mono ?_; rintro e w1 ⟨rfl, hb1⟩; rw [HF.out]; have HB1 : Hid (Below w.heap.size w w1) := HB.out.trans ((below_drew hb1).mono hbs); have HK1 : Hid (w1.heap[w.heap.size]? = _) := blk_below (below_drew hb1) HBK.out (ltAt HBK.out); have HK2 : Hid (w1.heap[w.heap.size + 1]? = _) := blk_below (below_drew hb1) HBK2.out (ltAt HBK2.out)))
        all_goals (try go_wp2)
        go_roundw
        case rel => exact ⟨k + 1, by omega, by go_num, HE, HB1.out, HK1.out, HK2.out⟩
        case measure => simp [intOf]; omega
      · have HE : Hid (RB = false) := by show _ = _; rw [HN.out, hf]; rfl
        have HF : Hid _ := hf
        clear HN hf
        go_wp2_with fail
        go_region_held3 (fun w' => w'.cell? ⟨w.heap.size, 0, none⟩ = some (.slice ap np cp) ∧ w'.cell? ⟨w.heap.size, 1, none⟩ = some (.slice ai ni ci) ∧ w'.cell? ⟨w.heap.size, 2, none⟩ = some (.slice ar nr cr) ∧ w'.cell? ⟨w.heap.size, 3, none⟩ = some (.slice au nu cu) ∧ w'.cell? ⟨w.heap.size + 1, 0, none⟩ = some (.string (bs I)) ∧ w'.cell? ⟨w.heap.size + 1, 3, none⟩ = some (.slice (some ⟨g, 0, none⟩) L.length cc) ∧ w'.cell? ⟨g, k, none⟩ = some (.string (bs (cnT C)))) (first | exact ⟨d0, d1, d2, d3, m0, m3, x0⟩ | exact ⟨dcell (by assumption) d0, dcell (by assumption) d1, dcell (by assumption) d2, dcell (by assumption) d3, dcell (by assumption) m0, dcell (by assumption) m3, dcell (by assumption) x0⟩)
          (first | (go_at_call 110; refine (ref_fitted ps P C I ap np cp ai ni ci ar nr cr au nu cu _ (by exact HDr.out) HOK.out HPL.out HCO.out HP.out).mono ?_; rintro e w1 ⟨rfl, hb1⟩; rw [HF.out]; have HB1 : Hid (Below w.heap.size w w1) := HB.out.trans ((below_drew hb1).mono hbs); have HK1 : Hid (w1.heap[w.heap.size]? = _) := blk_below (below_drew hb1) HBK.out (ltAt HBK.out); have HK2 : Hid (w1.heap[w.heap.size + 1]? = _) := blk_below (below_drew hb1) HBK2.out (ltAt HBK2.out)))
        all_goals (try go_wp2)
        go_ret
        exact ⟨ret_bool HE.out.symm, HB1.out⟩
    · have HE : Hid (RB = true) := by show _ = _; rw [HA.out, List.drop_of_length_le (by omega)]; rfl
      clear hb hblk hblk2 HA
      go_wp2
      go_ret
      exact ⟨ret_bool HE.out.symm, HB.out⟩

end Go.Proofs.YtenbnmbbfeekpabGreatDoor

namespace Go.Proofs.YtenbnmbbfeekpabGreatDoor
open Go.RowKit

set_option maxHeartbeats 3200000 in
set_option maxRecDepth 100000 in
theorem ref_met (ps : List Pk) (P : List UInt8) (p : Pk) (i0 mk : ByteArray) (ap : Option Addr) (np cp : Nat) (ai : Option Addr) (ni ci : Nat) (ar : Option Addr) (nr cr : Nat) (au : Option Addr) (nu cu : Nat) (an : Option Addr) (nn cn : Nat) (ac : Option Addr) (nc cc : Nat) (av : Option Addr) (nv cv : Nat) (w : World) (hd : RPksAt w (.slice ap np cp) ps) (hok : ∀ p ∈ ps, PkOk p ∧ PkSm p) (hpl : ps.length ≤ 801) (hP : P.length ≤ 2000) (hp : ∀ n ∈ p.needs, NdOk n) (hcl : p.needs.length ≤ 801) (hc2 : ∀ n ∈ p.needs, n.length ≤ 801 ∧ (ndT n).length ≤ 800) (hst : StAt w (.slice an nn cn) (p.needs.map ndT)) :
    Calls Tryz.prog 107 #[.agg #[.slice ap np cp, .slice ai ni ci, .slice ar nr cr, .slice au nu cu], .string (bs P), .agg #[.string i0, .string mk, .slice an nn cn, .slice ac nc cc, .slice av nv cv]] w fun e w' => e = .returned (.bool (metB ps P p)) ∧ Below w.heap.size w w' := by
  obtain ⟨hr, hnc⟩ := srow hst
  rw [List.length_map] at hnc
  subst hnc
  have HR : Hid (SRow w an (p.needs.map ndT)) := hr
  have HD : Hid (RPksAt w (.slice ap np cp) ps) := hd
  have HOK : Hid _ := hok
  have HC : Hid (∀ n ∈ p.needs, NdOk n) := hp
  have HC2 : Hid (∀ n ∈ p.needs, n.length ≤ 801 ∧ (ndT n).length ≤ 800) := hc2
  have HP : Hid (P.length ≤ 2000) := hP
  have HPL : Hid (ps.length ≤ 801) := hpl
  clear hr hd hok hp hP hst hpl hc2
  have HI : Hid (metB ps P p = p.needs.all fun n => n.any fun c => fittedB ps P c []) := rfl
  generalize hL : p.needs = L at *
  clear hL
  generalize hB : metB ps P p = RB at *
  clear hB
  go_enter Tryz.func107, Tryz.ntmps107
  go_wp2
  go_loopw [7] (fun i wr => ∃ k : Nat, k ≤ L.length ∧ i = .int .i64 k ∧ Hid (RB = (L.drop k).all fun n => n.any fun c => fittedB ps P c []) ∧ Below w.heap.size w wr ∧ wr.heap[w.heap.size]? = some (.cells #[.slice ap np cp, .slice ai ni ci, .slice ar nr cr, .slice au nu cu] 126 (0, 0)) ∧ wr.heap[w.heap.size + 1]? = some (.cells #[.string i0, .string mk, .slice an L.length cn, .slice ac nc cc, .slice av nv cv] 173 (0, 0))) (fun i _ => L.length - (intOf i).toNat)
  case atStart => exact ⟨0, by omega, rfl, HI, ((Below.refl _ _).alloc (Nat.le_refl _) _).alloc (by simp) _, blk_old (blk_new _ _) _, by have := blk_new (w.alloc (.cells #[.slice ap np cp, .slice ai ni ci, .slice ar nr cr, .slice au nu cu] 126)) (.cells #[.string i0, .string mk, .slice an L.length cn, .slice ac nc cc, .slice av nv cv] 173); simpa using this⟩
  case round =>
    obtain ⟨k, hk, rfl, HA, hb, hblk, hblk2⟩ := hrel
    have hbs := hb.size
    have hlt2 := ltAt hblk2
    have m2 : wr.cell? ⟨w.heap.size + 1, 2, none⟩ = some (.slice an L.length cn) := by rw [cellAt hblk2]; rfl
    have HB : Hid (Below w.heap.size w wr) := hb
    have HBK : Hid _ := hblk
    have HBK2 : Hid _ := hblk2
    by_cases hlt : k < L.length
    · obtain ⟨g, rfl, hg, x0⟩ := HR.out k (by simpa using hlt)
      rw [← hb.cell (p := ⟨g, _, none⟩) hg, List.getElem_map] at x0
      have hgr : g < wr.heap.size := by omega
      have HCO : Hid (NdOk L[k]) := HC.out L[k] (List.getElem_mem _)
      have HCL : Hid (L[k].length ≤ 801 ∧ (ndT L[k]).length ≤ 800) := HC2.out L[k] (List.getElem_mem _)
      have HDr : Hid (RPksAt wr (.slice ap np cp) ps) := HD.out.below hb
      have HD1 : Hid (((L.drop k).all fun n => n.any fun c => fittedB ps P c []) = ((L[k].any fun c => fittedB ps P c []) && (L.drop (k + 1)).all fun n => n.any fun c => fittedB ps P c [])) := by show _ = _; rw [List.drop_eq_getElem_cons hlt]; rfl
      clear hblk hblk2 hb
      generalize L[k] = N at *
      have HN : Hid (RB = ((N.any fun c => fittedB ps P c []) && (L.drop (k + 1)).all fun n => n.any fun c => fittedB ps P c [])) := HA.out.trans HD1.out
      clear HA HD1
      go_wp2_with fail
      refine (ref_split (bs (ndT N)) 124 _ (by rw [bs_size]; exact HCL.out.2)).mono ?_
      rintro e w1 ⟨v, rfl, hown, hb1⟩
      have hst1 : StAt w1 v (N.map cnT) := by
        refine StAt.of (base := wr.heap.size) ?_
        have e1 : splitL 124 (bs (ndT N)).data.toList = N.map cnT := by rw [bs_list]; exact nd_split HCO.out
        rw [e1] at hown
        exact hown
      obtain ⟨al, nl, cl, rfl⟩ := hst1.shape
      obtain ⟨hr1, hnl⟩ := srow hst1
      rw [List.length_map] at hnl
      subst hnl
      have HR1 : Hid (SRow w1 al (N.map cnT)) := hr1
      have HD1 : Hid (RPksAt w1 (.slice ap np cp) ps) := HDr.out.below hb1
      have HB1 : Hid (Below w.heap.size w w1) := HB.out.trans (hb1.mono hbs)
      have HK1 : Hid (w1.heap[w.heap.size]? = _) := blk_below hb1 HBK.out (ltAt HBK.out)
      have HK2 : Hid (w1.heap[w.heap.size + 1]? = _) := blk_below hb1 HBK2.out (ltAt HBK2.out)
      have hbs1 := HB1.out.size
      have hNl := HCL.out.1
      clear hst1 hr1 hown hb1 HB HBK HBK2 HDr m2 x0
      go_wp2
      go_loopw [8, 10] (fun so i wx => ∃ j : Nat, j ≤ N.length ∧ i = .int .i64 j ∧ so = .bool ((N.take j).any fun c => fittedB ps P c []) ∧ Below w1.heap.size w1 wx) (fun _ i _ => N.length - (intOf i).toNat)
      case atStart => exact ⟨0, by omega, rfl, rfl, Below.refl _ _⟩
      case round =>
        obtain ⟨j, hj, rfl, rfl, hbx⟩ := hrel
        have HBX : Hid (Below w1.heap.size w1 wr) := hbx
        have hbxs := hbx.size
        by_cases hjl : j < N.length
        · obtain ⟨g1, rfl, hg1, y0⟩ := HR1.out j (by simpa using hjl)
          rw [← hbx.cell (p := ⟨g1, _, none⟩) hg1, List.getElem_map] at y0
          have hx1 := blk_below hbx HK1.out (ltAt HK1.out)
          have d0 : wr.cell? ⟨w.heap.size, 0, none⟩ = some (.slice ap np cp) := by rw [cellAt hx1]; rfl
          have d1 : wr.cell? ⟨w.heap.size, 1, none⟩ = some (.slice ai ni ci) := by rw [cellAt hx1]; rfl
          have d2 : wr.cell? ⟨w.heap.size, 2, none⟩ = some (.slice ar nr cr) := by rw [cellAt hx1]; rfl
          have d3 : wr.cell? ⟨w.heap.size, 3, none⟩ = some (.slice au nu cu) := by rw [cellAt hx1]; rfl
          have HDx : Hid (RPksAt wr (.slice ap np cp) ps) := HD1.out.below hbx
          have HCJ : Hid (CnOk N[j]) := HCO.out.2 _ (List.getElem_mem _)
          have HT : Hid (((N.take (j + 1)).any fun c => fittedB ps P c []) = (((N.take j).any fun c => fittedB ps P c []) || fittedB ps P N[j] [])) := by show _ = _; rw [List.take_succ_eq_append_getElem hjl, List.any_append]; simp only [List.any_cons, List.any_nil, Bool.or_false]
          clear hx1 hbx
          generalize N[j] = C at *
          generalize hSo : ((N.take j).any fun c => fittedB ps P c []) = So at *
          clear hSo
          generalize hSf : fittedB ps P C [] = Sf at *
          have HF : Hid (fittedB ps P C [] = Sf) := hSf
          clear hSf
          go_wp2_with fail
          go_region_held3 (fun w' => w'.cell? ⟨w.heap.size, 0, none⟩ = some (.slice ap np cp) ∧ w'.cell? ⟨w.heap.size, 1, none⟩ = some (.slice ai ni ci) ∧ w'.cell? ⟨w.heap.size, 2, none⟩ = some (.slice ar nr cr) ∧ w'.cell? ⟨w.heap.size, 3, none⟩ = some (.slice au nu cu) ∧ w'.cell? ⟨g1, j, none⟩ = some (.string (bs (cnT C)))) (first | exact ⟨d0, d1, d2, d3, y0⟩ | exact ⟨dcell (by assumption) d0, dcell (by assumption) d1, dcell (by assumption) d2, dcell (by assumption) d3, dcell (by assumption) y0⟩)
            (first | (go_at_call 110; refine (ref_fitted ps P C [] ap np cp ai ni ci ar nr cr au nu cu _ (by exact HDx.out) HOK.out HPL.out HCJ.out HP.out).mono ?_; rintro e w2 ⟨rfl, hb2⟩; rw [HF.out]; have HB2 : Hid (Below w1.heap.size w1 w2) := HBX.out.trans ((below_drew hb2).mono hbxs)))
          cases So
          · go_wp2
            go_roundw
            case rel => exact ⟨j + 1, by omega, by go_num, by rw [HT.out]; rfl, HB2.out⟩
            case measure => simp [intOf]; omega
          · go_wp2
            go_roundw
            case rel => exact ⟨j + 1, by omega, by go_num, by rw [HT.out]; rfl, HB2.out⟩
            case measure => simp [intOf]; omega
        · have hjN : j = N.length := by omega
          subst hjN
          have HT : Hid (((N.take N.length).any fun c => fittedB ps P c []) = (N.any fun c => fittedB ps P c [])) := by show _ = _; rw [List.take_length]
          have HBw : Hid (Below w.heap.size w wr) := HB1.out.trans (hbx.mono hbs1)
          have HX1 : Hid (wr.heap[w.heap.size]? = _) := blk_below hbx HK1.out (ltAt HK1.out)
          have HX2 : Hid (wr.heap[w.heap.size + 1]? = _) := blk_below hbx HK2.out (ltAt HK2.out)
          clear hbx
          rw [HT.out]
          rcases hs : (N.any fun c => fittedB ps P c []) with _ | _
          · have HE : Hid (RB = false) := by show _ = _; rw [HN.out, hs]; rfl
            clear HN HT hs
            go_wp2
            go_ret
            exact ⟨ret_bool HE.out.symm, HBw.out⟩
          · have HE : Hid (RB = (L.drop (k + 1)).all fun n => n.any fun c => fittedB ps P c []) := by show _ = _; rw [HN.out, hs]; rfl
            clear HN HT hs
            go_wp2
            go_roundw
            case rel => exact ⟨k + 1, by omega, by go_num, HE, HBw.out, HX1.out, HX2.out⟩
            case measure => simp [intOf]; omega
    · have HE : Hid (RB = true) := by show _ = _; rw [HA.out, List.drop_of_length_le (by omega)]; rfl
      clear hb hblk hblk2 HA
      go_wp2
      go_ret
      exact ⟨ret_bool HE.out.symm, HB.out⟩

end Go.Proofs.YtenbnmbbfeekpabGreatDoor
