import Derived.Test.YtdfnnpakdbhhpaaGreatDoorRdB
import Derived.Test.YtdfnnpakdbhhpaaGreatDoorPsM
namespace Go.Proofs.YtdfnnpakdbhhpaaGreatDoor
open Go.RowKit

theorem sz (s : ByteArray) : s.data.toList.length = s.size := by simp

set_option maxHeartbeats 800000 in
theorem rd_mark (B : Nat) (s : ByteArray) (st : St) (w : World) (hs : s.size ≤ 800) (hi : st.1 ≤ s.size) (hr : Rd B w s st.1 st.2) :
    Calls Tryz.prog 103 #[.pointer (some ⟨B, 0, none⟩)] w fun e w' => e = .returned (.int .i64 (mkV s.data.toList st)) ∧ Rd B w' s (mkS s.data.toList st).1 (mkS s.data.toList st).2 ∧ Kp B w w' := by
  obtain ⟨i, bad⟩ := st
  have HR : Hid (Rd B w s i bad) := hr
  replace hi : i ≤ s.size := hi
  clear hr
  have l1 := acI_le s 43 i bad hi
  have l2 := acI_le s 33 _ bad l1
  generalize ht : s.data.toList = t at *
  by_cases h1 : acB t 43 i bad = true
  · by_cases h2 : acB t 33 (acI t 43 i bad) bad = true
    · have HV : Hid (mkV t (i, bad) = 2) := by show _ = _; simp [mkV, acS, h1, h2]
      have HS : Hid (mkS t (i, bad) = (acI t 33 (acI t 43 i bad) bad, bad)) := by show _ = _; simp [mkS, acS, h1, h2]
      subst ht
      go_enter Tryz.func103, Tryz.ntmps103
      go_wp2_with fail
      refine (rd_accept B s i bad 43 43 rfl _ hs hi HR.out).mono ?_
      rintro e w1 ⟨rfl, hr1, hk1⟩
      have HR1 : Hid _ := hr1
      clear hr1
      go_wp2_with fail
      refine (rd_accept B s _ bad 33 33 rfl _ hs l1 HR1.out).mono ?_
      rintro e w2 ⟨rfl, hr2, hk2⟩
      go_wp2
      go_ret
      exact ⟨ret_int (by rw [HV.out]; rfl), by rw [HS.out]; exact hr2, hk1.trans hk2⟩
    · simp only [Bool.not_eq_true] at h2
      by_cases h3 : acB t 94 (acI t 33 (acI t 43 i bad) bad) bad = true
      · have HV : Hid (mkV t (i, bad) = 3) := by show _ = _; simp [mkV, acS, h1, h2, h3]
        have HS : Hid (mkS t (i, bad) = (acI t 94 (acI t 33 (acI t 43 i bad) bad) bad, bad)) := by show _ = _; simp [mkS, acS, h1, h2]
        subst ht
        go_enter Tryz.func103, Tryz.ntmps103
        go_wp2_with fail
        refine (rd_accept B s i bad 43 43 rfl _ hs hi HR.out).mono ?_
        rintro e w1 ⟨rfl, hr1, hk1⟩
        have HR1 : Hid _ := hr1
        clear hr1
        go_wp2_with fail
        refine (rd_accept B s _ bad 33 33 rfl _ hs l1 HR1.out).mono ?_
        rintro e w2 ⟨rfl, hr2, hk2⟩
        have HR2 : Hid _ := hr2
        clear hr2
        go_wp2_with fail
        refine (rd_accept B s _ bad 94 94 rfl _ hs l2 HR2.out).mono ?_
        rintro e w3 ⟨rfl, hr3, hk3⟩
        go_wp2
        go_ret
        exact ⟨ret_int (by rw [HV.out]; rfl), by rw [HS.out]; exact hr3, (hk1.trans hk2).trans hk3⟩
      · simp only [Bool.not_eq_true] at h3
        have HV : Hid (mkV t (i, bad) = 1) := by show _ = _; simp [mkV, acS, h1, h2, h3]
        have HS : Hid (mkS t (i, bad) = (acI t 94 (acI t 33 (acI t 43 i bad) bad) bad, bad)) := by show _ = _; simp [mkS, acS, h1, h2]
        subst ht
        go_enter Tryz.func103, Tryz.ntmps103
        go_wp2_with fail
        refine (rd_accept B s i bad 43 43 rfl _ hs hi HR.out).mono ?_
        rintro e w1 ⟨rfl, hr1, hk1⟩
        have HR1 : Hid _ := hr1
        clear hr1
        go_wp2_with fail
        refine (rd_accept B s _ bad 33 33 rfl _ hs l1 HR1.out).mono ?_
        rintro e w2 ⟨rfl, hr2, hk2⟩
        have HR2 : Hid _ := hr2
        clear hr2
        go_wp2_with fail
        refine (rd_accept B s _ bad 94 94 rfl _ hs l2 HR2.out).mono ?_
        rintro e w3 ⟨rfl, hr3, hk3⟩
        go_wp2
        go_ret
        exact ⟨ret_int (by rw [HV.out]; rfl), by rw [HS.out]; exact hr3, (hk1.trans hk2).trans hk3⟩
  · simp only [Bool.not_eq_true] at h1
    have HV : Hid (mkV t (i, bad) = 0) := by show _ = _; simp [mkV, h1]
    have HS : Hid (mkS t (i, bad) = (acI t 43 i bad, bad)) := by show _ = _; simp [mkS, acS, h1]
    subst ht
    go_enter Tryz.func103, Tryz.ntmps103
    go_wp2_with fail
    refine (rd_accept B s i bad 43 43 rfl _ hs hi HR.out).mono ?_
    rintro e w1 ⟨rfl, hr1, hk1⟩
    go_wp2
    go_ret
    exact ⟨ret_int (by rw [HV.out]; rfl), by rw [HS.out]; exact hr1, hk1⟩

theorem mkS_le (s : ByteArray) (st : St) (hi : st.1 ≤ s.size) : (mkS s.data.toList st).1 ≤ s.size := by
  have l1 := acI_le s 43 st.1 st.2 hi
  have l2 := acI_le s 33 _ st.2 l1
  have l3 := acI_le s 94 _ st.2 l2
  unfold mkS
  split
  · split
    · exact l2
    · exact l3
  · exact l1

def cnVal (c : Cn) : Value := .agg #[.int .u8 c.n, .int .u8 c.s, .int .u8 c.v]

set_option maxHeartbeats 800000 in
theorem rd_constraint (B : Nat) (s : ByteArray) (st : St) (w : World) (hs : s.size ≤ 800) (hi : st.1 ≤ s.size) (hr : Rd B w s st.1 st.2) :
    Calls Tryz.prog 115 #[.pointer (some ⟨B, 0, none⟩)] w fun e w' => e = .returned (cnVal (cnV s.data.toList st)) ∧ Rd B w' s (cnS s.data.toList st).1 (cnS s.data.toList st).2 ∧ Kp B w w' := by
  obtain ⟨i, bad⟩ := st
  have HR : Hid (Rd B w s i bad) := hr
  replace hi : i ≤ s.size := hi
  have hB := hr.lt
  clear hr
  have l1 := naI_le s i bad hi
  have l2 := siI_le s _ (naBad s.data.toList i bad) l1
  have HF : Hid (Fr B w _ 121 #[.int .u8 0, .int .u8 0, .int .u8 0] #[.int .u8 0, .int .u8 0, .int .u8 0] s (i, bad)) := Fr.start (st := (i, bad)) HR.out 121 #[.int .u8 0, .int .u8 0, .int .u8 0]
  clear HR
  go_enter Tryz.func115, Tryz.ntmps115
  go_wp2_with fail
  refine (rd_name B s i bad _ hs hi HF.out.rd).mono ?_
  rintro e w1 ⟨rfl, hr1, hk1⟩
  have h1 := HF.out.call (st' := naS s.data.toList (i, bad)) hr1 hk1
  have c0 : w1.cell? ⟨w.heap.size + 1, 0, none⟩ = some (.int .u8 0) := h1.c 0 rfl
  have f0 := h1.f 0
  have HF1 : Hid (Fr B w _ 121 #[.int .u8 0, .int .u8 0, .int .u8 0] #[.int .u8 (naV s.data.toList i bad), .int .u8 0, .int .u8 0] s (naS s.data.toList (i, bad))) := h1.store 0 (.int .u8 (naV s.data.toList i bad))
  clear HF h1 hr1 hk1
  go_wp2_with fail
  refine (rd_sign B s (naI s.data.toList i bad) (naBad s.data.toList i bad) _ hs l1 HF1.out.rd).mono ?_
  rintro e w2 ⟨rfl, hr2, hk2⟩
  have h2 := HF1.out.call (st' := siS s.data.toList (naS s.data.toList (i, bad))) hr2 hk2
  clear HF1 hr2 hk2 c0 f0
  by_cases hz : siV s.data.toList (naI s.data.toList i bad) (naBad s.data.toList i bad) = 0
  · have hz' : ((siV s.data.toList (naI s.data.toList i bad) (naBad s.data.toList i bad) : Int) != 0) = false := by rw [bne_eq_false_iff_eq]; omega
    have c0 : w2.cell? ⟨w.heap.size + 1, 0, none⟩ = some (.int .u8 (naV s.data.toList i bad)) := h2.c 0 rfl
    have c1 : w2.cell? ⟨w.heap.size + 1, 1, none⟩ = some (.int .u8 0) := h2.c 1 rfl
    have c2 : w2.cell? ⟨w.heap.size + 1, 2, none⟩ = some (.int .u8 0) := h2.c 2 rfl
    have d0 : w2.cell? ⟨w.heap.size, 0, none⟩ = some (.int .u8 0) := h2.c' 0 rfl
    have d1 : w2.cell? ⟨w.heap.size, 1, none⟩ = some (.int .u8 0) := h2.c' 1 rfl
    have d2 : w2.cell? ⟨w.heap.size, 2, none⟩ = some (.int .u8 0) := h2.c' 2 rfl
    have f0 := h2.f 0
    have f1 := h2.f 1
    have f2 := h2.f 2
    have e0 := h2.f' 0
    have e1 := h2.f' 1
    have e2 := h2.f' 2
    have HF2 : Hid (Fr B w w2 121 #[.int .u8 0, .int .u8 0, .int .u8 0] #[.int .u8 (naV s.data.toList i bad), .int .u8 0, .int .u8 0] s (siS s.data.toList (naS s.data.toList (i, bad)))) := h2
    have HV : Hid (cnV s.data.toList (i, bad) = { n := naV s.data.toList i bad, s := siV s.data.toList (naI s.data.toList i bad) (naBad s.data.toList i bad), v := 0 }) := by show _ = _; simp [cnV, naS, hz]
    have HS : Hid (cnS s.data.toList (i, bad) = siS s.data.toList (naS s.data.toList (i, bad))) := by show _ = _; simp [cnS, naS, hz]
    clear hz h2
    go_wp2
    refine bodyPost_ret (v := .agg #[.int .u8 (naV s.data.toList i bad), .int .u8 (siV s.data.toList (naI s.data.toList i bad) (naBad s.data.toList i bad)), .int .u8 0]) ?_ rfl ⟨?_, ?_, ?_⟩
    · simp [results, Tryz.results115, go_sem, d0, d1, d2]
    · rw [HV.out]; rfl
    · rw [HS.out]
      exact (Rd.setNew (Rd.setNew (Rd.setNew (Rd.setNew HF2.out.rd (by simp <;> omega) _) (by simp <;> omega) _) (by simp <;> omega) _) (by simp <;> omega) _)
    · exact (Kp.setNew (Kp.setNew (Kp.setNew (Kp.setNew HF2.out.kp (by simp) _) (by simp) _) (by simp) _) (by simp) _)
  · have hz' : ((siV s.data.toList (naI s.data.toList i bad) (naBad s.data.toList i bad) : Int) != 0) = true := by rw [bne_iff_ne]; omega
    have HV : Hid (cnV s.data.toList (i, bad) = { n := naV s.data.toList i bad, s := siV s.data.toList (naI s.data.toList i bad) (naBad s.data.toList i bad), v := veV s.data.toList (siI s.data.toList (naI s.data.toList i bad) (naBad s.data.toList i bad)) (naBad s.data.toList i bad) }) := by show _ = _; simp [cnV, naS, siS, hz]
    have HS : Hid (cnS s.data.toList (i, bad) = veS s.data.toList (siS s.data.toList (naS s.data.toList (i, bad)))) := by show _ = _; simp [cnS, naS, hz]
    have c1 : w2.cell? ⟨w.heap.size + 1, 1, none⟩ = some (.int .u8 0) := h2.c 1 rfl
    have f1 := h2.f 1
    have HF2 : Hid (Fr B w _ 121 #[.int .u8 0, .int .u8 0, .int .u8 0] #[.int .u8 (naV s.data.toList i bad), .int .u8 (siV s.data.toList (naI s.data.toList i bad) (naBad s.data.toList i bad)), .int .u8 0] s (siS s.data.toList (naS s.data.toList (i, bad)))) := h2.store 1 (.int .u8 (siV s.data.toList (naI s.data.toList i bad) (naBad s.data.toList i bad)))
    clear hz h2
    go_wp2_with fail
    refine (rd_version B s (siI s.data.toList (naI s.data.toList i bad) (naBad s.data.toList i bad)) (naBad s.data.toList i bad) _ hs l2 HF2.out.rd).mono ?_
    rintro e w3 ⟨rfl, hr3, hk3⟩
    have h3 := HF2.out.call (st' := veS s.data.toList (siS s.data.toList (naS s.data.toList (i, bad)))) hr3 hk3
    clear HF2 c1 f1 hr3 hk3
    have c0 : w3.cell? ⟨w.heap.size + 1, 0, none⟩ = some (.int .u8 (naV s.data.toList i bad)) := h3.c 0 rfl
    have c1 : w3.cell? ⟨w.heap.size + 1, 1, none⟩ = some (.int .u8 (siV s.data.toList (naI s.data.toList i bad) (naBad s.data.toList i bad))) := h3.c 1 rfl
    have c2 : w3.cell? ⟨w.heap.size + 1, 2, none⟩ = some (.int .u8 0) := h3.c 2 rfl
    have d0 : w3.cell? ⟨w.heap.size, 0, none⟩ = some (.int .u8 0) := h3.c' 0 rfl
    have d1 : w3.cell? ⟨w.heap.size, 1, none⟩ = some (.int .u8 0) := h3.c' 1 rfl
    have d2 : w3.cell? ⟨w.heap.size, 2, none⟩ = some (.int .u8 0) := h3.c' 2 rfl
    have f0 := h3.f 0
    have f1 := h3.f 1
    have f2 := h3.f 2
    have e0 := h3.f' 0
    have e1 := h3.f' 1
    have e2 := h3.f' 2
    have HF3 : Hid (Fr B w w3 121 #[.int .u8 0, .int .u8 0, .int .u8 0] #[.int .u8 (naV s.data.toList i bad), .int .u8 (siV s.data.toList (naI s.data.toList i bad) (naBad s.data.toList i bad)), .int .u8 0] s (veS s.data.toList (siS s.data.toList (naS s.data.toList (i, bad))))) := h3
    clear h3
    go_wp2
    refine bodyPost_ret (v := .agg #[.int .u8 (naV s.data.toList i bad), .int .u8 (siV s.data.toList (naI s.data.toList i bad) (naBad s.data.toList i bad)), .int .u8 (veV s.data.toList (siI s.data.toList (naI s.data.toList i bad) (naBad s.data.toList i bad)) (naBad s.data.toList i bad))]) ?_ rfl ⟨?_, ?_, ?_⟩
    · simp [results, Tryz.results115, go_sem, d0, d1, d2]
    · rw [HV.out]; rfl
    · rw [HS.out]
      exact (Rd.setNew (Rd.setNew (Rd.setNew (Rd.setNew HF3.out.rd (by simp <;> omega) _) (by simp <;> omega) _) (by simp <;> omega) _) (by simp <;> omega) _)
    · exact (Kp.setNew (Kp.setNew (Kp.setNew (Kp.setNew HF3.out.kp (by simp) _) (by simp) _) (by simp) _) (by simp) _)

theorem cnS_le (s : ByteArray) (st : St) (hi : st.1 ≤ s.size) : (cnS s.data.toList st).1 ≤ s.size := by
  have l1 := naI_le s st.1 st.2 hi
  have l2 := siI_le s _ (naBad s.data.toList st.1 st.2) l1
  have l3 := veI_le s _ (naBad s.data.toList st.1 st.2) l2
  unfold cnS
  split
  · exact l2
  · exact l3
end Go.Proofs.YtdfnnpakdbhhpaaGreatDoor
