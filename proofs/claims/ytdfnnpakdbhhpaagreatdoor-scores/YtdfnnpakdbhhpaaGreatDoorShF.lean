import Derived.Test.YtdfnnpakdbhhpaaGreatDoorShE
namespace Go.Proofs.YtdfnnpakdbhhpaaGreatDoor
open Go.RowKit

theorem join_cnt {x : UInt8} : ∀ {l : List (List UInt8)}, (∀ a ∈ l, a ≠ []) → l.length ≤ (joinT x l).length
  | [], _ => Nat.le_refl _
  | [a], h => by have := h a (by simp); cases a with | nil => exact absurd rfl this | cons b a => simp [joinT]
  | a :: b :: l, h => by
    have ih := join_cnt (x := x) (l := b :: l) (fun c hc => h c (by simp [hc]))
    rw [joinT_cons (by simp)]
    simp at ih ⊢
    omega
theorem ls_cnt (l : List Cn) : l.length ≤ (lsT l).length := by
  have := join_cnt (x := 44) (l := l.map cnT) (fun a ha => by obtain ⟨c, _, rfl⟩ := List.mem_map.1 ha; exact cn_ne c)
  rwa [List.length_map] at this
theorem nd_cnt (l : List Cn) : l.length ≤ (ndT l).length := by
  have := join_cnt (x := 124) (l := l.map cnT) (fun a ha => by obtain ⟨c, _, rfl⟩ := List.mem_map.1 ha; exact cn_ne c)
  rwa [List.length_map] at this
theorem ns_cnt {l : List (List Cn)} (h : ∀ n ∈ l, NdOk n) : l.length ≤ (nsT l).length := by
  have := join_cnt (x := 44) (l := l.map ndT) (fun a ha => by obtain ⟨c, hc, rfl⟩ := List.mem_map.1 ha; exact nd_ne (h c hc))
  rwa [List.length_map] at this
theorem nm_cnt (l : List Nat) : l.length ≤ (nmT l).length := by
  have := join_cnt (x := 44) (l := l.map fun c => [b8 c]) (fun a ha => by obtain ⟨c, _, rfl⟩ := List.mem_map.1 ha; simp)
  rwa [List.length_map] at this
theorem pks_cnt : ∀ (ps : List Pk), ps.length ≤ (pksT ps).length
  | [] => Nat.le_refl _
  | p :: ps => by
    have ih := pks_cnt ps
    unfold pksT at ih ⊢
    rw [List.flatMap_cons, List.length_append, List.length_cons]
    have : 1 ≤ (pkT p).length := by simp [pkT]
    omega
theorem dc_small {d : Dc} (hok : DcOk d) (h : (dcT d).length ≤ 800) : DcSm d := by
  have e : dcT d = joinT 47 [pksT d.packs, lsT d.ins, lsT d.rem, lsT d.upg] := by simp [dcT, joinT]
  have h0 : (pksT d.packs).length ≤ 800 := by have := join_len (c := 47) (l := [pksT d.packs, lsT d.ins, lsT d.rem, lsT d.upg]) (a := pksT d.packs) (by simp); rw [← e] at this; omega
  have h1 : (lsT d.ins).length ≤ 800 := by have := join_len (c := 47) (l := [pksT d.packs, lsT d.ins, lsT d.rem, lsT d.upg]) (a := lsT d.ins) (by simp); rw [← e] at this; omega
  have h2 : (lsT d.rem).length ≤ 800 := by have := join_len (c := 47) (l := [pksT d.packs, lsT d.ins, lsT d.rem, lsT d.upg]) (a := lsT d.rem) (by simp); rw [← e] at this; omega
  have h3 : (lsT d.upg).length ≤ 800 := by have := join_len (c := 47) (l := [pksT d.packs, lsT d.ins, lsT d.rem, lsT d.upg]) (a := lsT d.upg) (by simp); rw [← e] at this; omega
  have k0 := pks_cnt d.packs
  have k1 := ls_cnt d.ins
  have k2 := ls_cnt d.rem
  have k3 := ls_cnt d.upg
  refine ⟨by omega, fun p hp => ?_, by omega, by omega, by omega⟩
  have hpo := hok.packs p hp
  have hb : (pkB p).length ≤ 800 := by
    have h4 : (pkB p).length ≤ (pksT d.packs).length := by rw [pks_join]; exact join_len (by simp; left; exact ⟨p, hp, rfl⟩)
    omega
  have g1 : (nsT p.needs).length ≤ 800 := by have := join_len (c := 58) (l := [pkH p, nsT p.needs, lsT p.conf, nmT p.prov]) (a := nsT p.needs) (by simp); unfold pkB at hb; omega
  have g2 : (lsT p.conf).length ≤ 800 := by have := join_len (c := 58) (l := [pkH p, nsT p.needs, lsT p.conf, nmT p.prov]) (a := lsT p.conf) (by simp); unfold pkB at hb; omega
  have g3 : (nmT p.prov).length ≤ 800 := by have := join_len (c := 58) (l := [pkH p, nsT p.needs, lsT p.conf, nmT p.prov]) (a := nmT p.prov) (by simp); unfold pkB at hb; omega
  have c1 := ns_cnt hpo.needs
  have c2 := ls_cnt p.conf
  have c3 := nm_cnt p.prov
  refine ⟨by omega, fun n hn => ?_, by omega, by omega⟩
  have c4 := nd_cnt n
  have c5 : (ndT n).length ≤ (nsT p.needs).length := join_len (by simp; exact ⟨n, hn, rfl⟩)
  omega

/-- What stands where Check finds no error. -/
theorem rd_ok {t : List UInt8} (h : rdE t = 0) : t = dcT (dcV t) ∧ DcOk (dcV t) ∧ t.length ≤ 800 ∧ (dcV t).packs.length ≤ 20 ∧ ¬ ftT (dcV t).packs < (dcV t).packs.length := by
  unfold rdE at h
  split at h
  · cases h
  · split at h
    · cases h
    · split at h
      · cases h
      · split at h
        · cases h
        · rename_i h1 h2 h3 h4
          obtain ⟨r1, _⟩ := dc_run t
          obtain ⟨_, r2, r3⟩ := r1 (by simpa using h2)
          exact ⟨r2, r3, by omega, by omega, h4⟩

/-- Show's answer. -/
def shT (t : List UInt8) : List UInt8 := if rdE t = 0 then dcS (dcV t) else []

set_option maxHeartbeats 800000 in
set_option maxRecDepth 100000 in
theorem up_Show (s : ByteArray) (w : World) (hs : s.size ≤ maxLen) : Calls Tryz.prog 11 #[.string s] w fun e w' => e = .returned (.tuple #[.string (bs (shT s.data.toList)), .int .i64 (rdE s.data.toList)]) ∧ Below w.heap.size w w' := by
  by_cases h : rdE s.data.toList = 0
  · obtain ⟨r1, r2, r3, _⟩ := rd_ok h
    have HSM : Hid (DcSm (dcV s.data.toList)) := dc_small r2 (by rw [← r1]; exact r3)
    have HOK : Hid (DcOk (dcV s.data.toList)) := r2
    have HT : Hid (shT s.data.toList = dcS (dcV s.data.toList)) := by show _ = _; unfold shT; rw [if_pos h]
    have HE : Hid (rdE s.data.toList = 0) := h
    clear r1 r2 r3 h
    go_enter Tryz.func11, Tryz.ntmps11
    go_wp2_with fail
    refine (doc_Read s _ hs).mono ?_
    rintro e w1 ⟨ap, np, cp, ai, ni, ci, ar, nr, cr, au, nu, cu, rfl, hb, hd⟩
    have HD : Hid (DcAt (w.heap.size + 1) w1 (dcV s.data.toList) (.slice ap np cp) (.slice ai ni ci) (.slice ar nr cr) (.slice au nu cu)) := hd HE.out
    have HB : Hid (Below w.heap.size w w1) := hb
    have hz : ((rdE s.data.toList : Int) != 0) = false := by rw [HE.out]; rfl
    clear hd hb
    go_wp2_with fail
    refine (doc_Show (w.heap.size + 1) (dcV s.data.toList) ap np cp ai ni ci ar nr cr au nu cu _ HSM.out HOK.out (HD.out.alloc _)).mono ?_
    rintro e w2 ⟨rfl, hb2⟩
    have HB2 : Hid (Below w.heap.size w w2) := (HB.out.alloc HB.out.size _).trans (hb2.mono (by have := HB.out.size; simp; omega))
    clear hb2 HB HD
    unfold strV
    go_wp2
    go_ret2
    exact ⟨by rw [HT.out, HE.out]; rfl, HB2.out⟩
  · have HT : Hid (shT s.data.toList = []) := by show _ = _; unfold shT; rw [if_neg h]
    have hz : ((rdE s.data.toList : Int) != 0) = true := by rw [bne_iff_ne]; omega
    go_enter Tryz.func11, Tryz.ntmps11
    go_wp2_with fail
    refine (doc_Read s _ hs).mono ?_
    rintro e w1 ⟨ap, np, cp, ai, ni, ci, ar, nr, cr, au, nu, cu, rfl, hb, hd⟩
    have HB : Hid (Below w.heap.size w w1) := hb
    clear hd hb
    go_wp2_with fail
    go_quiet (fail)
    go_wp2
    go_ret2
    exact ⟨by rw [HT.out]; rfl, (HB.out.alloc HB.out.size _).trans ⟨rfl, rfl, rfl, Nat.le_refl _, fun _ _ => rfl⟩⟩

end Go.Proofs.YtdfnnpakdbhhpaaGreatDoor
