import Derived.Test.YtenbnmbbfeekpabDoorXNe
import Derived.Test.YtenbnmbbfeekpabDoorXNb
import Derived.Test.YtenbnmbbfeekpabDoorXBq
import Derived.Test.YtenbnmbbfeekpabDoorXNd

namespace Go.Proofs.YtenbnmbbfeekpabDoor
open Go.RowKit

theorem ru_sm (d : Dc) : RuSm (ruM d) where
  packs q hq := by
    obtain ⟨i, hi, rfl⟩ := List.getElem_of_mem hq
    have hl : (ruM d).packs.length = d.packs.length := rp_len d.packs
    have hi' : i < d.packs.length := by omega
    have := (rpL_at d.packs d.packs.length (Nat.le_refl _)).2 i hi' hi'
    have e : (ruM d).packs[i]? = some (neM d.packs d.packs[i], foeM d.packs i d.packs[i]) := this
    rw [List.getElem?_eq_getElem hi] at e
    injection e with e
    rw [e]
    refine ⟨fun x hx => ?_, foeM_lt _ _ _⟩
    obtain ⟨n, _, rfl⟩ := List.mem_map.1 hx
    exact faM_lt _ _
  stay := stL_lt d.packs d.packs.length
  ins x hx := by
    obtain ⟨n, _, rfl⟩ := List.mem_map.1 hx
    exact mskN_lt _ _
  rem := faM_lt _ _
  upg u hu := by
    obtain ⟨c, _, rfl⟩ := List.mem_map.1 hu
    exact ⟨mskN_lt _ _, and_lt (mskN_lt _ _)⟩
theorem nm_sm (ps : List Pk) (k : Nat) : ∀ n ∈ nmL ps k, NmSm n := by
  intro n hn
  obtain ⟨b, rfl⟩ := nmL_mem k n hn
  exact ⟨mskN_lt _ _, and_lt (mskN_lt _ _), mskN_lt _ _⟩

theorem ch_search0 (R : Ru) (ns : List Nm) (cs : List Cr) (ap : Option Addr) (cp : Nat) (az : Option Addr) (nz cz : Nat) (ai : Option Addr) (ni ci : Nat) (au : Option Addr) (nu cu : Nat) (an : Option Addr) (nn cn : Nat) (ak : Option Addr) (nk ck : Nat) (hm : RuSm R) (h4 : cs.length ≤ 4) (h26 : ns.length ≤ 26) (hsm : ∀ n ∈ ns, NmSm n) (p N : Nat) (hN : N = R.packs.length) (w : World) (hp : p < 2 ^ 20) (hR : RuV w R ap R.packs.length cp az nz cz ai ni ci au nu cu) (hNm : NmV w (.slice an nn cn) ns) (hC : CrV w (.slice ak nk ck) cs) :
    Calls Tryd.prog 29 #[.agg #[.slice ap N cp, .slice az nz cz, .slice ai ni ci, .int .u32 R.rem, .slice au nu cu, .slice an nn cn, .slice ak nk ck], .agg #[.int .u32 0, .int .u32 p], .agg #[.bool false, .int .u32 0, .int .i64 0]] w fun e w' => e = .returned (.agg #[.bool (srcM R ns cs (p + 1048577) 0 p ⟨false, 0, 0⟩).f, .int .u32 (srcM R ns cs (p + 1048577) 0 p ⟨false, 0, 0⟩).p, .int .i64 (srcM R ns cs (p + 1048577) 0 p ⟨false, 0, 0⟩).c]) ∧ Below w.heap.size w w' := by
  subst hN
  exact ch_search R ns cs ap cp az nz cz ai ni ci au nu cu an nn cn ak nk ck hm h4 h26 hsm (p + 1048577) 0 p false 0 0 w (by omega) (by decide) hp hR hNm hC

set_option maxHeartbeats 6400000 in
set_option maxRecDepth 100000 in
theorem ch_Best (d : Dc) (cs : List Cr) (ap : Option Addr) (np cp : Nat) (ai : Option Addr) (ni ci : Nat) (ar : Option Addr) (nr cr : Nat) (au : Option Addr) (nu cu : Nat) (ak : Option Addr) (nk ck : Nat) (w : World) (hd : DcV w d ap np cp ai ni ci ar nr cr au nu cu) (hsm : DcSm d) (hc : CrV w (.slice ak nk ck) cs) (h4 : cs.length ≤ 4) :
    Calls Tryd.prog 15 #[.agg #[.slice ap np cp, .slice ai ni ci, .slice ar nr cr, .slice au nu cu], .slice ak nk ck] w fun e w' => e = .returned (.agg #[.bool (anM d cs).f, .int .u32 (anM d cs).p, .int .i64 (anM d cs).c]) ∧ Below w.heap.size w w' := by
  have hlen := hd.len
  subst hlen
  have HV : Hid (∀ w', Below w.heap.size w w' → DcV w' d ap d.packs.length cp ai ni ci ar nr cr au nu cu) := fun w' hb => hd.below hb
  have HC : Hid (∀ w', Below w.heap.size w w' → CrV w' (.slice ak nk ck) cs) := fun w' hb => hc.below hb
  have HSM : Hid (DcSm d) := hsm
  have hl8 := hd.packs.1
  clear hd hc hsm
  have HB0 : Hid (Below w.heap.size w ((w.alloc (.cells #[.slice ap d.packs.length cp, .slice ai ni ci, .slice ar nr cr, .slice au nu cu] 41)).alloc (.cells #[.bool false, .int .u32 0, .int .i64 0] 52))) := ((Below.refl _ _).alloc (Nat.le_refl _) _).alloc (by simp) _
  have HD0 : Hid (((w.alloc (.cells #[.slice ap d.packs.length cp, .slice ai ni ci, .slice ar nr cr, .slice au nu cu] 41)).alloc (.cells #[.bool false, .int .u32 0, .int .i64 0] 52)).heap[w.heap.size]? = some (.cells #[.slice ap d.packs.length cp, .slice ai ni ci, .slice ar nr cr, .slice au nu cu] 41 (0, 0))) := blk_old (blk_new _ _) _
  have HQ0 : Hid (((w.alloc (.cells #[.slice ap d.packs.length cp, .slice ai ni ci, .slice ar nr cr, .slice au nu cu] 41)).alloc (.cells #[.bool false, .int .u32 0, .int .i64 0] 52)).heap[w.heap.size + 1]? = some (.cells #[.bool false, .int .u32 0, .int .i64 0] 52 (0, 0))) := by
    have := blk_new (w.alloc (.cells #[.slice ap d.packs.length cp, .slice ai ni ci, .slice ar nr cr, .slice au nu cu] 41)) (.cells #[.bool false, .int .u32 0, .int .i64 0] 52)
    rwa [World.size_alloc] at this
  go_enter Tryd.func15, Tryd.ntmps15
  go_wp2_with fail
  refine (pk_RulesOf d ap d.packs.length cp ai ni ci ar nr cr au nu cu _ (HV.out _ HB0.out) HSM.out).mono ?_
  rintro e w1 ⟨a1, c1, a2, n2, c2, a3, n3, c3, a4, n4, c4, rfl, hb1, hr1⟩
  have HB1 : Hid (Below w.heap.size w w1) := HB0.out.trans (hb1.mono (by simp; omega))
  have HBa : Hid (Below w.heap.size w (w1.alloc (.cells #[.slice a1 d.packs.length c1, .slice a2 n2 c2, .slice a3 n3 c3, .int .u32 (ruM d).rem, .slice a4 n4 c4] 65))) := HB1.out.alloc HB1.out.size _
  have HRV : Hid (∀ w2, Below w1.heap.size w1 w2 → RuV w2 (ruM d) a1 d.packs.length c1 a2 n2 c2 a3 n3 c3 a4 n4 c4) := fun w2 hb => hr1.below hb
  have HDa : Hid ((w1.alloc (.cells #[.slice a1 d.packs.length c1, .slice a2 n2 c2, .slice a3 n3 c3, .int .u32 (ruM d).rem, .slice a4 n4 c4] 65)).heap[w.heap.size]? = some (.cells #[.slice ap d.packs.length cp, .slice ai ni ci, .slice ar nr cr, .slice au nu cu] 41 (0, 0))) := blk_old (blk_below hb1 HD0.out (ltAt HD0.out)) _
  have HQa : Hid ((w1.alloc (.cells #[.slice a1 d.packs.length c1, .slice a2 n2 c2, .slice a3 n3 c3, .int .u32 (ruM d).rem, .slice a4 n4 c4] 65)).heap[w.heap.size + 1]? = some (.cells #[.bool false, .int .u32 0, .int .i64 0] 52 (0, 0))) := blk_old (blk_below hb1 HQ0.out (ltAt HQ0.out)) _
  have HRa : Hid ((w1.alloc (.cells #[.slice a1 d.packs.length c1, .slice a2 n2 c2, .slice a3 n3 c3, .int .u32 (ruM d).rem, .slice a4 n4 c4] 65)).heap[w1.heap.size]? = some (.cells #[.slice a1 d.packs.length c1, .slice a2 n2 c2, .slice a3 n3 c3, .int .u32 (ruM d).rem, .slice a4 n4 c4] 65 (0, 0))) := blk_new _ _
  have HR1a : Hid (Below w1.heap.size w1 (w1.alloc (.cells #[.slice a1 d.packs.length c1, .slice a2 n2 c2, .slice a3 n3 c3, .int .u32 (ruM d).rem, .slice a4 n4 c4] 65))) := (Below.refl _ _).alloc (Nat.le_refl _) _
  have y1 : (w1.alloc (.cells #[.slice a1 d.packs.length c1, .slice a2 n2 c2, .slice a3 n3 c3, .int .u32 (ruM d).rem, .slice a4 n4 c4] 65)).cell? ⟨w.heap.size, 0, none⟩ = some (.slice ap d.packs.length cp) := (cellAt HDa.out 0).trans rfl
  have l1 := ltAt HDa.out
  simp at l1
  have d1 : w1.cell? ⟨w.heap.size, 0, none⟩ = some (.slice ap d.packs.length cp) := (cellAt (blk_below hb1 HD0.out (ltAt HD0.out)) 0).trans rfl
  have ld1 := ltAt (blk_below hb1 HD0.out (ltAt HD0.out))
  clear hb1 hr1
  go_wp2_with fail
  refine (sc_Names ap cp d.packs _ (HV.out _ HBa.out).packs).mono ?_
  rintro e w2 ⟨an, cn, rfl, hb2, hn2⟩
  have HB2 : Hid (Below w.heap.size w w2) := HBa.out.trans (hb2.mono HBa.out.size)
  have HR12 : Hid (Below w1.heap.size w1 w2) := HR1a.out.trans (hb2.mono HR1a.out.size)
  have HD2 : Hid (w2.heap[w.heap.size]? = some (.cells #[.slice ap d.packs.length cp, .slice ai ni ci, .slice ar nr cr, .slice au nu cu] 41 (0, 0))) := blk_below hb2 HDa.out (ltAt HDa.out)
  have HQ2 : Hid (w2.heap[w.heap.size + 1]? = some (.cells #[.bool false, .int .u32 0, .int .i64 0] 52 (0, 0))) := blk_below hb2 HQa.out (ltAt HQa.out)
  have HR2 : Hid (w2.heap[w1.heap.size]? = some (.cells #[.slice a1 d.packs.length c1, .slice a2 n2 c2, .slice a3 n3 c3, .int .u32 (ruM d).rem, .slice a4 n4 c4] 65 (0, 0))) := blk_below hb2 HRa.out (ltAt HRa.out)
  have HNV : Hid (∀ w3, Below w2.heap.size w2 w3 → NmV w3 (.slice an (nmL d.packs 26).length cn) (nmL d.packs 26)) := fun w3 hb => (NmO.nv hn2 (by have := nmL_len d.packs 26; omega)).below hb
  clear hb2 hn2 y1 d1
  go_wp2_with fail
  refine (sc_Telling _ cs _ (HC.out _ HB2.out)).mono ?_
  rintro e w3 ⟨at1, ct, rfl, hb3, ht3⟩
  have HB3 : Hid (Below w.heap.size w w3) := HB2.out.trans (hb3.mono HB2.out.size)
  have HR13 : Hid (Below w1.heap.size w1 w3) := HR12.out.trans (hb3.mono HR12.out.size)
  have HN23 : Hid (Below w2.heap.size w2 w3) := hb3
  have HD3 : Hid (w3.heap[w.heap.size]? = some (.cells #[.slice ap d.packs.length cp, .slice ai ni ci, .slice ar nr cr, .slice au nu cu] 41 (0, 0))) := blk_below hb3 HD2.out (ltAt HD2.out)
  have HQ3 : Hid (w3.heap[w.heap.size + 1]? = some (.cells #[.bool false, .int .u32 0, .int .i64 0] 52 (0, 0))) := blk_below hb3 HQ2.out (ltAt HQ2.out)
  have HR3 : Hid (w3.heap[w1.heap.size]? = some (.cells #[.slice a1 d.packs.length c1, .slice a2 n2 c2, .slice a3 n3 c3, .int .u32 (ruM d).rem, .slice a4 n4 c4] 65 (0, 0))) := blk_below hb3 HR2.out (ltAt HR2.out)
  have HTV : Hid (∀ w4, Below w3.heap.size w3 w4 → CrV w4 (.slice at1 (tlL cs).length ct) (tlL cs)) := fun w4 hb => (CrO.cv ht3 (by have := tlL_len cs; omega)).below hb
  have r0 : w3.cell? ⟨w1.heap.size, 0, none⟩ = some (.slice a1 d.packs.length c1) := (cellAt HR3.out 0).trans rfl
  have r1 : w3.cell? ⟨w1.heap.size, 1, none⟩ = some (.slice a2 n2 c2) := (cellAt HR3.out 1).trans rfl
  have r2 : w3.cell? ⟨w1.heap.size, 2, none⟩ = some (.slice a3 n3 c3) := (cellAt HR3.out 2).trans rfl
  have r3 : w3.cell? ⟨w1.heap.size, 3, none⟩ = some (.int .u32 (ruM d).rem) := (cellAt HR3.out 3).trans rfl
  have r4 : w3.cell? ⟨w1.heap.size, 4, none⟩ = some (.slice a4 n4 c4) := (cellAt HR3.out 4).trans rfl
  have y3 : w3.cell? ⟨w.heap.size, 0, none⟩ = some (.slice ap d.packs.length cp) := (cellAt HD3.out 0).trans rfl
  have l3 := ltAt HD3.out
  have lr3 := ltAt HR3.out
  have lq3 := ltAt HQ3.out
  clear hb3 ht3
  have HBt : Hid (Below w.heap.size w (w3.alloc (.cells #[.slice a1 d.packs.length c1, .slice a2 n2 c2, .slice a3 n3 c3, .int .u32 (ruM d).rem, .slice a4 n4 c4, .slice an (nmL d.packs 26).length cn, .slice at1 (tlL cs).length ct] 80))) := HB3.out.alloc HB3.out.size _
  have HQt : Hid ((w3.alloc (.cells #[.slice a1 d.packs.length c1, .slice a2 n2 c2, .slice a3 n3 c3, .int .u32 (ruM d).rem, .slice a4 n4 c4, .slice an (nmL d.packs 26).length cn, .slice at1 (tlL cs).length ct] 80)).heap[w.heap.size + 1]? = some (.cells #[.bool false, .int .u32 0, .int .i64 0] 52 (0, 0))) := blk_old HQ3.out _
  have HTt : Hid ((w3.alloc (.cells #[.slice a1 d.packs.length c1, .slice a2 n2 c2, .slice a3 n3 c3, .int .u32 (ruM d).rem, .slice a4 n4 c4, .slice an (nmL d.packs 26).length cn, .slice at1 (tlL cs).length ct] 80)).heap[w3.heap.size]? = some (.cells #[.slice a1 d.packs.length c1, .slice a2 n2 c2, .slice a3 n3 c3, .int .u32 (ruM d).rem, .slice a4 n4 c4, .slice an (nmL d.packs 26).length cn, .slice at1 (tlL cs).length ct] 80 (0, 0))) := blk_new _ _
  have H3t : Hid (Below w3.heap.size w3 (w3.alloc (.cells #[.slice a1 d.packs.length c1, .slice a2 n2 c2, .slice a3 n3 c3, .int .u32 (ruM d).rem, .slice a4 n4 c4, .slice an (nmL d.packs 26).length cn, .slice at1 (tlL cs).length ct] 80))) := (Below.refl _ _).alloc (Nat.le_refl _) _
  go_wp2_with fail
  refine (doc_All ap cp d.packs _ hl8).mono ?_
  rintro e w4 ⟨rfl, hb4⟩
  have HB4 : Hid (Below w.heap.size w w4) := HBt.out.trans (hb4.mono HBt.out.size)
  have H34 : Hid (Below w3.heap.size w3 w4) := H3t.out.trans (hb4.mono H3t.out.size)
  have H24 : Hid (Below w2.heap.size w2 w4) := HN23.out.trans (H34.out.mono HN23.out.size)
  have H14 : Hid (Below w1.heap.size w1 w4) := HR13.out.trans (H34.out.mono HR13.out.size)
  have HQ4 : Hid (w4.heap[w.heap.size + 1]? = some (.cells #[.bool false, .int .u32 0, .int .i64 0] 52 (0, 0))) := blk_below hb4 HQt.out (ltAt HQt.out)
  have HT4 : Hid (w4.heap[w3.heap.size]? = some (.cells #[.slice a1 d.packs.length c1, .slice a2 n2 c2, .slice a3 n3 c3, .int .u32 (ruM d).rem, .slice a4 n4 c4, .slice an (nmL d.packs 26).length cn, .slice at1 (tlL cs).length ct] 80 (0, 0))) := blk_below hb4 HTt.out (ltAt HTt.out)
  have t0 : w4.cell? ⟨w3.heap.size, 0, none⟩ = some (.slice a1 d.packs.length c1) := (cellAt HT4.out 0).trans rfl
  have t1 : w4.cell? ⟨w3.heap.size, 1, none⟩ = some (.slice a2 n2 c2) := (cellAt HT4.out 1).trans rfl
  have t2 : w4.cell? ⟨w3.heap.size, 2, none⟩ = some (.slice a3 n3 c3) := (cellAt HT4.out 2).trans rfl
  have t3 : w4.cell? ⟨w3.heap.size, 3, none⟩ = some (.int .u32 (ruM d).rem) := (cellAt HT4.out 3).trans rfl
  have t4 : w4.cell? ⟨w3.heap.size, 4, none⟩ = some (.slice a4 n4 c4) := (cellAt HT4.out 4).trans rfl
  have t5 : w4.cell? ⟨w3.heap.size, 5, none⟩ = some (.slice an (nmL d.packs 26).length cn) := (cellAt HT4.out 5).trans rfl
  have t6 : w4.cell? ⟨w3.heap.size, 6, none⟩ = some (.slice at1 (tlL cs).length ct) := (cellAt HT4.out 6).trans rfl
  have lt4 := ltAt HT4.out
  have la : allM d.packs < 2 ^ 20 := mskN_lt _ _
  clear hb4 r0 r1 r2 r3 r4 y3
  have HAN : Hid (anM d cs = srcM (ruM d) (nmL d.packs 26) (tlL cs) (allM d.packs + 1048577) 0 (allM d.packs) ⟨false, 0, 0⟩) := rfl
  generalize allM d.packs = AL at *
  go_wp2_with fail
  refine (ch_search0 (ruM d) (nmL d.packs 26) (tlL cs) a1 c1 a2 n2 c2 a3 n3 c3 a4 n4 c4 an _ cn at1 _ ct (ru_sm d) (by have := tlL_len cs; omega) (nmL_len d.packs 26) (nm_sm d.packs 26) AL d.packs.length (rp_len d.packs).symm _ la (by rw [show (ruM d).packs.length = d.packs.length from rp_len d.packs]; exact HRV.out _ H14.out) (HNV.out _ H24.out) (HTV.out _ H34.out)).mono ?_
  rintro e w5 ⟨rfl, hb5⟩
  rw [← HAN.out]
  obtain ⟨r, hr⟩ : ∃ r, anM d cs = r := ⟨_, rfl⟩
  have HRR : Hid (anM d cs = r) := hr
  rw [hr]
  clear hr
  have HB5 : Hid (Below w.heap.size w w5) := HB4.out.trans (hb5.mono HB4.out.size)
  have HQ5 : Hid (w5.heap[w.heap.size + 1]? = some (.cells #[.bool false, .int .u32 0, .int .i64 0] 52 (0, 0))) := blk_below hb5 HQ4.out (ltAt HQ4.out)
  have g0 := freeAt HQ5.out 0
  have g1 := freeAt HQ5.out 1
  have g2 := freeAt HQ5.out 2
  have q0 : w5.cell? ⟨w.heap.size + 1, 0, none⟩ = some (.bool false) := (cellAt HQ5.out 0).trans rfl
  have q1 : w5.cell? ⟨w.heap.size + 1, 1, none⟩ = some (.int .u32 0) := (cellAt HQ5.out 1).trans rfl
  have q2 : w5.cell? ⟨w.heap.size + 1, 2, none⟩ = some (.int .i64 0) := (cellAt HQ5.out 2).trans rfl
  have lq5 := ltAt HQ5.out
  clear hb5
  go_wp2
  refine bodyPost_ret (v := .agg #[.bool r.f, .int .u32 r.p, .int .i64 r.c]) ?_ rfl ⟨by rw [HRR.out], below_set3 HB5.out (by omega) _ _ _⟩
  obtain ⟨z0, z1, z2⟩ := cell_set3 HQ5.out (.bool r.f) (.int .u32 r.p) (.int .i64 r.c)
  simp [results, Tryd.results15, go_sem, z0, z1, z2]

end Go.Proofs.YtenbnmbbfeekpabDoor

namespace Go.Proofs.YtenbnmbbfeekpabDoor
open Go.RowKit

set_option maxHeartbeats 6400000 in
set_option maxRecDepth 100000 in
theorem up_Valid (s q : ByteArray) (w : World) (hs : s.size ≤ maxLen) (hq : q.size ≤ maxLen) : Calls Tryd.prog 11 #[.string s, .string q] w fun e w' => e = .returned (.tuple #[.int .i64 (uvR s.data.toList q.data.toList : Nat), .int .i64 (uvE s.data.toList q.data.toList : Nat)]) ∧ Below w.heap.size w w' := by
  obtain ⟨P, rfl⟩ : ∃ P, q = bs P := ⟨_, (bs_data q).symm⟩
  have hPm : (P.length : Int) ≤ maxLen := by rw [bs_size] at hq; exact_mod_cast hq
  rw [bs_list]
  by_cases h : rdE s.data.toList = 0
  · obtain ⟨r1, r2, r3, r4, _⟩ := rd_ok h
    have HSM : Hid (DcSm (dcV s.data.toList)) := dc_small r2 (by rw [← r1]; exact r3)
    have HAP : Hid (Ap (dcV s.data.toList).packs) := Ap.of h
    have HL20 : Hid ((dcV s.data.toList).packs.length ≤ 20) := r4
    have HTE : Hid (uvE s.data.toList P = prE (dcV s.data.toList).packs P) := by show _ = _; unfold uvE; exact if_pos h
    have HTR : Hid (uvR s.data.toList P = match prL (dcV s.data.toList).packs P with | some L => fbN (dcV s.data.toList) L | none => 0) := by show _ = _; unfold uvR; exact if_pos h
    have HE : Hid (rdE s.data.toList = 0) := h
    clear r1 r2 r3 r4 h
    go_enter Tryd.func11, Tryd.ntmps11
    go_wp2_with fail
    refine (doc_Read s _ hs).mono ?_
    rintro e w1 ⟨ap, np, cp, ai, ni, ci, ar, nr, cr, au, nu, cu, rfl, hb, hd⟩
    have HD : Hid (∀ w', Below w1.heap.size w1 w' → DcV w' (dcV s.data.toList) ap np cp ai ni ci ar nr cr au nu cu) := fun w' hb => ((hd HE.out).views HSM.out).below hb
    have hnp := ((hd HE.out).views HSM.out).len
    have HB : Hid (Below w.heap.size w w1) := hb
    have hws := hb.size
    have hz : ((rdE s.data.toList : Int) != 0) = false := by rw [HE.out]; rfl
    clear hd hb
    generalize dcV s.data.toList = D at *
    subst hnp
    have HBa : Hid (Below w1.heap.size w1 (w1.alloc (.cells #[.slice ap D.packs.length cp, .slice ai ni ci, .slice ar nr cr, .slice au nu cu, .int .i64 (rdE s.data.toList), .int .i64 (rdP s.data.toList)] 43))) := (Below.refl _ _).alloc (Nat.le_refl _) _
    have HRa : Hid ((w1.alloc (.cells #[.slice ap D.packs.length cp, .slice ai ni ci, .slice ar nr cr, .slice au nu cu, .int .i64 (rdE s.data.toList), .int .i64 (rdP s.data.toList)] 43)).heap[w1.heap.size]? = some (.cells #[.slice ap D.packs.length cp, .slice ai ni ci, .slice ar nr cr, .slice au nu cu, .int .i64 (rdE s.data.toList), .int .i64 (rdP s.data.toList)] 43 (0, 0))) := blk_new _ _
    go_wp2_with fail
    refine (pk_Read ap cp D.packs P _ hPm (HD.out _ HBa.out).packs).mono ?_
    rintro e w2 ⟨S, rfl, hb2, hS, hq2⟩
    have HB2 : Hid (Below w1.heap.size w1 w2) := HBa.out.trans (hb2.mono HBa.out.size)
    have HR2 : Hid (w2.heap[w1.heap.size]? = some (.cells #[.slice ap D.packs.length cp, .slice ai ni ci, .slice ar nr cr, .slice au nu cu, .int .i64 (rdE s.data.toList), .int .i64 (rdP s.data.toList)] 43 (0, 0))) := blk_below hb2 HRa.out (ltAt HRa.out)
    have cR20 : w2.cell? ⟨w1.heap.size, 0, none⟩ = some (.slice ap D.packs.length cp) := (cellAt HR2.out 0).trans rfl
    have cR21 : w2.cell? ⟨w1.heap.size, 1, none⟩ = some (.slice ai ni ci) := (cellAt HR2.out 1).trans rfl
    have cR22 : w2.cell? ⟨w1.heap.size, 2, none⟩ = some (.slice ar nr cr) := (cellAt HR2.out 2).trans rfl
    have cR23 : w2.cell? ⟨w1.heap.size, 3, none⟩ = some (.slice au nu cu) := (cellAt HR2.out 3).trans rfl
    have cR24 : w2.cell? ⟨w1.heap.size, 4, none⟩ = some (.int .i64 (rdE s.data.toList)) := (cellAt HR2.out 4).trans rfl
    have cR25 : w2.cell? ⟨w1.heap.size, 5, none⟩ = some (.int .i64 (rdP s.data.toList)) := (cellAt HR2.out 5).trans rfl
    have lR2 := ltAt HR2.out
    have HQ2 : Hid (∀ T, prS D.packs P = some T → S = T) := hq2
    clear hb2 hq2
    rcases hpr : prL D.packs P with _ | L
    · have hpe : psE D.packs P = 5 := by unfold psE; rw [prS_none HL20.out hpr]; rfl
      have HF : Hid (uvR s.data.toList P = 0) := by show _ = _; rw [HTR.out, hpr]
      have HF2 : Hid (uvE s.data.toList P = 5) := by show _ = _; rw [HTE.out]; unfold prE; rw [hpr]; rfl
      rw [hpe]
      clear hpr hpe HQ2 HTR HTE
      go_wp2_with fail
      go_quiet (fail)
      go_wp2
      go_ret2
      exact ⟨by rw [HF.out, HF2.out]; rfl, ((HB.out.trans (HB2.out.mono hws)).alloc (by have := HB.out.size; have := HB2.out.size; omega) _).trans ⟨rfl, rfl, rfl, Nat.le_refl _, fun _ _ => rfl⟩⟩
    · obtain ⟨S', hS', hmk⟩ := prS_some HL20.out HAP.out hpr
      have hpe : psE D.packs P = 0 := by unfold psE; rw [hS']; rfl
      have hSe := HQ2.out S' hS'
      have hpq := Pq.of HAP.out hpr
      have HF : Hid (uvR s.data.toList P = fbM (ruM D) S S) := by show _ = _; rw [HTR.out, hpr, hSe]; exact (fb_same HL20.out HAP.out hmk hpq.sub hpq.nd).symm
      have HF2 : Hid (uvE s.data.toList P = 0) := by show _ = _; rw [HTE.out]; unfold prE; rw [hpr]; rfl
      rw [hpe]
      clear hpr hpe HQ2 HTR HTE hSe hmk hpq hS'
      have HBb : Hid (Below w1.heap.size w1 (w2.alloc (.cells #[.int .u32 S, .int .i64 0] 56))) := HB2.out.alloc HB2.out.size _
      have HRb : Hid ((w2.alloc (.cells #[.int .u32 S, .int .i64 0] 56)).heap[w1.heap.size]? = some (.cells #[.slice ap D.packs.length cp, .slice ai ni ci, .slice ar nr cr, .slice au nu cu, .int .i64 (rdE s.data.toList), .int .i64 (rdP s.data.toList)] 43 (0, 0))) := blk_old HR2.out _
      have HPb : Hid ((w2.alloc (.cells #[.int .u32 S, .int .i64 0] 56)).heap[w2.heap.size]? = some (.cells #[.int .u32 S, .int .i64 0] 56 (0, 0))) := blk_new _ _
      go_wp2_with fail
      refine (pk_RulesOf D ap D.packs.length cp ai ni ci ar nr cr au nu cu _ (HD.out _ HBb.out) HSM.out).mono ?_
      rintro e w3 ⟨a1, c1, a2, n2, c2, a3, n3, c3, a4, n4, c4, rfl, hb3, hr3⟩
      have HB3 : Hid (Below w1.heap.size w1 w3) := HBb.out.trans (hb3.mono HBb.out.size)
      have HP3 : Hid (w3.heap[w2.heap.size]? = some (.cells #[.int .u32 S, .int .i64 0] 56 (0, 0))) := blk_below hb3 HPb.out (ltAt HPb.out)
      have cP30 : w3.cell? ⟨w2.heap.size, 0, none⟩ = some (.int .u32 S) := (cellAt HP3.out 0).trans rfl
      have cP31 : w3.cell? ⟨w2.heap.size, 1, none⟩ = some (.int .i64 0) := (cellAt HP3.out 1).trans rfl
      have lP3 := ltAt HP3.out
      have HRV : Hid (∀ w5, Below w3.heap.size w3 w5 → RuV w5 (ruM D) a1 D.packs.length c1 a2 n2 c2 a3 n3 c3 a4 n4 c4) := fun w5 hb => hr3.below hb
      clear hb3 hr3
      have HBc : Hid (Below w3.heap.size w3 (w3.alloc (.cells #[.slice a1 D.packs.length c1, .slice a2 n2 c2, .slice a3 n3 c3, .int .u32 (ruM D).rem, .slice a4 n4 c4] 65))) := (Below.refl _ _).alloc (Nat.le_refl _) _
      have HUc : Hid ((w3.alloc (.cells #[.slice a1 D.packs.length c1, .slice a2 n2 c2, .slice a3 n3 c3, .int .u32 (ruM D).rem, .slice a4 n4 c4] 65)).heap[w3.heap.size]? = some (.cells #[.slice a1 D.packs.length c1, .slice a2 n2 c2, .slice a3 n3 c3, .int .u32 (ruM D).rem, .slice a4 n4 c4] 65 (0, 0))) := blk_new _ _
      go_wp2_with fail
      refine (doc_Just S _).mono ?_
      rintro e w4 ⟨rfl, hb4⟩
      have HB4 : Hid (Below w3.heap.size w3 w4) := HBc.out.trans (hb4.mono HBc.out.size)
      have HU4 : Hid (w4.heap[w3.heap.size]? = some (.cells #[.slice a1 D.packs.length c1, .slice a2 n2 c2, .slice a3 n3 c3, .int .u32 (ruM D).rem, .slice a4 n4 c4] 65 (0, 0))) := blk_below hb4 HUc.out (ltAt HUc.out)
      have cU40 : w4.cell? ⟨w3.heap.size, 0, none⟩ = some (.slice a1 D.packs.length c1) := (cellAt HU4.out 0).trans rfl
      have cU41 : w4.cell? ⟨w3.heap.size, 1, none⟩ = some (.slice a2 n2 c2) := (cellAt HU4.out 1).trans rfl
      have cU42 : w4.cell? ⟨w3.heap.size, 2, none⟩ = some (.slice a3 n3 c3) := (cellAt HU4.out 2).trans rfl
      have cU43 : w4.cell? ⟨w3.heap.size, 3, none⟩ = some (.int .u32 (ruM D).rem) := (cellAt HU4.out 3).trans rfl
      have cU44 : w4.cell? ⟨w3.heap.size, 4, none⟩ = some (.slice a4 n4 c4) := (cellAt HU4.out 4).trans rfl
      have lU4 := ltAt HU4.out
      clear hb4
      have HBd : Hid (Below w3.heap.size w3 (w4.alloc (.cells #[.int .u32 S, .int .u32 S] 68))) := HB4.out.alloc HB4.out.size _
      go_wp2_with fail
      refine (pk_FirstBroken (ruM D) S S a1 D.packs.length c1 a2 n2 c2 a3 n3 c3 a4 n4 c4 _ (HRV.out _ HBd.out) (ru_sm D) hS hS).mono ?_
      rintro e w5 ⟨rfl, hb5⟩
      have HB5 : Hid (Below w.heap.size w w5) := HB.out.trans ((HB3.out.trans ((HBd.out.trans (hb5.mono HBd.out.size)).mono HB3.out.size)).mono hws)
      clear hb5
      go_wp2
      go_ret2
      exact ⟨by rw [HF.out, HF2.out]; rfl, HB5.out⟩
  · have HT : Hid (uvR s.data.toList P = 0) := by show _ = _; unfold uvR; rw [if_neg h]
    have HT2 : Hid (uvE s.data.toList P = rdE s.data.toList) := by show _ = _; unfold uvE; rw [if_neg h]
    have hz : ((rdE s.data.toList : Int) != 0) = true := by rw [bne_iff_ne]; omega
    go_enter Tryd.func11, Tryd.ntmps11
    go_wp2_with fail
    refine (doc_Read s _ hs).mono ?_
    rintro e w1 ⟨ap, np, cp, ai, ni, ci, ar, nr, cr, au, nu, cu, rfl, hb, hd⟩
    have HB : Hid (Below w.heap.size w w1) := hb
    clear hd hb
    go_wp2_with fail
    go_quiet (fail)
    go_wp2
    go_ret2
    exact ⟨by rw [HT.out, HT2.out]; rfl, (HB.out.alloc HB.out.size _).trans ⟨rfl, rfl, rfl, Nat.le_refl _, fun _ _ => rfl⟩⟩

end Go.Proofs.YtenbnmbbfeekpabDoor

namespace Go.Proofs.YtenbnmbbfeekpabDoor
open Go.RowKit

set_option maxHeartbeats 6400000 in
set_option maxRecDepth 100000 in
theorem up_Score (s : ByteArray) (C P : List UInt8) (w : World) (hs : s.size ≤ maxLen) (hCm : (C.length : Int) ≤ maxLen) (hPm : (P.length : Int) ≤ maxLen) : Calls Tryd.prog 10 #[.string s, .string (bs C), .string (bs P)] w fun e w' => e = .returned (.tuple #[.string (bs (usT s.data.toList C P)), .int .i64 (usE s.data.toList C P : Nat)]) ∧ Below w.heap.size w w' := by
  by_cases h : rdE s.data.toList = 0
  · obtain ⟨r1, r2, r3, r4, _⟩ := rd_ok h
    have HSM : Hid (DcSm (dcV s.data.toList)) := dc_small r2 (by rw [← r1]; exact r3)
    have HAP : Hid (Ap (dcV s.data.toList).packs) := Ap.of h
    have HL20 : Hid ((dcV s.data.toList).packs.length ≤ 20) := r4
    have HTE : Hid (usE s.data.toList C P = match crL C with | some _ => prE (dcV s.data.toList).packs P | none => 6) := by show _ = _; unfold usE; exact if_pos h
    have HTR : Hid (usT s.data.toList C P = match crL C, prL (dcV s.data.toList).packs P with | some ls, some L => txA (dcV s.data.toList).packs L ls ls.length | _, _ => []) := by show _ = _; unfold usT; exact if_pos h
    have HE : Hid (rdE s.data.toList = 0) := h
    clear r1 r2 r3 r4 h
    go_enter Tryd.func10, Tryd.ntmps10
    go_wp2_with fail
    refine (doc_Read s _ hs).mono ?_
    rintro e w1 ⟨ap, np, cp, ai, ni, ci, ar, nr, cr, au, nu, cu, rfl, hb, hd⟩
    have HD : Hid (∀ w', Below w1.heap.size w1 w' → DcV w' (dcV s.data.toList) ap np cp ai ni ci ar nr cr au nu cu) := fun w' hb => ((hd HE.out).views HSM.out).below hb
    have hnp := ((hd HE.out).views HSM.out).len
    have HB : Hid (Below w.heap.size w w1) := hb
    have hws := hb.size
    have hz : ((rdE s.data.toList : Int) != 0) = false := by rw [HE.out]; rfl
    clear hd hb
    generalize dcV s.data.toList = D at *
    subst hnp
    have HBa : Hid (Below w1.heap.size w1 (w1.alloc (.cells #[.slice ap D.packs.length cp, .slice ai ni ci, .slice ar nr cr, .slice au nu cu, .int .i64 (rdE s.data.toList), .int .i64 (rdP s.data.toList)] 43))) := (Below.refl _ _).alloc (Nat.le_refl _) _
    have HRa : Hid ((w1.alloc (.cells #[.slice ap D.packs.length cp, .slice ai ni ci, .slice ar nr cr, .slice au nu cu, .int .i64 (rdE s.data.toList), .int .i64 (rdP s.data.toList)] 43)).heap[w1.heap.size]? = some (.cells #[.slice ap D.packs.length cp, .slice ai ni ci, .slice ar nr cr, .slice au nu cu, .int .i64 (rdE s.data.toList), .int .i64 (rdP s.data.toList)] 43 (0, 0))) := blk_new _ _
    go_wp2_with fail
    refine (sc_Read C _ hCm).mono ?_
    rintro e w2 ⟨al, nl, cl, rfl, hb2, hq2⟩
    have HB2 : Hid (Below w1.heap.size w1 w2) := HBa.out.trans (hb2.mono HBa.out.size)
    have HR2 : Hid (w2.heap[w1.heap.size]? = some (.cells #[.slice ap D.packs.length cp, .slice ai ni ci, .slice ar nr cr, .slice au nu cu, .int .i64 (rdE s.data.toList), .int .i64 (rdP s.data.toList)] 43 (0, 0))) := blk_below hb2 HRa.out (ltAt HRa.out)
    have cR20 : w2.cell? ⟨w1.heap.size, 0, none⟩ = some (.slice ap D.packs.length cp) := (cellAt HR2.out 0).trans rfl
    have cR21 : w2.cell? ⟨w1.heap.size, 1, none⟩ = some (.slice ai ni ci) := (cellAt HR2.out 1).trans rfl
    have cR22 : w2.cell? ⟨w1.heap.size, 2, none⟩ = some (.slice ar nr cr) := (cellAt HR2.out 2).trans rfl
    have cR23 : w2.cell? ⟨w1.heap.size, 3, none⟩ = some (.slice au nu cu) := (cellAt HR2.out 3).trans rfl
    have cR24 : w2.cell? ⟨w1.heap.size, 4, none⟩ = some (.int .i64 (rdE s.data.toList)) := (cellAt HR2.out 4).trans rfl
    have cR25 : w2.cell? ⟨w1.heap.size, 5, none⟩ = some (.int .i64 (rdP s.data.toList)) := (cellAt HR2.out 5).trans rfl
    have lR2 := ltAt HR2.out
    have HQ2 : Hid (∀ L, crK C = some L → CrV w2 (.slice al nl cl) L) := hq2
    clear hb2 hq2
    have HCS : Hid (crL C = (crK C).map (List.map Prod.snd)) := crK_same C
    rcases hcr : crK C with _ | ls
    · have hce : ckE C = 6 := ck_bad hcr
      have hcl : crL C = none := by rw [HCS.out, hcr]; rfl
      have HF : Hid (usT s.data.toList C P = []) := by show _ = _; rw [HTR.out, hcl]
      have HF2 : Hid (usE s.data.toList C P = 6) := by show _ = _; rw [HTE.out, hcl]
      rw [hce]
      clear hcr hce HQ2 hcl HTE HTR
      go_wp2_with fail
      go_quiet (fail)
      go_wp2
      go_ret2
      exact ⟨by rw [HF.out, HF2.out]; rfl, ((HB.out.trans (HB2.out.mono hws)).alloc (by have := HB.out.size; have := HB2.out.size; omega) _).trans ⟨rfl, rfl, rfl, Nat.le_refl _, fun _ _ => rfl⟩⟩
    · have hce : ckE C = 0 := by unfold ckE; rw [hcr]; rfl
      have hls : ls.length ≤ 4 := crK_len hcr
      have hcl : crL C = some (ls.map Prod.snd) := by rw [HCS.out, hcr]; rfl
      have HBV : Hid (∀ w5, Below w2.heap.size w2 w5 → CrV w5 (.slice al nl cl) ls) := fun w5 hb => (HQ2.out ls hcr).below hb
      have HTE2 : Hid (usE s.data.toList C P = prE D.packs P) := by show _ = _; rw [HTE.out, hcl]
      have HTR2 : Hid (usT s.data.toList C P = match prL D.packs P with | some L => txA D.packs L (ls.map Prod.snd) (ls.map Prod.snd).length | none => []) := by show _ = _; rw [HTR.out, hcl]; cases prL D.packs P <;> rfl
      rw [hce]
      clear hcr hce HQ2 hcl HTE HTR HCS
      have HBb : Hid (Below w2.heap.size w2 (w2.alloc (.cells #[.slice al nl cl, .int .i64 0] 47))) := (Below.refl _ _).alloc (Nat.le_refl _) _
      have HB1b : Hid (Below w1.heap.size w1 (w2.alloc (.cells #[.slice al nl cl, .int .i64 0] 47))) := HB2.out.alloc HB2.out.size _
      have HRb : Hid ((w2.alloc (.cells #[.slice al nl cl, .int .i64 0] 47)).heap[w1.heap.size]? = some (.cells #[.slice ap D.packs.length cp, .slice ai ni ci, .slice ar nr cr, .slice au nu cu, .int .i64 (rdE s.data.toList), .int .i64 (rdP s.data.toList)] 43 (0, 0))) := blk_old HR2.out _
      have HCb : Hid ((w2.alloc (.cells #[.slice al nl cl, .int .i64 0] 47)).heap[w2.heap.size]? = some (.cells #[.slice al nl cl, .int .i64 0] 47 (0, 0))) := blk_new _ _
      go_wp2_with fail
      refine (pk_Read ap cp D.packs P _ hPm (HD.out _ HB1b.out).packs).mono ?_
      rintro e w3 ⟨S, rfl, hb3, hS, hq3⟩
      have HB3 : Hid (Below w1.heap.size w1 w3) := HB1b.out.trans (hb3.mono HB1b.out.size)
      have HC3b : Hid (Below w2.heap.size w2 w3) := HBb.out.trans (hb3.mono HBb.out.size)
      have HR3 : Hid (w3.heap[w1.heap.size]? = some (.cells #[.slice ap D.packs.length cp, .slice ai ni ci, .slice ar nr cr, .slice au nu cu, .int .i64 (rdE s.data.toList), .int .i64 (rdP s.data.toList)] 43 (0, 0))) := blk_below hb3 HRb.out (ltAt HRb.out)
      have cR30 : w3.cell? ⟨w1.heap.size, 0, none⟩ = some (.slice ap D.packs.length cp) := (cellAt HR3.out 0).trans rfl
      have cR31 : w3.cell? ⟨w1.heap.size, 1, none⟩ = some (.slice ai ni ci) := (cellAt HR3.out 1).trans rfl
      have cR32 : w3.cell? ⟨w1.heap.size, 2, none⟩ = some (.slice ar nr cr) := (cellAt HR3.out 2).trans rfl
      have cR33 : w3.cell? ⟨w1.heap.size, 3, none⟩ = some (.slice au nu cu) := (cellAt HR3.out 3).trans rfl
      have cR34 : w3.cell? ⟨w1.heap.size, 4, none⟩ = some (.int .i64 (rdE s.data.toList)) := (cellAt HR3.out 4).trans rfl
      have cR35 : w3.cell? ⟨w1.heap.size, 5, none⟩ = some (.int .i64 (rdP s.data.toList)) := (cellAt HR3.out 5).trans rfl
      have lR3 := ltAt HR3.out
      have HC3 : Hid (w3.heap[w2.heap.size]? = some (.cells #[.slice al nl cl, .int .i64 0] 47 (0, 0))) := blk_below hb3 HCb.out (ltAt HCb.out)
      have cC30 : w3.cell? ⟨w2.heap.size, 0, none⟩ = some (.slice al nl cl) := (cellAt HC3.out 0).trans rfl
      have cC31 : w3.cell? ⟨w2.heap.size, 1, none⟩ = some (.int .i64 0) := (cellAt HC3.out 1).trans rfl
      have lC3 := ltAt HC3.out
      have HQ3 : Hid (∀ T, prS D.packs P = some T → S = T) := hq3
      clear hb3 hq3 cR20 cR21 cR22 cR23 cR24 cR25
      rcases hpr : prL D.packs P with _ | L
      · have hpe : psE D.packs P = 5 := by unfold psE; rw [prS_none HL20.out hpr]; rfl
        have HF : Hid (usT s.data.toList C P = []) := by show _ = _; rw [HTR2.out, hpr]
        have HF2 : Hid (usE s.data.toList C P = 5) := by show _ = _; rw [HTE2.out]; unfold prE; rw [hpr]; rfl
        rw [hpe]
        clear hpr hpe HQ3 HTR2 HTE2
        go_wp2_with fail
        go_quiet (fail)
        go_wp2
        go_ret2
        exact ⟨by rw [HF.out, HF2.out]; rfl, ((HB.out.trans (HB3.out.mono hws)).alloc (by have := HB.out.size; have := HB3.out.size; omega) _).trans ⟨rfl, rfl, rfl, Nat.le_refl _, fun _ _ => rfl⟩⟩
      · obtain ⟨S', hS', hmk⟩ := prS_some HL20.out HAP.out hpr
        have hpe : psE D.packs P = 0 := by unfold psE; rw [hS']; rfl
        have hSe := HQ3.out S' hS'
        have hpq := Pq.of HAP.out hpr
        have HF : Hid (usT s.data.toList C P = txQ (nmL D.packs 26) S (ls.map Prod.snd) ls.length) := by
          show _ = _
          rw [HTR2.out, hpr, hSe]
          simp only
          rw [← txQ_same HL20.out HAP.out hmk hpq.sub, List.length_map]
        have HF2 : Hid (usE s.data.toList C P = 0) := by show _ = _; rw [HTE2.out]; unfold prE; rw [hpr]; rfl
        rw [hpe]
        clear hpr hpe HQ3 HTR2 HTE2 hSe hmk hpq hS'
        have HBc : Hid (Below w3.heap.size w3 (w3.alloc (.cells #[.int .u32 S, .int .i64 0] 56))) := (Below.refl _ _).alloc (Nat.le_refl _) _
        have HB1c : Hid (Below w1.heap.size w1 (w3.alloc (.cells #[.int .u32 S, .int .i64 0] 56))) := HB3.out.alloc HB3.out.size _
        have HC2c : Hid (Below w2.heap.size w2 (w3.alloc (.cells #[.int .u32 S, .int .i64 0] 56))) := HC3b.out.alloc HC3b.out.size _
        have HCc : Hid ((w3.alloc (.cells #[.int .u32 S, .int .i64 0] 56)).heap[w2.heap.size]? = some (.cells #[.slice al nl cl, .int .i64 0] 47 (0, 0))) := blk_old HC3.out _
        have HPc : Hid ((w3.alloc (.cells #[.int .u32 S, .int .i64 0] 56)).heap[w3.heap.size]? = some (.cells #[.int .u32 S, .int .i64 0] 56 (0, 0))) := blk_new _ _
        go_wp2_with fail
        refine (sc_Names ap cp D.packs _ (HD.out _ HB1c.out).packs).mono ?_
        rintro e w4 ⟨an, cn, rfl, hb4, hn4⟩
        have HB4 : Hid (Below w1.heap.size w1 w4) := HB1c.out.trans (hb4.mono HB1c.out.size)
        have HC24 : Hid (Below w2.heap.size w2 w4) := HC2c.out.trans (hb4.mono HC2c.out.size)
        have HC4 : Hid (w4.heap[w2.heap.size]? = some (.cells #[.slice al nl cl, .int .i64 0] 47 (0, 0))) := blk_below hb4 HCc.out (ltAt HCc.out)
        have cC40 : w4.cell? ⟨w2.heap.size, 0, none⟩ = some (.slice al nl cl) := (cellAt HC4.out 0).trans rfl
        have cC41 : w4.cell? ⟨w2.heap.size, 1, none⟩ = some (.int .i64 0) := (cellAt HC4.out 1).trans rfl
        have lC4 := ltAt HC4.out
        have HP4 : Hid (w4.heap[w3.heap.size]? = some (.cells #[.int .u32 S, .int .i64 0] 56 (0, 0))) := blk_below hb4 HPc.out (ltAt HPc.out)
        have cP40 : w4.cell? ⟨w3.heap.size, 0, none⟩ = some (.int .u32 S) := (cellAt HP4.out 0).trans rfl
        have cP41 : w4.cell? ⟨w3.heap.size, 1, none⟩ = some (.int .i64 0) := (cellAt HP4.out 1).trans rfl
        have lP4 := ltAt HP4.out
        have HNV : Hid (NmV w4 (.slice an (nmL D.packs 26).length cn) (nmL D.packs 26)) := NmO.nv hn4 (by have := nmL_len D.packs 26; omega)
        clear hb4 hn4
        go_wp2_with fail
        refine (sc_Text (.slice al nl cl) ls _ (nmL D.packs 26) S _ (HBV.out _ HC24.out) hls HNV.out (nmL_len D.packs 26) (nm_sm D.packs 26) hS).mono ?_
        rintro e w5 ⟨rfl, hb5⟩
        have HB5 : Hid (Below w.heap.size w w5) := HB.out.trans ((HB4.out.trans (hb5.mono HB4.out.size)).mono hws)
        clear hb5
        go_wp2
        go_ret2
        exact ⟨by rw [HF.out, HF2.out]; rfl, HB5.out⟩
  · have HT : Hid (usT s.data.toList C P = []) := by show _ = _; unfold usT; rw [if_neg h]
    have HT2 : Hid (usE s.data.toList C P = rdE s.data.toList) := by show _ = _; unfold usE; rw [if_neg h]
    have hz : ((rdE s.data.toList : Int) != 0) = true := by rw [bne_iff_ne]; omega
    go_enter Tryd.func10, Tryd.ntmps10
    go_wp2_with fail
    refine (doc_Read s _ hs).mono ?_
    rintro e w1 ⟨ap, np, cp, ai, ni, ci, ar, nr, cr, au, nu, cu, rfl, hb, hd⟩
    have HB : Hid (Below w.heap.size w w1) := hb
    clear hd hb
    go_wp2_with fail
    go_quiet (fail)
    go_wp2
    go_ret2
    exact ⟨by rw [HT.out, HT2.out]; rfl, (HB.out.alloc HB.out.size _).trans ⟨rfl, rfl, rfl, Nat.le_refl _, fun _ _ => rfl⟩⟩

end Go.Proofs.YtenbnmbbfeekpabDoor
