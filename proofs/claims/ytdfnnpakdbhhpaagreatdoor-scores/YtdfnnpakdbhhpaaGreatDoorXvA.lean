import Derived.Test.YtdfnnpakdbhhpaaGreatDoorShF

/-
  What the program reads in memory, as lists: views that any later memory keeps. Nothing of the dump but the types' numbers.
-/
namespace Go.Proofs.YtdfnnpakdbhhpaaGreatDoor
open Go.RowKit

def BV (w : World) (v : Value) (l : List Nat) : Prop := l.length ≤ 801 ∧ ∃ ao cap, v = .slice ao l.length cap ∧ ∀ j (h : j < l.length), ∃ g off, ao = some ⟨g, off, none⟩ ∧ g < w.heap.size ∧ w.cell? ⟨g, off + j, none⟩ = some (.int .u8 (l[j] : Int))
def CV (w : World) (v : Value) (l : List Cn) : Prop := l.length ≤ 801 ∧ ∃ ao cap, v = .slice ao l.length cap ∧ ∀ j (h : j < l.length), ∃ g off, ao = some ⟨g, off, none⟩ ∧ g < w.heap.size ∧ w.cell? ⟨g, off + j * 3, none⟩ = some (.int .u8 (l[j].n : Int)) ∧ w.cell? ⟨g, off + j * 3 + 1, none⟩ = some (.int .u8 (l[j].s : Int)) ∧ w.cell? ⟨g, off + j * 3 + 2, none⟩ = some (.int .u8 (l[j].v : Int))
def NV (w : World) (v : Value) (l : List (List Cn)) : Prop := l.length ≤ 801 ∧ ∃ ao cap, v = .slice ao l.length cap ∧ ∀ j (h : j < l.length), ∃ g off a n c, ao = some ⟨g, off, none⟩ ∧ g < w.heap.size ∧ w.cell? ⟨g, off + j, none⟩ = some (.slice a n c) ∧ CV w (.slice a n c) l[j]
/-- A package as a value. -/
def pkVal (p : Pk) (an : Option Addr) (nn cn : Nat) (ac : Option Addr) (nc cc : Nat) (ap : Option Addr) (np cp : Nat) : Array Value := #[.int .u8 p.n, .int .u8 p.v, .int .i64 p.m, .slice an nn cn, .slice ac nc cc, .slice ap np cp]
def PkV (w : World) (p : Pk) (an : Option Addr) (nn cn : Nat) (ac : Option Addr) (nc cc : Nat) (ap : Option Addr) (np cp : Nat) : Prop := NV w (.slice an nn cn) p.needs ∧ CV w (.slice ac nc cc) p.conf ∧ BV w (.slice ap np cp) p.prov
def PRw (w : World) (ao : Option Addr) (j : Nat) (p : Pk) : Prop := ∃ g off an nn cn ac nc cc ap np cp, ao = some ⟨g, off, none⟩ ∧ g < w.heap.size ∧ (w.cell? ⟨g, off + j * 6, none⟩ = some (.int .u8 p.n) ∧ w.cell? ⟨g, off + j * 6 + 1, none⟩ = some (.int .u8 p.v) ∧ w.cell? ⟨g, off + j * 6 + 2, none⟩ = some (.int .i64 p.m) ∧
  w.cell? ⟨g, off + j * 6 + 3, none⟩ = some (.slice an nn cn) ∧ w.cell? ⟨g, off + j * 6 + 4, none⟩ = some (.slice ac nc cc) ∧ w.cell? ⟨g, off + j * 6 + 5, none⟩ = some (.slice ap np cp)) ∧ PkV w p an nn cn ac nc cc ap np cp
/-- A part of a row of packages. -/
def PV (w : World) (ao : Option Addr) (ps : List Pk) : Prop := ps.length ≤ 801 ∧ ∀ j (h : j < ps.length), PRw w ao j ps[j]

theorem BV.below {w w' : World} {v : Value} {l : List Nat} (h : BV w v l) (hb : Below w.heap.size w w') : BV w' v l := by
  obtain ⟨h0, ao, cap, h1, h2⟩ := h
  refine ⟨h0, ao, cap, h1, fun j hj => ?_⟩
  obtain ⟨g, off, e, hg, x⟩ := h2 j hj
  exact ⟨g, off, e, Nat.lt_of_lt_of_le hg hb.size, (hb.cell (p := ⟨g, _, none⟩) hg).trans x⟩
theorem CV.below {w w' : World} {v : Value} {l : List Cn} (h : CV w v l) (hb : Below w.heap.size w w') : CV w' v l := by
  obtain ⟨h0, ao, cap, h1, h2⟩ := h
  refine ⟨h0, ao, cap, h1, fun j hj => ?_⟩
  obtain ⟨g, off, e, hg, x, y, z⟩ := h2 j hj
  exact ⟨g, off, e, Nat.lt_of_lt_of_le hg hb.size, (hb.cell (p := ⟨g, _, none⟩) hg).trans x, (hb.cell (p := ⟨g, _, none⟩) hg).trans y, (hb.cell (p := ⟨g, _, none⟩) hg).trans z⟩
theorem NV.below {w w' : World} {v : Value} {l : List (List Cn)} (h : NV w v l) (hb : Below w.heap.size w w') : NV w' v l := by
  obtain ⟨h0, ao, cap, h1, h2⟩ := h
  refine ⟨h0, ao, cap, h1, fun j hj => ?_⟩
  obtain ⟨g, off, a, n, c, e, hg, x, y⟩ := h2 j hj
  exact ⟨g, off, a, n, c, e, Nat.lt_of_lt_of_le hg hb.size, (hb.cell (p := ⟨g, _, none⟩) hg).trans x, y.below hb⟩
theorem PkV.below {w w' : World} {p : Pk} {an : Option Addr} {nn cn : Nat} {ac : Option Addr} {nc cc : Nat} {ap : Option Addr} {np cp : Nat} (h : PkV w p an nn cn ac nc cc ap np cp) (hb : Below w.heap.size w w') : PkV w' p an nn cn ac nc cc ap np cp := ⟨h.1.below hb, h.2.1.below hb, h.2.2.below hb⟩
theorem PRw.below {w w' : World} {ao : Option Addr} {j : Nat} {p : Pk} (h : PRw w ao j p) (hb : Below w.heap.size w w') : PRw w' ao j p := by
  obtain ⟨g, off, an, nn, cn, ac, nc, cc, ap, np, cp, e, hg, ⟨x0, x1, x2, x3, x4, x5⟩, k⟩ := h
  exact ⟨g, off, an, nn, cn, ac, nc, cc, ap, np, cp, e, Nat.lt_of_lt_of_le hg hb.size, ⟨(hb.cell (p := ⟨g, _, none⟩) hg).trans x0, (hb.cell (p := ⟨g, _, none⟩) hg).trans x1, (hb.cell (p := ⟨g, _, none⟩) hg).trans x2, (hb.cell (p := ⟨g, _, none⟩) hg).trans x3, (hb.cell (p := ⟨g, _, none⟩) hg).trans x4, (hb.cell (p := ⟨g, _, none⟩) hg).trans x5⟩, k.below hb⟩
theorem PV.below {w w' : World} {ao : Option Addr} {ps : List Pk} (h : PV w ao ps) (hb : Below w.heap.size w w') : PV w' ao ps := ⟨h.1, fun j hj => (h.2 j hj).below hb⟩
theorem PRw.rw {w : World} {ao : Option Addr} {j : Nat} {p : Pk} (h : PRw w ao j p) : PkRw w ao j p := by
  obtain ⟨g, off, an, nn, cn, ac, nc, cc, ap, np, cp, e, hg, ⟨x0, x1, x2, x3, x4, x5⟩, k⟩ := h
  exact ⟨g, off, an, nn, cn, ac, nc, cc, ap, np, cp, e, hg, x0, x1, x2, x3, x4, x5⟩
theorem PV.rows {w : World} {ao : Option Addr} {ps : List Pk} (h : PV w ao ps) : ∀ j (h : j < ps.length), PkRw w ao j ps[j] := fun j hj => (h.2 j hj).rw
theorem PV.nil (w : World) (ao : Option Addr) : PV w ao [] := ⟨by simp, fun j hj => by simp at hj⟩
/-- The first ones. -/
theorem PV.take {w : World} {ao : Option Addr} {ps : List Pk} (h : PV w ao ps) (n : Nat) : PV w ao (ps.take n) := by
  refine ⟨Nat.le_trans (by simp; omega) h.1, fun j hj => ?_⟩
  rw [List.getElem_take]
  exact h.2 j (by simp at hj; omega)
/-- Those behind. -/
theorem PV.drop {w : World} {g off : Nat} {ps : List Pk} (h : PV w (some ⟨g, off, none⟩) ps) (n : Nat) : PV w (some ⟨g, off + n * 6, none⟩) (ps.drop n) := by
  refine ⟨Nat.le_trans (by simp) h.1, fun j hj => ?_⟩
  rw [List.getElem_drop]
  obtain ⟨g', off', an, nn, cn, ac, nc, cc, ap, np, cp, e, hg, hx, k⟩ := h.2 (n + j) (by simp at hj; omega)
  simp only [Option.some.injEq, Addr.mk.injEq, and_true] at e
  obtain ⟨rfl, rfl⟩ := e
  refine ⟨g, off + n * 6, an, nn, cn, ac, nc, cc, ap, np, cp, rfl, hg, ?_, k⟩
  rw [show off + n * 6 + j * 6 = off + (n + j) * 6 by omega]
  exact hx

/-- From rows of the reader's. -/
theorem BsAt.bv {B : Nat} {w : World} {v : Value} {l : List Nat} (h : BsAt B w v l) (hl : l.length ≤ 801) : BV w v l := by
  rcases bs_row h with ⟨rfl, rfl⟩ | ⟨g, cap, rfl, hg, hx⟩
  · exact ⟨hl, none, 0, rfl, fun j h => by simp at h⟩
  · exact ⟨hl, _, _, rfl, fun j hj => ⟨g, 0, rfl, hg, by rw [Nat.zero_add]; exact hx j hj⟩⟩
theorem CsAt.cv {B : Nat} {w : World} {v : Value} {l : List Cn} (h : CsAt B w v l) (hl : l.length ≤ 801) : CV w v l := by
  rcases cs_row h with ⟨rfl, rfl⟩ | ⟨g, cap, rfl, hg, hx⟩
  · exact ⟨hl, none, 0, rfl, fun j h => by simp at h⟩
  · exact ⟨hl, _, _, rfl, fun j hj => ⟨g, 0, rfl, hg, by rw [Nat.zero_add]; exact hx j hj⟩⟩
theorem NsAt.nv {B : Nat} {w : World} {v : Value} {l : List (List Cn)} (h : NsAt B w v l) (hl : l.length ≤ 801) (hl2 : ∀ n ∈ l, n.length ≤ 801) : NV w v l := by
  rcases ns_row h with ⟨rfl, rfl⟩ | ⟨g, cap, rfl, hg, hx⟩
  · exact ⟨hl, none, 0, rfl, fun j h => by simp at h⟩
  · refine ⟨hl, _, _, rfl, fun j hj => ?_⟩
    obtain ⟨a, n, c, x, y⟩ := hx j hj
    exact ⟨g, 0, a, n, c, rfl, hg, by rw [Nat.zero_add]; exact x, y.cv (hl2 _ (List.getElem_mem _))⟩
theorem PksAt.pv {B : Nat} {w : World} {ao : Option Addr} {n cap : Nat} {ps : List Pk} (h : PksAt B w (.slice ao n cap) ps) (hl : ps.length ≤ 801) (hs : ∀ p ∈ ps, PkSm p) : n = ps.length ∧ PV w ao ps := by
  rcases pks_row2 h with ⟨h', rfl⟩ | ⟨g, cap', h', hg, hx⟩
  · injection h' with h1 h2 h3
    subst h1 h2 h3
    exact ⟨rfl, PV.nil _ _⟩
  · injection h' with h1 h2 h3
    subst h1 h2 h3
    refine ⟨rfl, hl, fun j hj => ?_⟩
    obtain ⟨an, nn, cn, ac, nc, cc, ap, np, cp, hc, hp⟩ := hx j hj
    have hm := hs _ (List.getElem_mem hj)
    exact ⟨g, 0, an, nn, cn, ac, nc, cc, ap, np, cp, rfl, hg, by rw [Nat.zero_add]; exact hc, hp.1.nv hm.needs hm.need, hp.2.1.cv hm.conf, hp.2.2.bv hm.prov⟩

end Go.Proofs.YtdfnnpakdbhhpaaGreatDoor

namespace Go.Proofs.YtdfnnpakdbhhpaaGreatDoor
open Go.RowKit

set_option maxHeartbeats 800000 in
set_option maxRecDepth 100000 in
theorem pack_provides (p : Pk) (a : Nat) (an : Option Addr) (nn cn : Nat) (ac : Option Addr) (nc cc : Nat) (ap : Option Addr) (np cp : Nat) (w : World) (hp : PkV w p an nn cn ac nc cc ap np cp) :
    Calls Tryz.prog 108 #[.agg #[.int .u8 p.n, .int .u8 p.v, .int .i64 p.m, .slice an nn cn, .slice ac nc cc, .slice ap np cp], .int .u8 a] w fun e w' => e = .returned (.bool (p.prov.any fun x => x == a)) ∧ Below w.heap.size w w' := by
  obtain ⟨hl, ao', cap', e, hrow⟩ := hp.2.2
  injection e with e1 e2 e3
  subst e1 e2 e3
  have HR : Hid _ := hrow
  clear hrow hp
  generalize p.prov = L at *
  go_enter Tryz.func108, Tryz.ntmps108
  go_wp2
  go_loopw [10] (fun i wr => ∃ k : Nat, k ≤ L.length ∧ i = .int .i64 k ∧ Hid ((L.any fun x => x == a) = (L.drop k).any fun x => x == a) ∧ Below w.heap.size w wr) (fun i _ => L.length - (intOf i).toNat)
  case atStart => exact ⟨0, by omega, rfl, by show _ = _; simp, (Below.refl _ _).alloc (Nat.le_refl _) _⟩
  case round =>
    obtain ⟨k, hk, rfl, HP, hb⟩ := hrel
    by_cases hlt : k < L.length
    · obtain ⟨g, off, rfl, hg, x0⟩ := HR.out k hlt
      rw [← hb.cell (p := ⟨g, _, none⟩) hg] at x0
      have HD : Hid (((L.drop k).any fun x => x == a) = ((L[k] == a) || (L.drop (k + 1)).any fun x => x == a)) := by show _ = _; rw [List.drop_eq_getElem_cons hlt]; rfl
      by_cases e1 : L[k] = a
      · have e1' : ((L[k] : Int) == a) = true := by rw [beq_iff_eq]; omega
        have HF : Hid ((L.any fun x => x == a) = true) := by show _ = _; rw [HP.out, HD.out]; simp [e1]
        clear e1
        go_wp2
        go_ret
        exact ⟨ret_bool HF.out.symm, hb⟩
      · have e1' : ((L[k] : Int) == a) = false := by rw [beq_eq_false_iff_ne]; omega
        have HF : Hid ((L.any fun x => x == a) = (L.drop (k + 1)).any fun x => x == a) := by show _ = _; rw [HP.out, HD.out]; simp [e1]
        clear e1
        go_wp2
        go_roundw
        case rel => exact ⟨k + 1, by omega, by go_num, HF, hb⟩
        case measure => simp [intOf]; omega
    · have HF : Hid ((L.any fun x => x == a) = false) := by show _ = _; rw [HP.out, List.drop_of_length_le (by omega)]; rfl
      go_wp2
      go_ret
      exact ⟨ret_bool HF.out.symm, hb⟩

def vfB (v : Nat) (c : Cn) : Bool := (c.s == 61 && v == c.v) || (c.s == 60 && decide (v ≤ c.v)) || (c.s == 62 && decide (c.v ≤ v))

set_option maxHeartbeats 800000 in
theorem doc_versionFits (v : Nat) (c : Cn) (w : World) :
    Calls Tryz.prog 109 #[.int .u8 v, .agg #[.int .u8 c.n, .int .u8 c.s, .int .u8 c.v]] w fun e w' => e = .returned (.bool (vfB v c)) ∧ Below w.heap.size w w' := by
  by_cases h1 : c.s = 61
  · have e1 : ((c.s : Int) == 61) = true := by rw [beq_iff_eq]; omega
    have HF : Hid (((v : Int) == c.v) = vfB v c) := by
      show _ = _
      unfold vfB
      rw [h1, Bool.eq_iff_iff]
      simp
      omega
    clear h1
    go_enter Tryz.func109, Tryz.ntmps109
    go_wp2
    go_ret
    exact ⟨ret_bool HF.out, (Below.refl _ _).alloc (Nat.le_refl _) _⟩
  · have e1 : ((c.s : Int) == 61) = false := by rw [beq_eq_false_iff_ne]; omega
    by_cases h2 : c.s = 60
    · have e2 : ((c.s : Int) == 60) = true := by rw [beq_iff_eq]; omega
      have HF : Hid (decide (v ≤ c.v) = vfB v c) := by
        show _ = _
        unfold vfB
        rw [h2, Bool.eq_iff_iff]
        simp
      clear h1 h2
      go_enter Tryz.func109, Tryz.ntmps109
      go_wp2
      go_ret
      exact ⟨ret_bool HF.out, (Below.refl _ _).alloc (Nat.le_refl _) _⟩
    · have e2 : ((c.s : Int) == 60) = false := by rw [beq_eq_false_iff_ne]; omega
      by_cases h3 : c.s = 62
      · have e3 : ((c.s : Int) == 62) = true := by rw [beq_iff_eq]; omega
        have HF : Hid (decide (c.v ≤ v) = vfB v c) := by
          show _ = _
          unfold vfB
          rw [h3, Bool.eq_iff_iff]
          simp
        clear h1 h2 h3
        go_enter Tryz.func109, Tryz.ntmps109
        go_wp2
        go_ret
        exact ⟨ret_bool HF.out, (Below.refl _ _).alloc (Nat.le_refl _) _⟩
      · have e3 : ((c.s : Int) == 62) = false := by rw [beq_eq_false_iff_ne]; omega
        have HF : Hid (vfB v c = false) := by show _ = _; unfold vfB; simp [h1, h2, h3]
        clear h1 h2 h3
        go_enter Tryz.func109, Tryz.ntmps109
        go_wp2
        go_ret
        exact ⟨ret_bool HF.out.symm, (Below.refl _ _).alloc (Nat.le_refl _) _⟩

def fitB (p : Pk) (c : Cn) : Bool :=
  if c.s = 0 then p.prov.any (fun x => x == c.n) || p.n == c.n
  else p.n == c.n && ((c.s == 61 && p.v == c.v) || (c.s == 60 && decide (p.v ≤ c.v)) || (c.s == 62 && decide (c.v ≤ p.v)))

end Go.Proofs.YtdfnnpakdbhhpaaGreatDoor
