import Derived.Test.YtdfnnpakdbhhpaaGreatDoorRdH
namespace Go.Proofs.YtdfnnpakdbhhpaaGreatDoor
open Go.RowKit

/-- The cells of a package in a row. -/
def PkRow (w : World) (g j : Nat) (p : Pk) : Prop := ∃ an nn cn ac nc cc ap np cp, w.cell? ⟨g, j * 6, none⟩ = some (.int .u8 p.n) ∧ w.cell? ⟨g, j * 6 + 1, none⟩ = some (.int .u8 p.v) ∧ w.cell? ⟨g, j * 6 + 2, none⟩ = some (.int .i64 p.m) ∧
  w.cell? ⟨g, j * 6 + 3, none⟩ = some (.slice an nn cn) ∧ w.cell? ⟨g, j * 6 + 4, none⟩ = some (.slice ac nc cc) ∧ w.cell? ⟨g, j * 6 + 5, none⟩ = some (.slice ap np cp)

/-- The cells of a package in a part of a row. -/
def PkRw (w : World) (ao : Option Addr) (j : Nat) (p : Pk) : Prop := ∃ g off an nn cn ac nc cc ap np cp, ao = some ⟨g, off, none⟩ ∧ g < w.heap.size ∧ w.cell? ⟨g, off + j * 6, none⟩ = some (.int .u8 p.n) ∧ w.cell? ⟨g, off + j * 6 + 1, none⟩ = some (.int .u8 p.v) ∧ w.cell? ⟨g, off + j * 6 + 2, none⟩ = some (.int .i64 p.m) ∧
  w.cell? ⟨g, off + j * 6 + 3, none⟩ = some (.slice an nn cn) ∧ w.cell? ⟨g, off + j * 6 + 4, none⟩ = some (.slice ac nc cc) ∧ w.cell? ⟨g, off + j * 6 + 5, none⟩ = some (.slice ap np cp)
theorem PkRow.rw {w : World} {g j : Nat} {p : Pk} (h : PkRow w g j p) (hg : g < w.heap.size) : PkRw w (some ⟨g, 0, none⟩) j p := by
  obtain ⟨an, nn, cn, ac, nc, cc, ap, np, cp, h0, h1, h2, h3, h4, h5⟩ := h
  exact ⟨g, 0, an, nn, cn, ac, nc, cc, ap, np, cp, rfl, hg, by simpa using h0, by simpa using h1, by simpa using h2, by simpa using h3, by simpa using h4, by simpa using h5⟩

def amB (ps : List Pk) (n v : Nat) : Bool := ps.any fun p => p.n == n && p.v == v
/-- The number of the package with the name and the version; as many as there are: none. -/
def nbT (ps : List Pk) (n v : Nat) : Nat := ps.findIdx fun p => p.n == n && p.v == v
theorem nb_am (ps : List Pk) (n v : Nat) : decide (nbT ps n v < ps.length) = amB ps n v := by
  unfold nbT amB
  rw [Bool.eq_iff_iff, decide_eq_true_iff, List.findIdx_lt_length, List.any_eq_true]

set_option maxHeartbeats 800000 in
set_option maxRecDepth 100000 in
theorem doc_Number (ao : Option Addr) (n cap : Nat) (ps : List Pk) (a b : Nat) (w : World) (hn : n ≤ 801) (hps : ps.length = n) (hrow : ∀ j (h : j < ps.length), PkRw w ao j ps[j]) :
    Calls Tryz.prog 46 #[.slice ao n cap, .int .u8 a, .int .u8 b] w fun e w' => e = .returned (.int .i64 (nbT ps a b)) ∧ Below w.heap.size w w' := by
  have HR : Hid (∀ j (h : j < ps.length), PkRw w ao j ps[j]) := hrow
  clear hrow
  go_enter Tryz.func46, Tryz.ntmps46
  go_wp2
  go_loopw [11] (fun i wr => ∃ k : Nat, k ≤ n ∧ i = .int .i64 k ∧ Hid (nbT ps a b = k + nbT (ps.drop k) a b) ∧ Below w.heap.size w wr) (fun i _ => n - (intOf i).toNat)
  case atStart => exact ⟨0, by omega, rfl, by show _ = _; simp, Below.refl _ _⟩
  case round =>
    obtain ⟨k, hk, rfl, HP, hb⟩ := hrel
    by_cases hlt : k < n
    · have hlt' : k < ps.length := by omega
      obtain ⟨g, off, an', nn', cn', ac', nc', cc', ap', np', cp', rfl, hg, x0, x1, x2, x3, x4, x5⟩ := HR.out k hlt'
      rw [← hb.cell (p := ⟨g, _, none⟩) hg] at x0 x1 x2 x3 x4 x5
      have HD : Hid (nbT (ps.drop k) a b = if (ps[k].n == a && ps[k].v == b) = true then 0 else nbT (ps.drop (k + 1)) a b + 1) := by
        show _ = _; unfold nbT; rw [List.drop_eq_getElem_cons hlt', List.findIdx_cons]; cases (ps[k].n == a && ps[k].v == b) <;> simp
      have hbs := hb.size
      by_cases e1 : ps[k].n = a
      · have e1' : ((ps[k].n : Int) == a) = true := by rw [beq_iff_eq]; omega
        by_cases e2 : ps[k].v = b
        · have e2' : ((ps[k].v : Int) == b) = true := by rw [beq_iff_eq]; omega
          have HF : Hid (nbT ps a b = k) := by show _ = _; rw [HP.out, HD.out]; simp [e1, e2]
          clear e1 e2
          go_wp2
          go_ret
          exact ⟨ret_int (by rw [HF.out]), hb.alloc hbs _⟩
        · have e2' : ((ps[k].v : Int) == b) = false := by rw [beq_eq_false_iff_ne]; omega
          have HF : Hid (nbT ps a b = (k + 1) + nbT (ps.drop (k + 1)) a b) := by show _ = _; rw [HP.out, HD.out, if_neg (by simp [e2])]; omega
          clear e1 e2
          go_wp2
          go_roundw
          case rel => exact ⟨k + 1, by omega, by go_num, HF, hb.alloc hbs _⟩
          case measure => simp [intOf]; omega
      · have e1' : ((ps[k].n : Int) == a) = false := by rw [beq_eq_false_iff_ne]; omega
        have HF : Hid (nbT ps a b = (k + 1) + nbT (ps.drop (k + 1)) a b) := by show _ = _; rw [HP.out, HD.out, if_neg (by simp [e1])]; omega
        clear e1
        go_wp2
        go_roundw
        case rel => exact ⟨k + 1, by omega, by go_num, HF, hb.alloc hbs _⟩
        case measure => simp [intOf]; omega
    · have HF : Hid (nbT ps a b = n) := by show _ = _; rw [HP.out, List.drop_of_length_le (by omega)]; simp [nbT]; omega
      go_wp2
      go_ret
      exact ⟨ret_int (by rw [HF.out]), hb⟩

set_option maxHeartbeats 800000 in
theorem doc_Has (ao : Option Addr) (n cap : Nat) (ps : List Pk) (a b : Nat) (w : World) (hn : n ≤ 801) (hps : ps.length = n) (hrow : ∀ j (h : j < ps.length), PkRw w ao j ps[j]) :
    Calls Tryz.prog 78 #[.slice ao n cap, .int .u8 a, .int .u8 b] w fun e w' => e = .returned (.bool (amB ps a b)) ∧ Below w.heap.size w w' := by
  have HR : Hid (∀ j (h : j < ps.length), PkRw w ao j ps[j]) := hrow
  clear hrow
  have HF : Hid (decide (nbT ps a b < n) = amB ps a b) := by show _ = _; rw [← nb_am, hps]
  go_enter Tryz.func78, Tryz.ntmps78
  go_wp2_with fail
  refine (doc_Number ao n cap ps a b _ hn hps HR.out).mono ?_
  rintro e w1 ⟨rfl, hb⟩
  go_wp2
  go_ret
  exact ⟨ret_bool HF.out, hb⟩

/-- The number of the first package that one ahead of it equals, from k on; n: none. -/
def ftF (ps : List Pk) : Nat → Nat → Nat
  | 0, k => k
  | f + 1, k => match ps[k]? with
    | none => k
    | some p => if amB (ps.take k) p.n p.v then k else ftF ps f (k + 1)
def ftT (ps : List Pk) : Nat := ftF ps (ps.length + 1) 0

end Go.Proofs.YtdfnnpakdbhhpaaGreatDoor
