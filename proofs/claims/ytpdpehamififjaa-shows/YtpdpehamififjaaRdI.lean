import Derived.Test.YtpdpehamififjaaRdH
namespace Go.Proofs.Ytpdpehamififjaa
open Go.RowKit

/-- The cells of a package in a row. -/
def PkRow (w : World) (g j : Nat) (p : Pk) : Prop := ∃ an nn cn ac nc cc ap np cp, w.cell? ⟨g, j * 6, none⟩ = some (.int .u8 p.n) ∧ w.cell? ⟨g, j * 6 + 1, none⟩ = some (.int .u8 p.v) ∧ w.cell? ⟨g, j * 6 + 2, none⟩ = some (.int .i64 p.m) ∧
  w.cell? ⟨g, j * 6 + 3, none⟩ = some (.slice an nn cn) ∧ w.cell? ⟨g, j * 6 + 4, none⟩ = some (.slice ac nc cc) ∧ w.cell? ⟨g, j * 6 + 5, none⟩ = some (.slice ap np cp)

def amB (ps : List Pk) (n v : Nat) : Bool := ps.any fun p => p.n == n && p.v == v

set_option maxHeartbeats 800000 in
set_option maxRecDepth 100000 in
theorem doc_isAmong (g n cap : Nat) (ps : List Pk) (q : Pk) (an nn cn ac nc cc ap np cp) (w : World) (hn : n ≤ 801) (hps : ps.length = n) (hg : g < w.heap.size) (hrow : ∀ j (h : j < ps.length), PkRow w g j ps[j]) :
    Calls Try.prog 61 #[.slice (some ⟨g, 0, none⟩) n cap, .agg #[.int .u8 q.n, .int .u8 q.v, .int .i64 q.m, .slice an nn cn, .slice ac nc cc, .slice ap np cp]] w fun e w' => e = .returned (.bool (amB ps q.n q.v)) ∧ Below w.heap.size w w' := by
  go_enter Try.func61, Try.ntmps61
  go_wp2
  go_loopw [9] (fun i wr => ∃ k : Nat, k ≤ n ∧ i = .int .i64 k ∧ Hid (amB ps q.n q.v = amB (ps.drop k) q.n q.v) ∧ Below w.heap.size w wr ∧ wr.heap[w.heap.size]? = some (.cells #[.int .u8 q.n, .int .u8 q.v, .int .i64 q.m, .slice an nn cn, .slice ac nc cc, .slice ap np cp] 80 (0, 0))) (fun i _ => n - (intOf i).toNat)
  case atStart => exact ⟨0, by omega, rfl, by show _ = _; simp, (Below.refl _ _).alloc (Nat.le_refl _) _, blk_new _ _⟩
  case round =>
    obtain ⟨k, hk, rfl, HP, hb, hbx⟩ := hrel
    by_cases hlt : k < n
    · have hlt' : k < ps.length := by omega
      obtain ⟨an', nn', cn', ac', nc', cc', ap', np', cp', x0, x1, x2, x3, x4, x5⟩ := hrow k hlt'
      rw [← hb.cell (p := ⟨g, _, none⟩) hg] at x0 x1 x2 x3 x4 x5
      have y0 := cellAt hbx 0
      have y1 := cellAt hbx 1
      simp at y0 y1
      have HR : Hid (∀ j (h : j < ps.length), PkRow w g j ps[j]) := hrow
      have hsz := ltAt hbx
      have HD : Hid (amB (ps.drop k) q.n q.v = ((ps[k].n == q.n && ps[k].v == q.v) || amB (ps.drop (k + 1)) q.n q.v)) := by
        show _ = _; rw [List.drop_eq_getElem_cons hlt']; rfl
      have HB : Hid (wr.heap[w.heap.size]? = some (.cells #[.int .u8 q.n, .int .u8 q.v, .int .i64 q.m, .slice an nn cn, .slice ac nc cc, .slice ap np cp] 80 (0, 0))) := hbx
      have hbs := hb.size
      clear hrow hbx
      by_cases e1 : ps[k].n = q.n
      · have e1' : ((ps[k].n : Int) == q.n) = true := by rw [beq_iff_eq]; omega
        by_cases e2 : ps[k].v = q.v
        · have e2' : ((ps[k].v : Int) == q.v) = true := by rw [beq_iff_eq]; omega
          have HF : Hid (amB ps q.n q.v = true) := by show _ = _; rw [HP.out, HD.out]; simp [e1, e2]
          clear e1 e2
          go_wp2
          go_ret
          exact ⟨ret_bool HF.out.symm, hb.alloc hbs _⟩
        · have e2' : ((ps[k].v : Int) == q.v) = false := by rw [beq_eq_false_iff_ne]; omega
          have HF : Hid (amB ps q.n q.v = amB (ps.drop (k + 1)) q.n q.v) := by show _ = _; rw [HP.out, HD.out]; simp [e2]
          clear e1 e2
          go_wp2
          go_roundw
          case rel => exact ⟨k + 1, by omega, by go_num, HF, hb.alloc hbs _, blk_old HB.out _⟩
          case measure => simp [intOf]; omega
      · have e1' : ((ps[k].n : Int) == q.n) = false := by rw [beq_eq_false_iff_ne]; omega
        have HF : Hid (amB ps q.n q.v = amB (ps.drop (k + 1)) q.n q.v) := by show _ = _; rw [HP.out, HD.out]; simp [e1]
        clear e1
        go_wp2
        go_roundw
        case rel => exact ⟨k + 1, by omega, by go_num, HF, hb.alloc hbs _, blk_old HB.out _⟩
        case measure => simp [intOf]; omega
    · have HF : Hid (amB ps q.n q.v = false) := by show _ = _; rw [HP.out, List.drop_of_length_le (by omega)]; rfl
      clear hbx hrow
      go_wp2
      go_ret
      exact ⟨ret_bool HF.out.symm, hb⟩

/-- The number of the first package that one ahead of it equals, from k on; n: none. -/
def ftF (ps : List Pk) : Nat → Nat → Nat
  | 0, k => k
  | f + 1, k => match ps[k]? with
    | none => k
    | some p => if amB (ps.take k) p.n p.v then k else ftF ps f (k + 1)
def ftT (ps : List Pk) : Nat := ftF ps (ps.length + 1) 0

end Go.Proofs.Ytpdpehamififjaa
