/-
  The document's answer's Check over what read lays: how its packages lie, and which one is there twice.
-/
import Derived.Test.YtdfnnpakdbhhpaaGreatDoorRepS
namespace Go.Proofs.YtdfnnpakdbhhpaaGreatDoor
open Go.RowKit

/-- A package of the document's answer: its five cells. -/
def rpkCells (p : Pk) (vn vc vp : Value) : List Value := [strV [b8 p.n, b8 p.v], strV (mkT p.m), vn, vc, vp]
def RPkAt (w : World) (p : Pk) (vn vc vp : Value) : Prop := StAt w vn (p.needs.map ndT) ∧ StAt w vc (p.conf.map cnT) ∧ StAt w vp (p.prov.map fun c => [b8 c])
def RPkC (w : World) (c : List Value) (p : Pk) : Prop := ∃ vn vc vp, c = rpkCells p vn vc vp ∧ RPkAt w p vn vc vp
def RPksAt (w : World) (v : Value) (ps : List Pk) : Prop := ∃ css : List (List Value), w.ownsRow 0 101 5 v ps.length css.flatten ∧ All2 (RPkC w) css ps
theorem RPkC.below {w w' : World} {c : List Value} {p : Pk} (h : RPkC w c p) (hb : Below w.heap.size w w') : RPkC w' c p := by
  obtain ⟨a, b, d, e, f⟩ := h; exact ⟨a, b, d, e, f.1.below hb, f.2.1.below hb, f.2.2.below hb⟩
theorem RPkC.alloc {w : World} {c : List Value} {p : Pk} (h : RPkC w c p) (o : Obj) : RPkC (w.alloc o) c p := by
  obtain ⟨a, b, d, e, f⟩ := h; exact ⟨a, b, d, e, f.1.alloc o, f.2.1.alloc o, f.2.2.alloc o⟩
theorem RPkC.setT {w : World} {c : List Value} {p : Pk} (h : RPkC w c p) {k : Nat} {cur : Array Value} {T : TypeId} {m : Nat × Nat} (hk : w.heap[k]? = some (.cells cur T m)) (hT : 9 ≠ T) (o : Nat) (u : Value) : RPkC (w.setCell ⟨k, o, none⟩ u) c p := by
  obtain ⟨a, b, d, e, f⟩ := h; exact ⟨a, b, d, e, f.1.setT hk hT o u, f.2.1.setT hk hT o u, f.2.2.setT hk hT o u⟩
theorem RPkC.other {w w' : World} {c : List Value} {p : Pk} (h : RPkC w c p) {b : Nat} {sz : Nat} {o : Value} {n : Nat} {xs : List Value} (ho : w.ownsRow b 101 sz o n xs) (hg : w.grownBy w' o.ownBlock) : RPkC w' c p := by
  obtain ⟨a, b, d, e, f⟩ := h; exact ⟨a, b, d, e, f.1.other ho (by decide) hg, f.2.1.other ho (by decide) hg, f.2.2.other ho (by decide) hg⟩
theorem RPksAt.below {w w' : World} {v : Value} {ps : List Pk} (h : RPksAt w v ps) (hb : Below w.heap.size w w') : RPksAt w' v ps := by
  obtain ⟨css, h1, h2⟩ := h
  exact ⟨css, World.ownsRow.kept (row := none) h1 ⟨hb.os, hb.tape, hb.output, hb.size, fun k hk _ => hb.block k hk⟩ (by rcases v.ownBlock with _ | k <;> simp), h2.mono fun _ _ h => h.below hb⟩
theorem RPksAt.setT {w : World} {v : Value} {ps : List Pk} (h : RPksAt w v ps) {k : Nat} {cur : Array Value} {T : TypeId} {m : Nat × Nat} (hk : w.heap[k]? = some (.cells cur T m)) (h0 : 101 ≠ T) (h1 : 9 ≠ T) (o : Nat) (u : Value) : RPksAt (w.setCell ⟨k, o, none⟩ u) v ps := by
  obtain ⟨css, h4, h5⟩ := h
  exact ⟨css, own_setT h4 hk h0 o u, h5.mono fun _ _ h => h.setT hk h1 o u⟩
def RDcAt (w : World) (d : Dc) (vp vi vr vu : Value) : Prop := RPksAt w vp d.packs ∧ StAt w vi (d.ins.map cnT) ∧ StAt w vr (d.rem.map cnT) ∧ StAt w vu (d.upg.map cnT)
theorem RDcAt.below {w w' : World} {d : Dc} {vp vi vr vu : Value} (h : RDcAt w d vp vi vr vu) (hb : Below w.heap.size w w') : RDcAt w' d vp vi vr vu := ⟨h.1.below hb, h.2.1.below hb, h.2.2.1.below hb, h.2.2.2.below hb⟩
theorem RDcAt.setT {w : World} {d : Dc} {vp vi vr vu : Value} (h : RDcAt w d vp vi vr vu) {k : Nat} {cur : Array Value} {T : TypeId} {m : Nat × Nat} (hk : w.heap[k]? = some (.cells cur T m)) (h0 : 101 ≠ T) (h1 : 9 ≠ T) (o : Nat) (u : Value) : RDcAt (w.setCell ⟨k, o, none⟩ u) d vp vi vr vu :=
  ⟨h.1.setT hk h0 h1 o u, h.2.1.setT hk h1 o u, h.2.2.1.setT hk h1 o u, h.2.2.2.setT hk h1 o u⟩

/-- The cells of a package in the row. -/
def RPkRow (w : World) (g j : Nat) (p : Pk) : Prop := ∃ an nn cn ac nc cc ap np cp, w.cell? ⟨g, j * 5, none⟩ = some (strV [b8 p.n, b8 p.v]) ∧ w.cell? ⟨g, j * 5 + 1, none⟩ = some (strV (mkT p.m)) ∧
  w.cell? ⟨g, j * 5 + 2, none⟩ = some (.slice an nn cn) ∧ w.cell? ⟨g, j * 5 + 3, none⟩ = some (.slice ac nc cc) ∧ w.cell? ⟨g, j * 5 + 4, none⟩ = some (.slice ap np cp)
theorem rpks_rows {w : World} {v : Value} {ps : List Pk} (h : RPksAt w v ps) : (v = .slice none 0 0 ∧ ps = []) ∨ ∃ g cap, v = .slice (some ⟨g, 0, none⟩) ps.length cap ∧ ps.length ≤ cap ∧ g < w.heap.size ∧ ∀ j (h : j < ps.length), RPkRow w g j ps[j] := by
  obtain ⟨css, h1, h2⟩ := h
  rcases own_shape h1 with ⟨rfl, h0⟩ | ⟨g, cap, rfl, hc⟩
  · exact Or.inl ⟨rfl, List.eq_nil_of_length_eq_zero h0⟩
  · refine Or.inr ⟨g, cap, rfl, hc, own_lt h1, fun j hj => ?_⟩
    obtain ⟨c, hcj, vn, vc, vp, rfl, hp⟩ := h2.get (j := j) (List.getElem?_eq_getElem hj)
    have h5 : ∀ c ∈ css, c.length = 5 := All2.forall (Q := fun c : List Value => c.length = 5) (fun a b ⟨_, _, _, e, _⟩ => by rw [e]; rfl) h2
    have hf : ∀ k, k < 5 → css.flatten[j * 5 + k]? = (rpkCells ps[j] vn vc vp)[k]? := fun k hk => by rw [flat_get 5 css h5 j k hk, hcj]; rfl
    obtain ⟨an, nn, cn, rfl⟩ := hp.1.shape
    obtain ⟨ac, nc, cc, rfl⟩ := hp.2.1.shape
    obtain ⟨ap, np, cp, rfl⟩ := hp.2.2.shape
    exact ⟨an, nn, cn, ac, nc, cc, ap, np, cp, own_cell h1 _ _ (hf 0 (by omega)), own_cell h1 _ _ (hf 1 (by omega)), own_cell h1 _ _ (hf 2 (by omega)), own_cell h1 _ _ (hf 3 (by omega)), own_cell h1 _ _ (hf 4 (by omega))⟩

/-- Two packages' texts are one just if name and version are. -/
theorem id_eq {p q : Pk} (hp : PkOk p) (hq : PkOk q) : (bs [b8 p.n, b8 p.v] = bs [b8 q.n, b8 q.v]) ↔ p.n = q.n ∧ p.v = q.v := by
  constructor
  · intro h
    have h2 := bs_inj h
    simp at h2
    have a1 := nm_rng hp.n
    have a2 := nm_rng hq.n
    have a3 := vr_rng hp.v
    have a4 := vr_rng hq.v
    have e1 := congrArg UInt8.toNat h2.1
    have e2 := congrArg UInt8.toNat h2.2
    rw [b8_val (by omega), b8_val (by omega)] at e1 e2
    exact ⟨e1, e2⟩
  · rintro ⟨h1, h2⟩
    rw [h1, h2]

/-- Is one of the packages from k on, ahead of i, the same? -/
theorem amB_step {ps : List Pk} {i k : Nat} (hk : k < i) (hi : i ≤ ps.length) (n v : Nat) : amB ((ps.take i).drop k) n v = ((ps[k].n == n && ps[k].v == v) || amB ((ps.take i).drop (k + 1)) n v) := by
  rw [List.drop_eq_getElem_cons (by simp; omega)]
  simp [amB]

end Go.Proofs.YtdfnnpakdbhhpaaGreatDoor
