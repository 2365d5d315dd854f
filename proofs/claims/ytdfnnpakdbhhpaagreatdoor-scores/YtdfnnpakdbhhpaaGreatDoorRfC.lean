import Derived.Test.YtdfnnpakdbhhpaaGreatDoorRfB
import Derived.Test.YtdfnnpakdbhhpaaGreatDoorShF
import Derived.Test.YtdfnnpakdbhhpaaGreatDoorRefH
import Derived.Deep.RegionHeld3
import Derived.Deep.CutRange
namespace Go.Proofs.YtdfnnpakdbhhpaaGreatDoor
open Go.RowKit

theorem rpks_row2 {w : World} {v : Value} {ps : List Pk} (h : RPksAt w v ps) : (v = .slice none 0 0 ∧ ps = []) ∨ ∃ g cap, v = .slice (some ⟨g, 0, none⟩) ps.length cap ∧ g < w.heap.size ∧ ∀ j (h : j < ps.length), ∃ an nn cn ac nc cc ap np cp, (w.cell? ⟨g, j * 5, none⟩ = some (.string (bs [b8 ps[j].n, b8 ps[j].v])) ∧ w.cell? ⟨g, j * 5 + 1, none⟩ = some (.string (bs (mkT ps[j].m))) ∧
    w.cell? ⟨g, j * 5 + 2, none⟩ = some (.slice an nn cn) ∧ w.cell? ⟨g, j * 5 + 3, none⟩ = some (.slice ac nc cc) ∧ w.cell? ⟨g, j * 5 + 4, none⟩ = some (.slice ap np cp)) ∧ RPkAt w ps[j] (.slice an nn cn) (.slice ac nc cc) (.slice ap np cp) := by
  obtain ⟨css, h1, h2⟩ := h
  rcases own_shape h1 with ⟨rfl, h0⟩ | ⟨g, cap, rfl, hc⟩
  · exact Or.inl ⟨rfl, List.eq_nil_of_length_eq_zero h0⟩
  · refine Or.inr ⟨g, cap, rfl, own_lt h1, fun j hj => ?_⟩
    obtain ⟨c, hcj, vn, vc, vp, rfl, hp⟩ := h2.get (j := j) (List.getElem?_eq_getElem hj)
    have h5 : ∀ c ∈ css, c.length = 5 := All2.forall (Q := fun c : List Value => c.length = 5) (fun a b ⟨_, _, _, e, _⟩ => by rw [e]; rfl) h2
    have hf : ∀ k, k < 5 → css.flatten[j * 5 + k]? = (rpkCells ps[j] vn vc vp)[k]? := fun k hk => by rw [flat_get 5 css h5 j k hk, hcj]; rfl
    obtain ⟨an, nn, cn, rfl⟩ := hp.1.shape
    obtain ⟨ac, nc, cc, rfl⟩ := hp.2.1.shape
    obtain ⟨ap, np, cp, rfl⟩ := hp.2.2.shape
    exact ⟨an, nn, cn, ac, nc, cc, ap, np, cp, ⟨own_cell h1 _ _ (hf 0 (by omega)), own_cell h1 _ _ (hf 1 (by omega)), own_cell h1 _ _ (hf 2 (by omega)), own_cell h1 _ _ (hf 3 (by omega)), own_cell h1 _ _ (hf 4 (by omega))⟩, hp⟩

/-- The document's answer in its own writing. -/
def rdcS (d : Dc) : List UInt8 := (if d.packs.isEmpty then [] else ordT [59] (d.packs.map pkS0) ++ [59]) ++ [47] ++ ordT [44] (d.ins.map cnT) ++ [47] ++ ordT [44] (d.rem.map cnT) ++ [47] ++ ordT [44] (d.upg.map cnT)
def rshT (t : List UInt8) : List UInt8 := if rdE t = 0 then rdcS (dcV t) else []

theorem five {g : Nat} {W w' : World} (hb : Below W.heap.size W w') {x0 x1 : ByteArray} {a b c : Value} (h : W.cell? ⟨g, 0, none⟩ = some (.string x0) ∧ W.cell? ⟨g, 1, none⟩ = some (.string x1) ∧ W.cell? ⟨g, 2, none⟩ = some a ∧ W.cell? ⟨g, 3, none⟩ = some b ∧ W.cell? ⟨g, 4, none⟩ = some c) : w'.cell? ⟨g, 0, none⟩ = some (.string x0) ∧ w'.cell? ⟨g, 1, none⟩ = some (.string x1) ∧ w'.cell? ⟨g, 2, none⟩ = some a ∧ w'.cell? ⟨g, 3, none⟩ = some b ∧ w'.cell? ⟨g, 4, none⟩ = some c := by
  have hl : g < W.heap.size := World.block_lt_of_cell? _ _ h.1
  exact ⟨(hb.cell (p := ⟨g, 0, none⟩) hl).trans h.1, (hb.cell (p := ⟨g, 1, none⟩) hl).trans h.2.1, (hb.cell (p := ⟨g, 2, none⟩) hl).trans h.2.2.1, (hb.cell (p := ⟨g, 3, none⟩) hl).trans h.2.2.2.1, (hb.cell (p := ⟨g, 4, none⟩) hl).trans h.2.2.2.2⟩

end Go.Proofs.YtdfnnpakdbhhpaaGreatDoor
