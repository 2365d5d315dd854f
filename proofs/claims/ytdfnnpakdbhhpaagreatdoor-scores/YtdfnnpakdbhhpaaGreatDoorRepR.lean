/-
  Rows of structs: the cells of element j.
-/
import Derived.Test.YtdfnnpakdbhhpaaGreatDoorRdI
namespace Go.Proofs.YtdfnnpakdbhhpaaGreatDoor
open Go.RowKit

theorem flat_get (m : Nat) : ∀ (css : List (List Value)), (∀ c ∈ css, c.length = m) → ∀ j k, k < m → css.flatten[j * m + k]? = (css[j]?).bind (fun c => c[k]?)
  | [], _, j, k, _ => by simp
  | c :: css, h, 0, k, hk => by
    have hc : c.length = m := h c (by simp)
    simp [List.getElem?_append_left (show k < c.length by omega)]
  | c :: css, h, j + 1, k, hk => by
    have hc : c.length = m := h c (by simp)
    have ih := flat_get m css (fun c hc => h c (by simp [hc])) j k hk
    rw [List.flatten_cons, List.getElem?_append_right (by rw [hc, Nat.add_mul]; omega), hc, show (j + 1) * m + k - m = j * m + k by rw [Nat.add_mul]; omega, ih]
    simp
theorem All2.get {α β : Type} {R : α → β → Prop} : ∀ {la : List α} {lb : List β}, All2 R la lb → ∀ {j : Nat} {b : β}, lb[j]? = some b → ∃ a, la[j]? = some a ∧ R a b
  | [], [], _, j, b, h => by simp at h
  | a :: _, b' :: _, hr, 0, b, h => by simp at h; subst h; exact ⟨a, rfl, hr.1⟩
  | _ :: _, _ :: _, hr, j + 1, b, h => by
    obtain ⟨a, ha, hr'⟩ := All2.get hr.2 (j := j) (b := b) (by simpa using h)
    exact ⟨a, by simpa using ha, hr'⟩
  | [], _ :: _, hr, _, _, _ => hr.elim
  | _ :: _, [], hr, _, _, _ => hr.elim
theorem All2.forall {α β : Type} {R : α → β → Prop} {Q : α → Prop} (hq : ∀ a b, R a b → Q a) : ∀ {la : List α} {lb : List β}, All2 R la lb → ∀ a ∈ la, Q a
  | [], [], _, a, ha => by simp at ha
  | a' :: _, _ :: _, hr, a, ha => by
    rcases List.mem_cons.1 ha with rfl | ha
    · exact hq _ _ hr.1
    · exact All2.forall hq hr.2 a ha
  | [], _ :: _, hr, _, _ => hr.elim
  | _ :: _, [], hr, _, _ => hr.elim

theorem own_cell {w : World} {base : Nat} {e : TypeId} {size g n cap : Nat} {xs : List Value} (h : w.ownsRow base e size (.slice (some ⟨g, 0, none⟩) n cap) n xs) (i : Nat) (x : Value) (hx : xs[i]? = some x) : w.cell? ⟨g, i, none⟩ = some x := by
  have := h.cells (g := g) rfl i x hx
  rwa [Addr.add_lit, Nat.zero_add] at this
theorem own_lt {w : World} {base : Nat} {e : TypeId} {size g n cap : Nat} {xs : List Value} (h : w.ownsRow base e size (.slice (some ⟨g, 0, none⟩) n cap) n xs) : g < w.heap.size := (h.lt g rfl).2
theorem own_shape {w : World} {base : Nat} {e : TypeId} {size n : Nat} {v : Value} {xs : List Value} (h : w.ownsRow base e size v n xs) : (v = .slice none 0 0 ∧ n = 0) ∨ ∃ g cap, v = .slice (some ⟨g, 0, none⟩) n cap ∧ n ≤ cap := by
  rcases h.2 with h | ⟨g, cap, cur, a, _, _, b, _⟩
  · exact Or.inl h
  · exact Or.inr ⟨g, cap, a, b⟩

theorem shape3 {B : Nat} {w : World} {v : Value} {l : List (List Cn)} (h : NsAt B w v l) : ∃ a n c, v = .slice a n c := by obtain ⟨_, h, _⟩ := h; rcases own_shape h with ⟨rfl, _⟩ | ⟨g, cap, rfl, _⟩ <;> exact ⟨_, _, _, rfl⟩

theorem pks_rows {B : Nat} {w : World} {v : Value} {ps : List Pk} (h : PksAt B w v ps) : (v = .slice none 0 0 ∧ ps = []) ∨ ∃ g cap, v = .slice (some ⟨g, 0, none⟩) ps.length cap ∧ ps.length ≤ cap ∧ g < w.heap.size ∧ ∀ j (h : j < ps.length), PkRow w g j ps[j] := by
  obtain ⟨css, h1, h2⟩ := h
  rcases own_shape h1 with ⟨rfl, h0⟩ | ⟨g, cap, rfl, hc⟩
  · exact Or.inl ⟨rfl, List.eq_nil_of_length_eq_zero h0⟩
  · refine Or.inr ⟨g, cap, rfl, hc, own_lt h1, fun j hj => ?_⟩
    obtain ⟨c, hcj, vn, vc, vp, rfl, hp⟩ := h2.get (j := j) (List.getElem?_eq_getElem hj)
    have h6 : ∀ c ∈ css, c.length = 6 := All2.forall (Q := fun c : List Value => c.length = 6) (fun a b ⟨_, _, _, e, _⟩ => by rw [e]; rfl) h2
    have hf : ∀ k, k < 6 → css.flatten[j * 6 + k]? = (pkCells ps[j] vn vc vp)[k]? := fun k hk => by rw [flat_get 6 css h6 j k hk, hcj]; rfl
    obtain ⟨an, nn, cn, rfl⟩ := shape3 hp.1
    obtain ⟨ac, nc, cc, rfl⟩ : ∃ a n c, vc = .slice a n c := by rcases own_shape hp.2.1 with ⟨rfl, _⟩ | ⟨g, cap, rfl, _⟩ <;> exact ⟨_, _, _, rfl⟩
    obtain ⟨ap, np, cp, rfl⟩ : ∃ a n c, vp = .slice a n c := by rcases own_shape hp.2.2 with ⟨rfl, _⟩ | ⟨g, cap, rfl, _⟩ <;> exact ⟨_, _, _, rfl⟩
    exact ⟨an, nn, cn, ac, nc, cc, ap, np, cp, own_cell h1 _ _ (hf 0 (by omega)), own_cell h1 _ _ (hf 1 (by omega)), own_cell h1 _ _ (hf 2 (by omega)), own_cell h1 _ _ (hf 3 (by omega)), own_cell h1 _ _ (hf 4 (by omega)), own_cell h1 _ _ (hf 5 (by omega))⟩

end Go.Proofs.YtdfnnpakdbhhpaaGreatDoor
