/-
  The best picks of a document and of its usual form have the same score. Plain mathematics.
-/
import Derived.Test.YtenbnmbbfeekpaaDoorXY
import Derived.Test.YtenbnmbbfeekpaaDoorXT2
namespace Go.Proofs.YtenbnmbbfeekpaaDoor

def wholeC : List UInt8 := [45, 114, 45, 110, 45, 99, 45, 117]
theorem whole_crit : critB wholeC = true := by decide
theorem ChooseP.shown {T : List UInt8 → List UInt8 → List UInt8} {E : List UInt8 → List UInt8 → Nat} (h : ChooseP T E) {t : List UInt8} (h0 : rdE t = 0) : E (shT t) wholeC = E t wholeC ∧ usT t wholeC (T (shT t) wholeC) = usT t wholeC (T t wholeC) := by
  obtain ⟨s1, _, _⟩ := shown_ok h0
  by_cases h7 : E t wholeC = 7
  · obtain ⟨e1, e2⟩ := h.non t wholeC h0 whole_crit h7
    by_cases g7 : E (shT t) wholeC = 7
    · obtain ⟨f1, _⟩ := h.non (shT t) wholeC s1 whole_crit g7
      rw [h7, g7, e1, f1]
      exact ⟨rfl, rfl⟩
    · obtain ⟨_, f2, _⟩ := h.yes (shT t) wholeC s1 whole_crit g7
      rw [shown_right h0, e2] at f2
      cases f2
  · obtain ⟨e1, e2, e3⟩ := h.yes t wholeC h0 whole_crit h7
    by_cases g7 : E (shT t) wholeC = 7
    · obtain ⟨_, f2⟩ := h.non (shT t) wholeC s1 whole_crit g7
      have := f2 (T t wholeC)
      rw [shown_right h0, e2] at this
      cases this
    · obtain ⟨f1, f2, f3⟩ := h.yes (shT t) wholeC s1 whole_crit g7
      rw [shown_right h0] at f2
      have b1 := e3 _ f2
      have b2 := f3 (T t wholeC) (by rw [shown_right h0]; exact e2)
      rw [shown_bt h0] at b2
      obtain ⟨_, _, l3⟩ := level h0 whole_crit f2 e2 b1 b2
      exact ⟨by rw [e1, f1], l3⟩

end Go.Proofs.YtenbnmbbfeekpaaDoor
