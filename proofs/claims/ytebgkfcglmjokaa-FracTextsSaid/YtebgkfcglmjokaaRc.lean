/- A struct's own block never holds the words of a slice: so a store into it leaves every slice of words. -/
import Derived.Test.YtebgkfcglmjokaaRb
namespace Go.Proofs.Ytebgkfcglmjokaa
open Go.RowKit

theorem IsW.other {w w' : World} {v : Value} {l : List Nat} {B : Nat} {cs : Array Value} {t : TypeId} {fr : Nat × Nat} (h : IsW w v l) (hB : w.heap[B]? = some (.cells cs t fr))
    (hcs : ∀ (j k : Nat), cs[j]? ≠ some (U k)) (ho : Only B w w') : IsW w' v l := by
  by_cases hv : v.ownBlock = some B
  · obtain ⟨a, cap, rfl, h1, h2, h3, h4, h5⟩ := h
    cases l with
    | nil => exact ⟨a, cap, rfl, h1, h2, h3, Cells.nil _ _, fun x hx => by rw [ho.size]; exact h5 x hx⟩
    | cons k ks =>
      exfalso
      obtain ⟨b, off, rfl, hlt, hc⟩ := h4 (by simp)
      have e : b = B := by simpa [Value.ownBlock] using hv
      subst e
      have h9 := hc 0 (by simp)
      rw [cell_of_row _ _ _ _ _ _ hB] at h9
      exact hcs _ k h9
  · exact h.only ho hv
end Go.Proofs.Ytebgkfcglmjokaa
