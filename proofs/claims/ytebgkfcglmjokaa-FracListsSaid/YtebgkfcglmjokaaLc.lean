/- few, of the statements. -/
import Derived.Test.YtebgkfcglmjokaaLb
namespace Go.Proofs.Ytebgkfcglmjokaa
open Go.RowKit

/-- Have k fractions at most n words each? -/
def fewB (n k : Nat) (f g : Nat → Nat) : Bool := decide (∀ i, i < k → f i ≤ n ∧ g i ≤ n)

set_option maxHeartbeats 400000 in
theorem few_w {w : World} {n k cap : Nat} {a : Option Addr} {f g : Nat → Nat} (hk : k ≤ 1000)
    (hc : 0 < k → ∃ B off, a = some ⟨B, off, none⟩ ∧ ∀ i, i < k → ∃ a1 c1 a2 c2, w.cell? ⟨B, off + i * 3 + 1, none⟩ = some (.slice a1 (f i) c1) ∧ w.cell? ⟨B, off + i * 3 + 2, none⟩ = some (.slice a2 (g i) c2)) :
    Calls Try.prog 12 #[.int .i64 n, .slice a k cap] w fun e w' => e = .returned (.bool (fewB n k f g)) ∧ w = w' := by
  have HC := Lib.hid hc
  clear hc
  go_enter Try.func12, Try.ntmps12
  go_wp2_with fail
  go_loop [5] (fun i => ∃ j : Nat, j ≤ k ∧ i = .int .i64 j ∧ Hid (∀ x, x < j → f x ≤ n ∧ g x ≤ n)) (fun i => k - (intOf i).toNat)
  case atStart => exact ⟨0, Nat.zero_le _, rfl, Lib.hid (fun x h => absurd h (Nat.not_lt_zero x))⟩
  case round =>
    obtain ⟨j, hj, rfl, hd⟩ := hrel
    by_cases hjk : j < k
    · obtain ⟨B, off, rfl, hcell⟩ := HC.out (by omega)
      obtain ⟨a1, c1, a2, c2, e1, e2⟩ := hcell j hjk
      clear hcell
      have t0 : decide ((j : Int) < (k : Int)) = true := by simp; omega
      by_cases h1 : f j ≤ n
      · have t1 : decide (n < f j) = false := by simp; omega
        by_cases h2 : g j ≤ n
        · have t2 : decide (n < g j) = false := by simp; omega
          have HD : Hid (∀ x, x < j + 1 → f x ≤ n ∧ g x ≤ n) := Lib.hid (fun x h => by
            by_cases e : x = j
            · subst e; exact ⟨h1, h2⟩
            · exact hd.out x (by omega))
          clear h1 h2
          go_wp2_with fail
          go_round
          case rel => exact ⟨j + 1, by omega, by go_num, HD⟩
          case measure => simp [intOf]; omega
        · have t2 : decide (n < g j) = true := by simp; omega
          have HR : Hid (fewB n k f g = false) := Lib.hid (by unfold fewB; simp only [decide_eq_false_iff_not]; intro h; exact h2 (h j hjk).2)
          clear h1 h2
          go_wp2_with fail
          go_ret
          exact ⟨by rw [HR.out]; rfl, rfl⟩
      · have t1 : decide (n < f j) = true := by simp; omega
        have HR : Hid (fewB n k f g = false) := Lib.hid (by unfold fewB; simp only [decide_eq_false_iff_not]; intro h; exact h1 (h j hjk).1)
        clear h1
        go_wp2_with fail
        go_ret
        exact ⟨by rw [HR.out]; rfl, rfl⟩
    · have t0 : decide ((j : Int) < (k : Int)) = false := by simp; omega
      have HR : Hid (fewB n k f g = true) := Lib.hid (by
        unfold fewB
        simp only [decide_eq_true_eq]
        intro i hi
        exact hd.out i (by omega))
      go_wp2_with fail
      go_ret
      exact ⟨by rw [HR.out]; rfl, rfl⟩
end Go.Proofs.Ytebgkfcglmjokaa
