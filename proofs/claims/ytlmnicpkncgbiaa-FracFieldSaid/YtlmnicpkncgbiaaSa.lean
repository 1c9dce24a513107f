/- Decimal digits: arithmetic alone. -/
import Derived.Test.YtlmnicpkncgbiaaRn
namespace Go.Proofs.Ytlmnicpkncgbiaa

/-- So many decimal digits of x, the least first, as bytes. -/
def bw (x n : Nat) : List Nat := (List.range n).map (fun i => 48 + x / 10 ^ i % 10)
theorem bw_len (x n : Nat) : (bw x n).length = n := by simp [bw]
theorem bw_succ (x n : Nat) : bw x (n + 1) = bw x n ++ [48 + x / 10 ^ n % 10] := by simp [bw, List.range_succ]
theorem bw_get {x n i : Nat} (h : i < n) : nth (bw x n) i = 48 + x / 10 ^ i % 10 := by
  simp [nth, bw, List.getD_eq_getElem?_getD, h]
theorem bw_lt (x n : Nat) : ∀ c ∈ bw x n, c < 256 := by
  intro c hc
  simp only [bw, List.mem_map, List.mem_range] at hc
  obtain ⟨i, -, rfl⟩ := hc
  omega

/-- How many decimal digits. -/
def ndig (x : Nat) : Nat := if h : x = 0 then 0 else ndig (x / 10) + 1
termination_by x
decreasing_by omega
theorem ndig_zero : ndig 0 = 0 := by unfold ndig; simp
theorem ndig_pos {x : Nat} (h : x ≠ 0) : ndig x = ndig (x / 10) + 1 := by rw [ndig]; simp [h]
theorem ndig_le {x k : Nat} : ndig x ≤ k ↔ x < 10 ^ k := by
  induction k generalizing x with
  | zero =>
    by_cases h : x = 0
    · subst h; simp [ndig_zero]
    · simp [ndig_pos h]; omega
  | succ k ih =>
    by_cases h : x = 0
    · subst h; simp [ndig_zero]; exact Nat.pos_of_ne_zero (by simp)
    · rw [ndig_pos h, Nat.add_le_add_iff_right, ih, Nat.pow_succ]
      exact Nat.div_lt_iff_lt_mul (by omega)
/-- A number in decimal digits, as bytes. -/
def decS (x : Nat) : List Nat := if x = 0 then [48] else (bw x (ndig x)).reverse
theorem decS_lt (x : Nat) : ∀ c ∈ decS x, c < 256 := by
  intro c hc
  unfold decS at hc
  split at hc
  · simp at hc; omega
  · exact bw_lt _ _ c (List.mem_reverse.1 hc)
/-- The last digit of so many is a nought just if fewer do. -/
theorem bw_top {x n : Nat} (h : x < 10 ^ (n + 1)) : (48 + x / 10 ^ n % 10 = 48) ↔ x < 10 ^ n := by
  have h1 : x / 10 ^ n < 10 := (Nat.div_lt_iff_lt_mul (Nat.pow_pos (by omega))).2 (by rw [Nat.pow_succ, Nat.mul_comm] at h; exact h)
  rw [Nat.mod_eq_of_lt h1]
  constructor
  · intro h2
    have h3 : x / 10 ^ n = 0 := by omega
    rcases Nat.lt_or_ge x (10 ^ n) with h4 | h4
    · exact h4
    · exfalso
      have := Nat.div_pos h4 (Nat.pow_pos (by omega))
      omega
  · intro h2; rw [Nat.div_eq_of_lt h2]
/-- A digit out of a piece of nine. -/
theorem piece_digit {x y t j : Nat} (hy : y = x / 10 ^ j) (ht : t < 9) : y % 1000000000 / 10 ^ t % 10 = x / 10 ^ (j + t) % 10 := by
  subst hy
  rw [Nat.pow_add, ← Nat.div_div_eq_div_mul]
  generalize x / 10 ^ j = y
  have e : (1000000000 : Nat) = 10 ^ t * (10 * 10 ^ (8 - t)) := by
    rw [← Nat.pow_succ', ← Nat.pow_add, show t + (8 - t + 1) = 9 by omega]
  rw [e, Nat.mod_mul_right_div_self, Nat.mod_mul_right_mod]

end Go.Proofs.Ytlmnicpkncgbiaa
