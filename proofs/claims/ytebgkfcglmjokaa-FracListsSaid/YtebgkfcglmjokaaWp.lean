/- Finding a leap. -/
import Derived.Test.YtebgkfcglmjokaaWo
namespace Go.Proofs.Ytebgkfcglmjokaa
open Go.RowKit

/-- A leap that may be taken: its rests are of the numbers, in order, with their divisors. -/
def LeapOk (a b A1 B1 A2 B2 : Nat) (t : Bool) : Prop :=
  A1 < 4294967296 ∧ B1 < 4294967296 ∧ A2 < 4294967296 ∧ B2 < 4294967296 ∧ ∃ R1 R2 : Nat,
    (if t then B1 * b = A1 * a + R1 ∧ A2 * a = B2 * b + R2 else A1 * a = B1 * b + R1 ∧ B2 * b = A2 * a + R2) ∧ R2 ≤ R1 ∧ R1 ≤ b ∧ R2 < b ∧ Nat.gcd R1 R2 = Nat.gcd a b

def sgn (t : Bool) : Int := if t then 1 else -1

/-- One step on: the shares that were second and third are a leap that may be taken. -/
theorem leap_ok {a b X0 Y0 x y A2 B2 A3 B3 D a' b' : Nat} {t : Bool} (h : LeapInv a b X0 Y0 (sgn t) x y A2 B2 A3 B3) (ha : a = X0 * D + a') (hb : b = Y0 * D + b') (haD : a' < D) (hbD : b' < D) (hX : X0 < 18446744073709551616)
    (c1 : B3 ≤ y) (c2 : B2 + B3 ≤ x - y) (hB2 : B2 ≠ 0) : LeapOk a b A2 B2 A3 B3 (!t) := by
  have hxy : y ≤ x := by have := h.xy; omega
  have hg := leap_good (D := D) (a' := a') (b' := b') h (by rw [ha]; simp) (by rw [hb]; simp) (by omega) (by omega) (by omega) (by omega) (by omega) (by omega)
  have hs := leap_small h (by omega) (by omega)
  have hown := h.own (by omega)
  have hback := leap_back h
  have hm := h.mono
  have hl2 := h.le2 (by omega)
  have he : sgn t = 1 ∨ sgn t = -1 := h.he
  generalize hsg : sgn t = e at *
  obtain ⟨R2, hR2⟩ := Int.eq_ofNat_of_zero_le hg.1
  obtain ⟨R1, hR1⟩ := Int.eq_ofNat_of_zero_le (show 0 ≤ e * ((A2 : Int) * a - B2 * b) by omega)
  rw [hR1, hR2] at hback hg
  rw [hR1] at hown
  have hgcd := gcd_of_combos hR1.symm hR2.symm hback.1 hback.2
  refine ⟨by omega, by omega, by omega, by omega, R1, R2, ?_, by omega, by omega, by omega, hgcd⟩
  cases t with
  | true =>
    have h1 : e = 1 := by rw [← hsg]; rfl
    rw [h1, Int.one_mul] at hR1 hR2
    simp only [Bool.not_true, Bool.false_eq_true, if_false]
    exact ⟨Int.natCast_inj.1 (by push_cast; omega), Int.natCast_inj.1 (by push_cast; omega)⟩
  | false =>
    have h1 : e = -1 := by rw [← hsg]; rfl
    rw [h1] at hR1 hR2
    simp only [Bool.not_false, if_true]
    exact ⟨Int.natCast_inj.1 (by push_cast; omega), Int.natCast_inj.1 (by push_cast; omega)⟩

theorem sgn_not (t : Bool) : sgn (!t) = - sgn t := by cases t <;> rfl

/-- The shares one step on. -/
theorem leap_step {a b X0 Y0 x y A2 B2 A3 B3 D a' b' : Nat} {t : Bool} (h : LeapInv a b X0 Y0 (sgn t) x y A2 B2 A3 B3) (ha : a = X0 * D + a') (hb : b = Y0 * D + b') (haD : a' < D) (hbD : b' < D)
    (c1 : B3 ≤ y) (c2 : B2 + B3 ≤ x - y) : LeapInv a b X0 Y0 (sgn (!t)) y (remW x y : Nat) A3 B3 (A2 + quoW x y * A3 : Nat) (B2 + quoW x y * B3 : Nat) := by
  have hb3 := h.b3
  have hxy := h.xy
  have hg := leap_good (D := D) (a' := a') (b' := b') h (by rw [ha]; simp) (by rw [hb]; simp) (by omega) (by omega) (by omega) (by omega) (by omega) (by omega)
  have hy : 0 < y := by omega
  have hq : 1 ≤ x / y := (Nat.le_div_iff_mul_le hy).2 (by omega)
  have hdm := Nat.div_add_mod x y
  have hm := Nat.mod_lt x hy
  have hx : (x : Int) = ((quoW x y : Nat) : Int) * y + ((remW x y : Nat) : Int) := by
    unfold quoW remW
    rw [← Int.natCast_mul, ← Int.natCast_add, Nat.mul_comm, hdm]
  have hn := leap_next (q := (quoW x y : Nat)) (r := (remW x y : Nat)) h (by omega) hx (by omega) (by unfold remW; omega) (by unfold quoW; omega) hg.2
  rw [sgn_not]
  push_cast
  exact hn

theorem leap_init {a b X0 Y0 : Nat} (hab : Y0 ≤ X0) : LeapInv a b X0 Y0 (sgn true) X0 Y0 (1 : Nat) (0 : Nat) (0 : Nat) (1 : Nat) := by
  refine ⟨Or.inl rfl, by simp [sgn], by simp [sgn], by simp [sgn], by omega, by omega, by omega, by omega, by omega, by omega, by omega, by omega, by omega, by omega, by omega⟩

/-- Two numbers in order have heads in order. -/
theorem heads_le {a b X0 Y0 D a' b' : Nat} (ha : a = X0 * D + a') (hb : b = Y0 * D + b') (haD : a' < D) (hab : b ≤ a) : Y0 ≤ X0 := by
  apply Nat.le_of_lt_succ
  apply Nat.lt_of_mul_lt_mul_right (a := D)
  rw [Nat.succ_mul]
  omega

/-- What is added next stays below 2^64. -/
theorem leap_room {a b X0 Y0 x y A2 B2 A3 B3 : Nat} {t : Bool} (h : LeapInv a b X0 Y0 (sgn t) x y A2 B2 A3 B3) (hX : X0 < 18446744073709551616) (hy : 0 < y) (h' : LeapInv a b X0 Y0 (sgn (!t)) y (remW x y : Nat) A3 B3 (A2 + quoW x y * A3 : Nat) (B2 + quoW x y * B3 : Nat)) :
    B2 + quoW x y * B3 < 18446744073709551616 ∧ A2 + quoW x y * A3 < 18446744073709551616 := by
  have h1 := leap_next_small h' (by omega)
  have h2 := h'.le3
  have _ := h.b3
  omega
end Go.Proofs.Ytebgkfcglmjokaa
