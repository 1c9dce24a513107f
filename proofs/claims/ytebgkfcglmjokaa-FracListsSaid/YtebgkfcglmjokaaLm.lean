/- Several divisions of Euclid's algorithm at once (Lehmer), with the condition of Collins and Jebelean: plain arithmetic. -/
import Derived.Below
namespace Go.Proofs.Ytebgkfcglmjokaa

/-- Behind some divisions of the first bits X0, Y0 of a and b: x, y are the rests, (A2, B2), (A3, B3) their shares, e the sign. -/
structure LeapInv (a b X0 Y0 e x y A2 B2 A3 B3 : Int) : Prop where
  he : e = 1 ∨ e = -1
  hx : x = e * (A2 * X0 - B2 * Y0)
  hy : y = e * (B3 * Y0 - A3 * X0)
  det : A2 * B3 - A3 * B2 = e
  xy : y ≤ x
  y0 : 0 ≤ y
  a2 : 0 ≤ A2
  b2 : 0 ≤ B2
  a3 : 0 ≤ A3
  b3 : 1 ≤ B3
  le3 : A3 ≤ B3
  les : A2 + A3 ≤ B2 + B3
  own : 1 ≤ B2 → e * (A2 * a - B2 * b) ≤ b
  mono : B2 ≤ B3
  le2 : 1 ≤ B2 → A2 ≤ B2

theorem leap_good {a b X0 Y0 e x y A2 B2 A3 B3 D a' b' : Int} (h : LeapInv a b X0 Y0 e x y A2 B2 A3 B3) (ha : a = X0 * D + a') (hb : b = Y0 * D + b') (ha0 : 0 ≤ a') (hb0 : 0 ≤ b') (haD : a' < D) (hbD : b' < D)
    (c1 : B3 ≤ y) (c2 : B2 + B3 ≤ x - y) : 0 ≤ e * (B3 * b - A3 * a) ∧ e * (B3 * b - A3 * a) < e * (A2 * a - B2 * b) := by
  obtain ⟨he, hx, hy, det, xy, y0, a2, b2, a3, b3, le3, les, own, mono, le2⟩ := h
  have e3 : e * (B3 * b - A3 * a) = y * D + e * (B3 * b' - A3 * a') := by rw [ha, hb, hy]; grind
  have e2 : e * (A2 * a - B2 * b) = x * D + e * (A2 * a' - B2 * b') := by rw [ha, hb, hx]; grind
  have hD : 0 < D := by omega
  have p1 : 0 ≤ B3 * b' := Int.mul_nonneg (by omega) hb0
  have p2 : 0 ≤ A3 * a' := Int.mul_nonneg a3 ha0
  have p3 : B3 * b' ≤ B3 * D := Int.mul_le_mul_of_nonneg_left (by omega) (by omega)
  have p4 : A3 * a' ≤ A3 * D := Int.mul_le_mul_of_nonneg_left (by omega) a3
  have p5 : A3 * D ≤ B3 * D := Int.mul_le_mul_of_nonneg_right le3 (by omega)
  have p6 : B3 * D ≤ y * D := Int.mul_le_mul_of_nonneg_right c1 (by omega)
  have p7 : (B2 + B3) * D ≤ (x - y) * D := Int.mul_le_mul_of_nonneg_right c2 (by omega)
  have p8 : (B2 + B3) * b' ≤ (B2 + B3) * (D - 1) := Int.mul_le_mul_of_nonneg_left (by omega) (by omega)
  have p9 : (A2 + A3) * a' ≤ (A2 + A3) * (D - 1) := Int.mul_le_mul_of_nonneg_left (by omega) (by omega)
  have p10 : (A2 + A3) * (D - 1) ≤ (B2 + B3) * (D - 1) := Int.mul_le_mul_of_nonneg_right les (by omega)
  have p11 : 0 ≤ (A2 + A3) * a' := Int.mul_nonneg (by omega) ha0
  have p12 : 0 ≤ (B2 + B3) * b' := Int.mul_nonneg (by omega) hb0
  have p13 : (B2 + B3) * (D - 1) = (B2 + B3) * D - (B2 + B3) := by grind
  have p14 : (x - y) * D = x * D - y * D := by grind
  have p15 : (A2 + A3) * a' = A2 * a' + A3 * a' := by grind
  have p16 : (B2 + B3) * b' = B2 * b' + B3 * b' := by grind
  rw [e2, e3]
  rcases he with rfl | rfl
  · refine ⟨by omega, by omega⟩
  · refine ⟨by omega, by omega⟩

theorem leap_next {a b X0 Y0 e x y A2 B2 A3 B3 q r : Int} (h : LeapInv a b X0 Y0 e x y A2 B2 A3 B3) (ha : 0 ≤ a) (hq : x = q * y + r) (hr0 : 0 ≤ r) (hr : r < y) (hq1 : 1 ≤ q)
    (hgood : e * (B3 * b - A3 * a) < e * (A2 * a - B2 * b)) : LeapInv a b X0 Y0 (-e) y r A3 B3 (A2 + q * A3) (B2 + q * B3) := by
  obtain ⟨he, hx, hy, det, xy, y0, a2, b2, a3, b3, le3, les, own, mono, le2⟩ := h
  have q3 : A3 ≤ q * A3 := by
    have := Int.mul_le_mul_of_nonneg_right hq1 a3; omega
  have q4 : B3 ≤ q * B3 := by
    have := Int.mul_le_mul_of_nonneg_right hq1 (show 0 ≤ B3 by omega); omega
  have q5 : (q - 1) * A3 ≤ (q - 1) * B3 := Int.mul_le_mul_of_nonneg_left le3 (by omega)
  have q6 : (q - 1) * A3 = q * A3 - A3 := by grind
  have q7 : (q - 1) * B3 = q * B3 - B3 := by grind
  refine ⟨by omega, by rw [hy]; grind, ?_, ?_, by omega, hr0, a3, by omega, by omega, by omega, by omega, by omega, ?_, by omega, fun _ => le3⟩
  · have : r = x - q * y := by omega
    rw [this, hx, hy]; grind
  · grind
  · intro _
    have e1 : -e * (A3 * a - B3 * b) = e * (B3 * b - A3 * a) := by grind
    rw [e1]
    by_cases hB : 1 ≤ B2
    · have := own hB; omega
    · have hB0 : B2 = 0 := by omega
      subst hB0
      have hd : A2 * B3 = e := by grind
      have he1 : e = 1 := by
        rcases he with h | h
        · exact h
        · have : 0 ≤ A2 * B3 := Int.mul_nonneg a2 (by omega)
          omega
      subst he1
      have hB3 : B3 = 1 := by
        have hA2 : 1 ≤ A2 := by
          rcases Int.lt_or_le A2 1 with h | h
          · have : A2 = 0 := by omega
            subst this; omega
          · exact h
        have := Int.mul_le_mul_of_nonneg_right hA2 (show 0 ≤ B3 by omega)
        omega
      subst hB3
      have : 0 ≤ A3 * a := Int.mul_nonneg a3 ha
      omega

theorem leap_sum {a b X0 Y0 e x y A2 B2 A3 B3 : Int} (h : LeapInv a b X0 Y0 e x y A2 B2 A3 B3) : B3 * x + B2 * y = X0 := by
  obtain ⟨he, hx, hy, det, xy, y0, a2, b2, a3, b3, le3, les, own, mono, le2⟩ := h
  rw [hx, hy]
  have : e * e = 1 := by rcases he with rfl | rfl <;> rfl
  grind

theorem leap_back {a b X0 Y0 e x y A2 B2 A3 B3 : Int} (h : LeapInv a b X0 Y0 e x y A2 B2 A3 B3) :
    a = B3 * (e * (A2 * a - B2 * b)) + B2 * (e * (B3 * b - A3 * a)) ∧ b = A3 * (e * (A2 * a - B2 * b)) + A2 * (e * (B3 * b - A3 * a)) := by
  obtain ⟨he, hx, hy, det, xy, y0, a2, b2, a3, b3, le3, les, own, mono, le2⟩ := h
  have : e * e = 1 := by rcases he with rfl | rfl <;> rfl
  refine ⟨by grind, by grind⟩

/-- The multiples stay below 2^32 while the condition holds; the next ones below 2^64. -/
theorem leap_small {a b X0 Y0 e x y A2 B2 A3 B3 : Int} (h : LeapInv a b X0 Y0 e x y A2 B2 A3 B3) (hX : X0 < 18446744073709551616) (c1 : B3 ≤ y) : B3 < 4294967296 ∧ A3 < 4294967296 := by
  have hs := leap_sum h
  have h1 : B3 * B3 ≤ B3 * x := Int.mul_le_mul_of_nonneg_left (by have := h.xy; omega) (by have := h.b3; omega)
  have h2 : 0 ≤ B2 * y := Int.mul_nonneg h.b2 h.y0
  have h3 : B3 < 4294967296 := by
    rcases Int.lt_or_le B3 4294967296 with h4 | h4
    · exact h4
    · have h5 := Int.mul_le_mul h4 h4 (by omega) (by omega)
      omega
  exact ⟨h3, by have := h.le3; omega⟩
theorem leap_next_small {a b X0 Y0 e x y A2 B2 A3 B3 : Int} (h : LeapInv a b X0 Y0 e x y A2 B2 A3 B3) (hx : 1 ≤ x) : B3 ≤ X0 := by
  have hs := leap_sum h
  have h1 : B3 * 1 ≤ B3 * x := Int.mul_le_mul_of_nonneg_left hx (by have := h.b3; omega)
  have h2 : 0 ≤ B2 * y := Int.mul_nonneg h.b2 h.y0
  omega

theorem gcd_of_combos {a b r s : Nat} {A2 B2 A3 B3 e : Int} (hr : (r : Int) = e * (A2 * a - B2 * b)) (hs : (s : Int) = e * (B3 * b - A3 * a)) (ha : (a : Int) = B3 * r + B2 * s) (hb : (b : Int) = A3 * r + A2 * s) : Nat.gcd r s = Nat.gcd a b := by
  apply Nat.dvd_antisymm
  · apply Nat.dvd_gcd
    · have h1 : ((Nat.gcd r s : Nat) : Int) ∣ (a : Int) := by
        rw [ha]; exact Int.dvd_add (Int.dvd_mul_of_dvd_right (Int.natCast_dvd_natCast.2 (Nat.gcd_dvd_left r s))) (Int.dvd_mul_of_dvd_right (Int.natCast_dvd_natCast.2 (Nat.gcd_dvd_right r s)))
      exact Int.natCast_dvd_natCast.1 h1
    · have h1 : ((Nat.gcd r s : Nat) : Int) ∣ (b : Int) := by
        rw [hb]; exact Int.dvd_add (Int.dvd_mul_of_dvd_right (Int.natCast_dvd_natCast.2 (Nat.gcd_dvd_left r s))) (Int.dvd_mul_of_dvd_right (Int.natCast_dvd_natCast.2 (Nat.gcd_dvd_right r s)))
      exact Int.natCast_dvd_natCast.1 h1
  · have ga : ((Nat.gcd a b : Nat) : Int) ∣ (a : Int) := Int.natCast_dvd_natCast.2 (Nat.gcd_dvd_left a b)
    have gb : ((Nat.gcd a b : Nat) : Int) ∣ (b : Int) := Int.natCast_dvd_natCast.2 (Nat.gcd_dvd_right a b)
    apply Nat.dvd_gcd
    · have h1 : ((Nat.gcd a b : Nat) : Int) ∣ (r : Int) := by
        rw [hr]; exact Int.dvd_mul_of_dvd_right (Int.dvd_sub (Int.dvd_mul_of_dvd_right ga) (Int.dvd_mul_of_dvd_right gb))
      exact Int.natCast_dvd_natCast.1 h1
    · have h1 : ((Nat.gcd a b : Nat) : Int) ∣ (s : Int) := by
        rw [hs]; exact Int.dvd_mul_of_dvd_right (Int.dvd_sub (Int.dvd_mul_of_dvd_right gb) (Int.dvd_mul_of_dvd_right ga))
      exact Int.natCast_dvd_natCast.1 h1
end Go.Proofs.Ytebgkfcglmjokaa
