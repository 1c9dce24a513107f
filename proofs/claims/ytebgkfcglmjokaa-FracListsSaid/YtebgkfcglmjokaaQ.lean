/- Rational numbers: what the operations of frac make of numerators and denominators. Plain arithmetic: no program. -/
import Derived.Test.YtebgkfcglmjokaaRc
namespace Go.Proofs.Ytebgkfcglmjokaa

/-- lowest terms -/
theorem mkRat_num {z : Int} {y : Nat} (hy : y ≠ 0) : (mkRat z y).num = z / (Nat.gcd z.natAbs y : Nat) := by
  rw [Rat.num_mkRat, if_neg hy, Nat.gcd_comm]
theorem mkRat_den {z : Int} {y : Nat} (hy : y ≠ 0) : (mkRat z y).den = y / Nat.gcd z.natAbs y := by
  rw [Rat.den_mkRat, if_neg hy, Nat.gcd_comm]
theorem gcd_dvd_int (z : Int) (y : Nat) : ((Nat.gcd z.natAbs y : Nat) : Int) ∣ z := Int.ofNat_dvd_left.2 (Nat.gcd_dvd_left _ _)
theorem mkRat_num_mul {z : Int} {y : Nat} (hy : y ≠ 0) : z = (mkRat z y).num * (Nat.gcd z.natAbs y : Nat) := by
  rw [mkRat_num hy]; exact (Int.ediv_mul_cancel (gcd_dvd_int z y)).symm

/-- The numerator of a sum before it is shrunk. -/
def sumNum (a b : Rat) : Int := a.num * ((b.den / Nat.gcd a.den b.den : Nat) : Int) + b.num * ((a.den / Nat.gcd a.den b.den : Nat) : Int)
def sumGcd (a b : Rat) : Nat := Nat.gcd (sumNum a b).natAbs (Nat.gcd a.den b.den)

theorem sum_gcd (a b : Rat) : sumGcd a b = Nat.gcd (sumNum a b).natAbs (a.den / Nat.gcd a.den b.den * b.den) :=
  Rat.add.aux a b (g := Nat.gcd a.den b.den) rfl rfl rfl

theorem sum_eq (a b : Rat) : a + b = mkRat (sumNum a b) (a.den / Nat.gcd a.den b.den * b.den) := by
  have hg : Nat.gcd a.den b.den ≠ 0 := Nat.gcd_ne_zero_left a.den_nz
  rw [Rat.add_def', ← Rat.mkRat_mul_right (n := sumNum a b) (d := a.den / Nat.gcd a.den b.den * b.den) hg]
  congr 1
  · unfold sumNum
    rw [Int.add_mul, Int.mul_assoc, Int.mul_assoc, Int.ofNat_mul_ofNat, Int.ofNat_mul_ofNat, Nat.div_mul_cancel (Nat.gcd_dvd_left ..), Nat.div_mul_cancel (Nat.gcd_dvd_right ..)]
  · rw [Nat.mul_right_comm, Nat.div_mul_cancel (Nat.gcd_dvd_left ..)]

theorem sum_den_pos (a b : Rat) : a.den / Nat.gcd a.den b.den * b.den ≠ 0 := by
  have h := Nat.div_gcd_pos_of_pos_left b.den a.den_pos
  exact Nat.ne_of_gt (Nat.mul_pos h b.den_pos)
theorem sum_num (a b : Rat) : sumNum a b = (a + b).num * (sumGcd a b : Nat) := by
  rw [sum_gcd, sum_eq]; exact mkRat_num_mul (sum_den_pos a b)
theorem sumGcd_dvd (a b : Rat) : sumGcd a b ∣ b.den := Nat.dvd_trans (Nat.gcd_dvd_right _ _) (Nat.gcd_dvd_right _ _)
theorem sum_den (a b : Rat) : (a + b).den = a.den / Nat.gcd a.den b.den * (b.den / sumGcd a b) := by
  have h := mkRat_den (z := sumNum a b) (sum_den_pos a b)
  rw [← sum_eq, ← sum_gcd] at h
  rw [h, Nat.mul_div_assoc _ (sumGcd_dvd a b)]

/-- Products. -/
theorem mul_num (a b : Rat) : (a * b).num = a.num / (Nat.gcd a.num.natAbs b.den : Nat) * (b.num / (Nat.gcd b.num.natAbs a.den : Nat)) := by
  show (Rat.mul a b).num = _
  delta Rat.mul
  dsimp only
  simp only [Int.divExact_eq_ediv]
theorem mul_den (a b : Rat) : (a * b).den = a.den / Nat.gcd b.num.natAbs a.den * (b.den / Nat.gcd a.num.natAbs b.den) := by
  show (Rat.mul a b).den = _
  delta Rat.mul
  dsimp only
  simp only [Nat.divExact_eq_div]

theorem neg_num' (a : Rat) : (-a).num = -a.num := rfl
theorem inv_num_natAbs (a : Rat) : (a⁻¹).num.natAbs = if a.num = 0 then 0 else a.den := by
  rw [Rat.num_inv, Int.natAbs_mul]
  by_cases h : a.num = 0
  · simp [h]
  · simp [h, Int.natAbs_sign_of_ne_zero h]
theorem inv_num_neg (a : Rat) : decide ((a⁻¹).num < 0) = decide (a.num < 0) := by
  rw [Rat.num_inv]
  have hd : (0 : Int) < a.den := by have := a.den_pos; omega
  apply decide_eq_decide.2
  rcases Int.lt_trichotomy a.num 0 with h | h | h
  · rw [Int.sign_eq_neg_one_of_neg h]; omega
  · rw [h]; simp
  · rw [Int.sign_eq_one_of_pos h]; omega

/-- Order. -/
def cmpQ (a b : Rat) : Int := if a < b then -1 else if a = b then 0 else 1
theorem sign_num (a : Rat) : a.num.sign = cmpQ a 0 := by
  unfold cmpQ
  have h0 : a < 0 ↔ a.num < 0 := by rw [Rat.lt_iff]; simp
  have h1 : a = 0 ↔ a.num = 0 := Rat.num_eq_zero.symm
  by_cases h : a.num < 0
  · rw [if_pos (h0.2 h), Int.sign_eq_neg_one_of_neg h]
  · rw [if_neg (fun e => h (h0.1 e))]
    by_cases h2 : a.num = 0
    · rw [if_pos (h1.2 h2), h2]; rfl
    · rw [if_neg (fun e => h2 (h1.1 e)), Int.sign_eq_one_of_pos (by omega)]

theorem cmpQ_swap (a b : Rat) : cmpQ b a = - cmpQ a b := by
  unfold cmpQ
  by_cases h : a < b
  · have : ¬ b < a := Rat.not_lt.2 (Rat.le_of_lt h)
    have h3 : b ≠ a := fun e => by subst e; exact Rat.lt_irrefl h
    simp [h, this, h3]
  · by_cases h2 : a = b
    · subst h2; simp [Rat.lt_irrefl]
    · have h3 : b < a := Rat.lt_of_le_of_ne (Rat.not_lt.1 h) (Ne.symm h2)
      simp [h, h2, h3]

theorem cmpQ_num (a b : Rat) : cmpQ a b = (a.num * b.den - b.num * a.den).sign := by
  unfold cmpQ
  by_cases h : a < b
  · rw [if_pos h, Int.sign_eq_neg_one_of_neg (by have := (Rat.lt_iff a b).1 h; omega)]
  · rw [if_neg h]
    by_cases h2 : a = b
    · subst h2; rw [if_pos rfl, Int.sub_self]; rfl
    · rw [if_neg h2, Int.sign_eq_one_of_pos]
      have h3 : b < a := Rat.lt_of_le_of_ne (Rat.not_lt.1 h) (Ne.symm h2)
      have := (Rat.lt_iff b a).1 h3
      omega
theorem cmp_signs (a b : Rat) (h : a.num.sign ≠ b.num.sign) : (if a.num.sign < b.num.sign then (-1 : Int) else 1) = cmpQ a b := by
  have ha : (0 : Int) < a.den := by have := a.den_pos; omega
  have hb : (0 : Int) < b.den := by have := b.den_pos; omega
  rw [cmpQ_num]
  have e1 : (a.num * b.den).sign = a.num.sign := by rw [Int.sign_mul, Int.sign_eq_one_of_pos hb, Int.mul_one]
  have e2 : (b.num * a.den).sign = b.num.sign := by rw [Int.sign_mul, Int.sign_eq_one_of_pos ha, Int.mul_one]
  rw [← e1, ← e2] at h ⊢
  generalize a.num * b.den = x at *
  generalize b.num * a.den = y at *
  rcases Int.lt_trichotomy x 0 with hx | hx | hx <;> rcases Int.lt_trichotomy y 0 with hy | hy | hy
  · rw [Int.sign_eq_neg_one_of_neg hx, Int.sign_eq_neg_one_of_neg hy] at h; exact absurd rfl h
  · subst hy; rw [Int.sign_eq_neg_one_of_neg (show x - 0 < 0 by omega), Int.sign_eq_neg_one_of_neg hx]; rfl
  · rw [Int.sign_eq_neg_one_of_neg (show x - y < 0 by omega), Int.sign_eq_neg_one_of_neg hx, Int.sign_eq_one_of_pos hy]; rfl
  · subst hx; rw [Int.sign_eq_one_of_pos (show 0 < 0 - y by omega), Int.sign_eq_neg_one_of_neg hy]; rfl
  · subst hx; subst hy; exact absurd rfl h
  · subst hx; rw [Int.sign_eq_neg_one_of_neg (show 0 - y < 0 by omega), Int.sign_eq_one_of_pos hy]; rfl
  · rw [Int.sign_eq_one_of_pos (show 0 < x - y by omega), Int.sign_eq_one_of_pos hx, Int.sign_eq_neg_one_of_neg hy]; rfl
  · subst hy; rw [Int.sign_eq_one_of_pos (show 0 < x - 0 by omega), Int.sign_eq_one_of_pos hx]; rfl
  · rw [Int.sign_eq_one_of_pos hx, Int.sign_eq_one_of_pos hy] at h; exact absurd rfl h
theorem cmp_sizes (a b : Rat) (h : a.num.sign = b.num.sign) : cmpN (a.num.natAbs * b.den) (b.num.natAbs * a.den) * a.num.sign = cmpQ a b := by
  rw [cmpQ_num]
  have ha : 0 < a.den := a.den_pos
  have hb : 0 < b.den := b.den_pos
  unfold cmpN
  rcases Int.lt_trichotomy a.num 0 with hx | hx | hx
  · rw [Int.sign_eq_neg_one_of_neg hx] at h ⊢
    have hy : b.num < 0 := by
      rcases Int.lt_trichotomy b.num 0 with hy | hy | hy
      · exact hy
      · rw [hy] at h; simp at h
      · rw [Int.sign_eq_one_of_pos hy] at h; simp at h
    obtain ⟨x, hx'⟩ : ∃ x : Nat, a.num = -(x : Int) := ⟨a.num.natAbs, by omega⟩
    obtain ⟨y, hy'⟩ : ∃ x : Nat, b.num = -(x : Int) := ⟨b.num.natAbs, by omega⟩
    rw [hx', hy', Int.natAbs_neg, Int.natAbs_neg, Int.natAbs_natCast, Int.natAbs_natCast, Int.neg_mul, Int.neg_mul, ← Int.natCast_mul, ← Int.natCast_mul]
    generalize x * b.den = p at *
    generalize y * a.den = q at *
    by_cases h1 : p < q
    · rw [if_pos h1, Int.sign_eq_one_of_pos (by omega)]; rfl
    · by_cases h2 : q < p
      · rw [if_neg h1, if_pos h2, Int.sign_eq_neg_one_of_neg (by omega)]; rfl
      · have h3 : p = q := by omega
        rw [if_neg h1, if_neg h2, h3]; simp
  · rw [hx] at h ⊢
    have hy : b.num = 0 := by
      rcases Int.lt_trichotomy b.num 0 with hy | hy | hy
      · rw [Int.sign_eq_neg_one_of_neg hy] at h; simp at h
      · exact hy
      · rw [Int.sign_eq_one_of_pos hy] at h; simp at h
    rw [hy]; simp
  · rw [Int.sign_eq_one_of_pos hx] at h ⊢
    have hy : 0 < b.num := by
      rcases Int.lt_trichotomy b.num 0 with hy | hy | hy
      · rw [Int.sign_eq_neg_one_of_neg hy] at h; simp at h
      · rw [hy] at h; simp at h
      · exact hy
    obtain ⟨x, hx'⟩ : ∃ x : Nat, a.num = (x : Int) := ⟨a.num.natAbs, by omega⟩
    obtain ⟨y, hy'⟩ : ∃ x : Nat, b.num = (x : Int) := ⟨b.num.natAbs, by omega⟩
    rw [hx', hy', Int.natAbs_natCast, Int.natAbs_natCast, ← Int.natCast_mul, ← Int.natCast_mul]
    generalize x * b.den = p at *
    generalize y * a.den = q at *
    by_cases h1 : p < q
    · rw [if_pos h1, Int.sign_eq_neg_one_of_neg (by omega)]; rfl
    · by_cases h2 : q < p
      · rw [if_neg h1, if_pos h2, Int.sign_eq_one_of_pos (by omega)]; rfl
      · have h3 : p = q := by omega
        rw [if_neg h1, if_neg h2, h3]; simp

/-- The floor, by the sizes. -/
def upN (a : Rat) : Nat := if a.num < 0 ∧ a.num.natAbs % a.den ≠ 0 then a.num.natAbs / a.den + 1 else a.num.natAbs / a.den
theorem floor_up (a : Rat) : (if decide (a.num < 0) = true then -(upN a : Int) else (upN a : Int)) = a.floor := by
  rw [Rat.floor_def]
  have hd : 0 < a.den := a.den_pos
  unfold upN
  generalize a.den = d at *
  by_cases h : a.num < 0
  · obtain ⟨x, hx'⟩ : ∃ x : Nat, a.num = -(x : Int) := ⟨a.num.natAbs, by omega⟩
    rw [hx'] at h ⊢
    simp only [h, decide_true, if_true, true_and, Int.natAbs_neg, Int.natAbs_natCast]
    have hm := Nat.mod_add_div x d
    have hr := Nat.mod_lt x hd
    generalize x / d = q at *
    generalize x % d = r at *
    have e : -(x : Int) = -(r : Int) + (d : Int) * (-(q : Int)) := by
      rw [← hm, Int.natCast_add, Int.natCast_mul, Int.neg_add, Int.mul_neg]
    by_cases h0 : r = 0
    · subst h0
      rw [if_neg (by simp), e, Int.add_mul_ediv_left _ _ (by omega)]; simp
    · rw [if_pos h0, e, Int.add_mul_ediv_left _ _ (by omega)]
      have e2 : -(r : Int) / (d : Int) = -1 := by
        rw [Int.ediv_eq_iff_of_pos (by omega)]; omega
      rw [e2]; omega
  · obtain ⟨x, hx'⟩ : ∃ x : Nat, a.num = (x : Int) := ⟨a.num.natAbs, by omega⟩
    rw [hx'] at h ⊢
    simp [h]

end Go.Proofs.Ytebgkfcglmjokaa
