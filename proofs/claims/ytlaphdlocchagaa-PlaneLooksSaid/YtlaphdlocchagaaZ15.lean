/- Several texts in one: Q, Rd, Re. -/
import Derived.Test.YtlaphdlocchagaaZ14
/- Rational numbers: what the operations of frac make of numerators and denominators. Plain arithmetic: no program. -/
namespace Go.Proofs.Ytlaphdlocchagaa

/-- lowest terms -/
theorem mkRat_num {z : Int} {y : Nat} (hy : y ≠ 0) : (mkRat z y).num = z / (Nat.gcd z.natAbs y : Nat) := by
  rw [Rat.num_mkRat, if_neg hy, Nat.gcd_comm]
theorem mkRat_den {z : Int} {y : Nat} (hy : y ≠ 0) : (mkRat z y).den = y / Nat.gcd z.natAbs y := by
  rw [Rat.den_mkRat, if_neg hy, Nat.gcd_comm]
theorem gcd_dvd_int (z : Int) (y : Nat) : ((Nat.gcd z.natAbs y : Nat) : Int) ∣ z := Int.ofNat_dvd_left.2 (Nat.gcd_dvd_left _ _)
theorem mkRat_num_mul {z : Int} {y : Nat} (hy : y ≠ 0) : z = (mkRat z y).num * (Nat.gcd z.natAbs y : Nat) := by
  rw [mkRat_num hy]; exact (Int.ediv_mul_cancel (gcd_dvd_int z y)).symm

/-- The numerator of a sum before it is shrunk. -/
def sumNum (a b : Rat) : Int := a.num * ((b.den / Nat.gcd a.den b.den : Nat) : Int) + b.num * ((a.den / Nat.gcd a.den b.den : Nat) : Int)
def sumGcd (a b : Rat) : Nat := Nat.gcd (sumNum a b).natAbs (Nat.gcd a.den b.den)

theorem sum_gcd (a b : Rat) : sumGcd a b = Nat.gcd (sumNum a b).natAbs (a.den / Nat.gcd a.den b.den * b.den) :=
  Rat.add.aux a b (g := Nat.gcd a.den b.den) rfl rfl rfl

theorem sum_eq (a b : Rat) : a + b = mkRat (sumNum a b) (a.den / Nat.gcd a.den b.den * b.den) := by
  have hg : Nat.gcd a.den b.den ≠ 0 := Nat.gcd_ne_zero_left a.den_nz
  rw [Rat.add_def', ← Rat.mkRat_mul_right (n := sumNum a b) (d := a.den / Nat.gcd a.den b.den * b.den) hg]
  congr 1
  · unfold sumNum
    rw [Int.add_mul, Int.mul_assoc, Int.mul_assoc, Int.ofNat_mul_ofNat, Int.ofNat_mul_ofNat, Nat.div_mul_cancel (Nat.gcd_dvd_left ..), Nat.div_mul_cancel (Nat.gcd_dvd_right ..)]
  · rw [Nat.mul_right_comm, Nat.div_mul_cancel (Nat.gcd_dvd_left ..)]

theorem sum_den_pos (a b : Rat) : a.den / Nat.gcd a.den b.den * b.den ≠ 0 := by
  have h := Nat.div_gcd_pos_of_pos_left b.den a.den_pos
  exact Nat.ne_of_gt (Nat.mul_pos h b.den_pos)
theorem sum_num (a b : Rat) : sumNum a b = (a + b).num * (sumGcd a b : Nat) := by
  rw [sum_gcd, sum_eq]; exact mkRat_num_mul (sum_den_pos a b)
theorem sumGcd_dvd (a b : Rat) : sumGcd a b ∣ b.den := Nat.dvd_trans (Nat.gcd_dvd_right _ _) (Nat.gcd_dvd_right _ _)
theorem sum_den (a b : Rat) : (a + b).den = a.den / Nat.gcd a.den b.den * (b.den / sumGcd a b) := by
  have h := mkRat_den (z := sumNum a b) (sum_den_pos a b)
  rw [← sum_eq, ← sum_gcd] at h
  rw [h, Nat.mul_div_assoc _ (sumGcd_dvd a b)]

/-- Products. -/
theorem mul_num (a b : Rat) : (a * b).num = a.num / (Nat.gcd a.num.natAbs b.den : Nat) * (b.num / (Nat.gcd b.num.natAbs a.den : Nat)) := by
  show (Rat.mul a b).num = _
  delta Rat.mul
  dsimp only
  simp only [Int.divExact_eq_ediv]
theorem mul_den (a b : Rat) : (a * b).den = a.den / Nat.gcd b.num.natAbs a.den * (b.den / Nat.gcd a.num.natAbs b.den) := by
  show (Rat.mul a b).den = _
  delta Rat.mul
  dsimp only
  simp only [Nat.divExact_eq_div]

theorem neg_num' (a : Rat) : (-a).num = -a.num := rfl
theorem inv_num_natAbs (a : Rat) : (a⁻¹).num.natAbs = if a.num = 0 then 0 else a.den := by
  rw [Rat.num_inv, Int.natAbs_mul]
  by_cases h : a.num = 0
  · simp [h]
  · simp [h, Int.natAbs_sign_of_ne_zero h]
theorem inv_num_neg (a : Rat) : decide ((a⁻¹).num < 0) = decide (a.num < 0) := by
  rw [Rat.num_inv]
  have hd : (0 : Int) < a.den := by have := a.den_pos; omega
  apply decide_eq_decide.2
  rcases Int.lt_trichotomy a.num 0 with h | h | h
  · rw [Int.sign_eq_neg_one_of_neg h]; omega
  · rw [h]; simp
  · rw [Int.sign_eq_one_of_pos h]; omega

/-- Order. -/
def cmpQ (a b : Rat) : Int := if a < b then -1 else if a = b then 0 else 1
theorem sign_num (a : Rat) : a.num.sign = cmpQ a 0 := by
  unfold cmpQ
  have h0 : a < 0 ↔ a.num < 0 := by rw [Rat.lt_iff]; simp
  have h1 : a = 0 ↔ a.num = 0 := Rat.num_eq_zero.symm
  by_cases h : a.num < 0
  · rw [if_pos (h0.2 h), Int.sign_eq_neg_one_of_neg h]
  · rw [if_neg (fun e => h (h0.1 e))]
    by_cases h2 : a.num = 0
    · rw [if_pos (h1.2 h2), h2]; rfl
    · rw [if_neg (fun e => h2 (h1.1 e)), Int.sign_eq_one_of_pos (by omega)]

theorem cmpQ_swap (a b : Rat) : cmpQ b a = - cmpQ a b := by
  unfold cmpQ
  by_cases h : a < b
  · have : ¬ b < a := Rat.not_lt.2 (Rat.le_of_lt h)
    have h3 : b ≠ a := fun e => by subst e; exact Rat.lt_irrefl h
    simp [h, this, h3]
  · by_cases h2 : a = b
    · subst h2; simp [Rat.lt_irrefl]
    · have h3 : b < a := Rat.lt_of_le_of_ne (Rat.not_lt.1 h) (Ne.symm h2)
      simp [h, h2, h3]

theorem cmpQ_num (a b : Rat) : cmpQ a b = (a.num * b.den - b.num * a.den).sign := by
  unfold cmpQ
  by_cases h : a < b
  · rw [if_pos h, Int.sign_eq_neg_one_of_neg (by have := (Rat.lt_iff a b).1 h; omega)]
  · rw [if_neg h]
    by_cases h2 : a = b
    · subst h2; rw [if_pos rfl, Int.sub_self]; rfl
    · rw [if_neg h2, Int.sign_eq_one_of_pos]
      have h3 : b < a := Rat.lt_of_le_of_ne (Rat.not_lt.1 h) (Ne.symm h2)
      have := (Rat.lt_iff b a).1 h3
      omega
theorem cmp_signs (a b : Rat) (h : a.num.sign ≠ b.num.sign) : (if a.num.sign < b.num.sign then (-1 : Int) else 1) = cmpQ a b := by
  have ha : (0 : Int) < a.den := by have := a.den_pos; omega
  have hb : (0 : Int) < b.den := by have := b.den_pos; omega
  rw [cmpQ_num]
  have e1 : (a.num * b.den).sign = a.num.sign := by rw [Int.sign_mul, Int.sign_eq_one_of_pos hb, Int.mul_one]
  have e2 : (b.num * a.den).sign = b.num.sign := by rw [Int.sign_mul, Int.sign_eq_one_of_pos ha, Int.mul_one]
  rw [← e1, ← e2] at h ⊢
  generalize a.num * b.den = x at *
  generalize b.num * a.den = y at *
  rcases Int.lt_trichotomy x 0 with hx | hx | hx <;> rcases Int.lt_trichotomy y 0 with hy | hy | hy
  · rw [Int.sign_eq_neg_one_of_neg hx, Int.sign_eq_neg_one_of_neg hy] at h; exact absurd rfl h
  · subst hy; rw [Int.sign_eq_neg_one_of_neg (show x - 0 < 0 by omega), Int.sign_eq_neg_one_of_neg hx]; rfl
  · rw [Int.sign_eq_neg_one_of_neg (show x - y < 0 by omega), Int.sign_eq_neg_one_of_neg hx, Int.sign_eq_one_of_pos hy]; rfl
  · subst hx; rw [Int.sign_eq_one_of_pos (show 0 < 0 - y by omega), Int.sign_eq_neg_one_of_neg hy]; rfl
  · subst hx; subst hy; exact absurd rfl h
  · subst hx; rw [Int.sign_eq_neg_one_of_neg (show 0 - y < 0 by omega), Int.sign_eq_one_of_pos hy]; rfl
  · rw [Int.sign_eq_one_of_pos (show 0 < x - y by omega), Int.sign_eq_one_of_pos hx, Int.sign_eq_neg_one_of_neg hy]; rfl
  · subst hy; rw [Int.sign_eq_one_of_pos (show 0 < x - 0 by omega), Int.sign_eq_one_of_pos hx]; rfl
  · rw [Int.sign_eq_one_of_pos hx, Int.sign_eq_one_of_pos hy] at h; exact absurd rfl h
theorem cmp_sizes (a b : Rat) (h : a.num.sign = b.num.sign) : cmpN (a.num.natAbs * b.den) (b.num.natAbs * a.den) * a.num.sign = cmpQ a b := by
  rw [cmpQ_num]
  have ha : 0 < a.den := a.den_pos
  have hb : 0 < b.den := b.den_pos
  unfold cmpN
  rcases Int.lt_trichotomy a.num 0 with hx | hx | hx
  · rw [Int.sign_eq_neg_one_of_neg hx] at h ⊢
    have hy : b.num < 0 := by
      rcases Int.lt_trichotomy b.num 0 with hy | hy | hy
      · exact hy
      · rw [hy] at h; simp at h
      · rw [Int.sign_eq_one_of_pos hy] at h; simp at h
    obtain ⟨x, hx'⟩ : ∃ x : Nat, a.num = -(x : Int) := ⟨a.num.natAbs, by omega⟩
    obtain ⟨y, hy'⟩ : ∃ x : Nat, b.num = -(x : Int) := ⟨b.num.natAbs, by omega⟩
    rw [hx', hy', Int.natAbs_neg, Int.natAbs_neg, Int.natAbs_natCast, Int.natAbs_natCast, Int.neg_mul, Int.neg_mul, ← Int.natCast_mul, ← Int.natCast_mul]
    generalize x * b.den = p at *
    generalize y * a.den = q at *
    by_cases h1 : p < q
    · rw [if_pos h1, Int.sign_eq_one_of_pos (by omega)]; rfl
    · by_cases h2 : q < p
      · rw [if_neg h1, if_pos h2, Int.sign_eq_neg_one_of_neg (by omega)]; rfl
      · have h3 : p = q := by omega
        rw [if_neg h1, if_neg h2, h3]; simp
  · rw [hx] at h ⊢
    have hy : b.num = 0 := by
      rcases Int.lt_trichotomy b.num 0 with hy | hy | hy
      · rw [Int.sign_eq_neg_one_of_neg hy] at h; simp at h
      · exact hy
      · rw [Int.sign_eq_one_of_pos hy] at h; simp at h
    rw [hy]; simp
  · rw [Int.sign_eq_one_of_pos hx] at h ⊢
    have hy : 0 < b.num := by
      rcases Int.lt_trichotomy b.num 0 with hy | hy | hy
      · rw [Int.sign_eq_neg_one_of_neg hy] at h; simp at h
      · rw [hy] at h; simp at h
      · exact hy
    obtain ⟨x, hx'⟩ : ∃ x : Nat, a.num = (x : Int) := ⟨a.num.natAbs, by omega⟩
    obtain ⟨y, hy'⟩ : ∃ x : Nat, b.num = (x : Int) := ⟨b.num.natAbs, by omega⟩
    rw [hx', hy', Int.natAbs_natCast, Int.natAbs_natCast, ← Int.natCast_mul, ← Int.natCast_mul]
    generalize x * b.den = p at *
    generalize y * a.den = q at *
    by_cases h1 : p < q
    · rw [if_pos h1, Int.sign_eq_neg_one_of_neg (by omega)]; rfl
    · by_cases h2 : q < p
      · rw [if_neg h1, if_pos h2, Int.sign_eq_one_of_pos (by omega)]; rfl
      · have h3 : p = q := by omega
        rw [if_neg h1, if_neg h2, h3]; simp

/-- The floor, by the sizes. -/
def upN (a : Rat) : Nat := if a.num < 0 ∧ a.num.natAbs % a.den ≠ 0 then a.num.natAbs / a.den + 1 else a.num.natAbs / a.den
theorem floor_up (a : Rat) : (if decide (a.num < 0) = true then -(upN a : Int) else (upN a : Int)) = a.floor := by
  rw [Rat.floor_def]
  have hd : 0 < a.den := a.den_pos
  unfold upN
  generalize a.den = d at *
  by_cases h : a.num < 0
  · obtain ⟨x, hx'⟩ : ∃ x : Nat, a.num = -(x : Int) := ⟨a.num.natAbs, by omega⟩
    rw [hx'] at h ⊢
    simp only [h, decide_true, if_true, true_and, Int.natAbs_neg, Int.natAbs_natCast]
    have hm := Nat.mod_add_div x d
    have hr := Nat.mod_lt x hd
    generalize x / d = q at *
    generalize x % d = r at *
    have e : -(x : Int) = -(r : Int) + (d : Int) * (-(q : Int)) := by
      rw [← hm, Int.natCast_add, Int.natCast_mul, Int.neg_add, Int.mul_neg]
    by_cases h0 : r = 0
    · subst h0
      rw [if_neg (by simp), e, Int.add_mul_ediv_left _ _ (by omega)]; simp
    · rw [if_pos h0, e, Int.add_mul_ediv_left _ _ (by omega)]
      have e2 : -(r : Int) / (d : Int) = -1 := by
        rw [Int.ediv_eq_iff_of_pos (by omega)]; omega
      rw [e2]; omega
  · obtain ⟨x, hx'⟩ : ∃ x : Nat, a.num = (x : Int) := ⟨a.num.natAbs, by omega⟩
    rw [hx'] at h ⊢
    simp [h]

end Go.Proofs.Ytlaphdlocchagaa

/- Ratios: lowest terms. -/
namespace Go.Proofs.Ytlaphdlocchagaa
open Go.RowKit

/-- The value v is the ratio q in lowest terms. -/
def RatQ (w : World) (v : Value) (q : Rat) : Prop := RatV w v q.num q.den
theorem RatQ.below {w w' : World} {v : Value} {q : Rat} (h : RatQ w v q) (hb : Below w.heap.size w w') : RatQ w' v q := RatV.below h hb

/-- A block with a ratio in it holds no words. -/
theorem rat_cells {u d : Value} {b : Bool} (hu : ∃ a n c, u = .slice a n c) (hd : ∃ a n c, d = .slice a n c) : ∀ (j k : Nat), (#[u, .bool b, d] : Array Value)[j]? ≠ some (U k) := by
  obtain ⟨a, n, c, rfl⟩ := hu
  obtain ⟨a', n', c', rfl⟩ := hd
  intro j k h
  match j, h with
  | 0, h => simp [U] at h
  | 1, h => simp [U] at h
  | 2, h => simp [U] at h
  | (j + 3), h => simp at h

theorem zero_rat_cells : ∀ (j k : Nat), (#[Value.slice none 0 0, Value.bool false, Value.slice none 0 0] : Array Value)[j]? ≠ some (U k) := rat_cells ⟨_, _, _, rfl⟩ ⟨_, _, _, rfl⟩

/-- The result's block, filled. -/
def rat3 (w : World) (R : Nat) (u : Value) (b : Bool) (d : Value) : World := ((w.setCell ⟨R, 0, none⟩ u).setCell ⟨R, 1, none⟩ (.bool b)).setCell ⟨R, 2, none⟩ d
theorem rat3_only (w : World) (R : Nat) (u : Value) (b : Bool) (d : Value) : Only R w (rat3 w R u b d) := (((Only.refl R w).setCell 0 u).setCell 1 (.bool b)).setCell 2 d
theorem rat3_heap {w : World} {R : Nat} {u d : Value} {b : Bool} {t : TypeId} (hR : w.heap[R]? = some (.cells #[Value.slice none 0 0, Value.bool false, Value.slice none 0 0] t (0, 0))) :
    (rat3 w R u b d).heap[R]? = some (.cells #[u, .bool b, d] t (0, 0)) :=
  heap_setCell_same _ _ 2 _ _ _ (heap_setCell_same _ _ 1 _ _ _ (heap_setCell_same _ _ 0 _ _ _ hR))
theorem rat3_q {w : World} {R : Nat} {u d : Value} {t : TypeId} {q : Rat} (hR : w.heap[R]? = some (.cells #[Value.slice none 0 0, Value.bool false, Value.slice none 0 0] t (0, 0)))
    (hu : IsW w u (digs q.num.natAbs)) (hd : IsW w d (digs q.den)) : RatQ (rat3 w R u (decide (q.num < 0)) d) (.agg #[u, .bool (decide (q.num < 0)), d]) q :=
  ⟨u, d, rfl, hu.other hR zero_rat_cells (rat3_only _ _ _ _ _), hd.other hR zero_rat_cells (rat3_only _ _ _ _ _)⟩

end Go.Proofs.Ytlaphdlocchagaa

/- Ratios told as fractions. -/
namespace Go.Proofs.Ytlaphdlocchagaa
open Go.RowKit

theorem ifrac : (Try.prog.info? 34).map (·.size) = some 3 := by kernel_rfl

/-- The value v is the fraction q, as it is written. -/
def FracV (w : World) (v : Value) (q : Rat) : Prop := ∃ u d, v = .agg #[.bool (decide (q.num < 0)), u, d] ∧ IsW w u (digs q.num.natAbs) ∧ IsW w d (digs q.den)
theorem FracV.below {w w' : World} {v : Value} {q : Rat} (h : FracV w v q) (hb : Below w.heap.size w w') : FracV w' v q := by
  obtain ⟨n, d, rfl, hn, hd⟩ := h
  exact ⟨n, d, rfl, hn.below hb, hd.below hb⟩
/-- How many words a fraction takes. -/
def lenQ (q : Rat) : Nat := (digs q.num.natAbs).length + (digs q.den).length
/-- What is told of a number: 0 where it is too long. -/
def cutR (q : Rat) : Rat := if lenQ q ≤ 4096 then q else 0
/-- The words of a fraction lie in memory that w does not know. -/
def NewF (w : World) (v : Value) : Prop := ∃ (b : Bool) (u d : Value), v = .agg #[.bool b, u, d] ∧ (∀ x, u.ownBlock = some x → w.heap.size ≤ x) ∧ (∀ x, d.ownBlock = some x → w.heap.size ≤ x)

theorem zero_frac_cells : ∀ (j k : Nat), (#[Value.bool false, Value.slice none 0 0, Value.slice none 0 0] : Array Value)[j]? ≠ some (U k) := by
  intro j k h
  match j, h with
  | 0, h => simp [U] at h
  | 1, h => simp [U] at h
  | 2, h => simp [U] at h
  | (j + 3), h => simp at h
/-- The result's block, filled. -/
def frac3 (w : World) (R : Nat) (b : Bool) (u d : Value) : World := ((w.setCell ⟨R, 0, none⟩ (.bool b)).setCell ⟨R, 1, none⟩ u).setCell ⟨R, 2, none⟩ d
theorem frac3_only (w : World) (R : Nat) (b : Bool) (u d : Value) : Only R w (frac3 w R b u d) := (((Only.refl R w).setCell 0 (.bool b)).setCell 1 u).setCell 2 d
theorem frac3_heap {w : World} {R : Nat} {u d : Value} {b : Bool} {t : TypeId} (hR : w.heap[R]? = some (.cells #[Value.bool false, Value.slice none 0 0, Value.slice none 0 0] t (0, 0))) :
    (frac3 w R b u d).heap[R]? = some (.cells #[.bool b, u, d] t (0, 0)) :=
  heap_setCell_same _ _ 2 _ _ _ (heap_setCell_same _ _ 1 _ _ _ (heap_setCell_same _ _ 0 _ _ _ hR))
theorem frac3_q {w : World} {R : Nat} {u d : Value} {t : TypeId} {q : Rat} (hR : w.heap[R]? = some (.cells #[Value.bool false, Value.slice none 0 0, Value.slice none 0 0] t (0, 0)))
    (hu : IsW w u (digs q.num.natAbs)) (hd : IsW w d (digs q.den)) : FracV (frac3 w R (decide (q.num < 0)) u d) (.agg #[.bool (decide (q.num < 0)), u, d]) q :=
  ⟨u, d, rfl, hu.other hR zero_frac_cells (frac3_only _ _ _ _ _), hd.other hR zero_frac_cells (frac3_only _ _ _ _ _)⟩

def fitB (q : Rat) : Bool := decide (lenQ q ≤ 4096)
theorem fits_q {w : World} {v : Value} {q : Rat} (hv : RatQ w v q) (hl : lenQ q < 1073741824) :
    Calls Try.prog 42 #[v] w fun e w' => e = .returned (.bool (fitB q)) ∧ Below w.heap.size w w' :=
  fits_w hv (by unfold lenQ at hl; omega) (by unfold lenQ at hl; omega)

set_option maxHeartbeats 1000000 in
theorem tell_w {w : World} {v : Value} {q : Rat} (hv : RatQ w v q) (hl : lenQ q < 1073741824) :
    Calls Try.prog 29 #[v] w fun e w' => (∃ r, e = .returned r ∧ FracV w' r (cutR q) ∧ NewF w r) ∧ Below w.heap.size w w' := by
  obtain ⟨u, d, rfl, hu, hd⟩ := hv
  obtain ⟨ua, un, uc, hue⟩ := hu.form
  subst hue
  obtain ⟨da, dn, dc, hde⟩ := hd.form
  subst hde
  have HU := Lib.hid hu
  have HD := Lib.hid hd
  have HL := Lib.hid hl
  clear hu hd hl
  have HB0 : Hid (∀ o p, Below w.heap.size w ((w.alloc o).alloc p)) := Lib.hid (fun o p => ((Below.refl _ _).alloc (Nat.le_refl _) o).alloc (by simp) p)
  by_cases hf : lenQ q ≤ 4096
  · have hfb : fitB q = true := by simp [fitB, hf]
    have HC : Hid (cutR q = q) := Lib.hid (by unfold cutR; rw [if_pos hf])
    clear hf
    go_enter Try.func29, Try.ntmps29
    go_wp2_with fail
    refine (fits_q (q := q) ⟨_, _, rfl, HU.out.below (HB0.out _ _), HD.out.below (HB0.out _ _)⟩ HL.out).mono ?_
    rintro en w1 ⟨rfl, hbel1⟩
    have HB1 := Lib.hid (below_trans (HB0.out _ _) hbel1)
    have hb1 : w1.heap[w.heap.size]? = some (.cells #[Value.slice ua un uc, Value.bool (decide (q.num < 0)), Value.slice da dn dc] 62 (0, 0)) := (hbel1.block _ (by simp; omega)).trans (heap_alloc2_old w _ _)
    have hb2 : w1.heap[w.heap.size + 1]? = some (.cells #[Value.bool false, Value.slice none 0 0, Value.slice none 0 0] 34 (0, 0)) := (hbel1.block _ (by simp)).trans (heap_alloc2_new w _ _)
    have c0 : w1.cell? ⟨w.heap.size, 0, none⟩ = some (Value.slice ua un uc) := by rw [cell_of_row _ _ _ _ _ _ hb1]; rfl
    have c1 : w1.cell? ⟨w.heap.size, 1, none⟩ = some (Value.bool (decide (q.num < 0))) := by rw [cell_of_row _ _ _ _ _ _ hb1]; rfl
    have c2 : w1.cell? ⟨w.heap.size, 2, none⟩ = some (Value.slice da dn dc) := by rw [cell_of_row _ _ _ _ _ _ hb1]; rfl
    have HB2 := Lib.hid hb2
    have HBX := Lib.hid hb1
    clear hb1 hb2 hbel1
    go_wp2_with fail
    have R0 : Hid (∀ o v, (#[Value.bool false, Value.slice none 0 0, Value.slice none 0 0] : Array Value)[o]? = some v → w1.drew.cell? ⟨w.heap.size + 1, o, none⟩ = some v ∧ w1.drew.frozen? ⟨w.heap.size + 1, o, none⟩ = false) :=
      Lib.hid (fun o v h => ⟨by rw [World.cell?_drew, cell_of_row _ _ _ _ _ _ HB2.out]; exact h, by rw [World.frozen?_drew, frozen_of_row _ _ _ _ _ HB2.out]⟩)
    go_region_held3 (fun w' => w'.cell? ⟨w.heap.size, 0, none⟩ = some (.slice ua un uc) ∧ w'.cell? ⟨w.heap.size, 1, none⟩ = some (.bool (decide (q.num < 0))) ∧ w'.cell? ⟨w.heap.size, 2, none⟩ = some (.slice da dn dc))
      (((try dsimp only); refine ⟨?_, ?_, ?_⟩ <;> (first | (refine cell_below ‹Below _ _ _› ?_; first | assumption | (simp [*]; done)) | go_keep)))
      (first | (go_at_call_of 44 (Value.slice ua un uc); refine (clone_w (HU.out.below HB1.out).drew).mono ?_; rintro en w4 ⟨⟨r, rfl, hr, hro⟩, hbel4⟩; obtain ⟨ra, rn, rc, hre⟩ := hr.form; subst hre) | (go_at_call 44; refine (clone_w ((HD.out.below HB1.out).drew.below hbel4)).mono ?_; rintro en w5 ⟨⟨t, rfl, ht, hto⟩, hbel5⟩; obtain ⟨ta, tn, tc, hte⟩ := ht.form; subst hte; have r0 := cell_below hbel5 (cell_below hbel4 (R0.out 0 _ rfl).1); have r1 := cell_below hbel5 (cell_below hbel4 (R0.out 1 _ rfl).1); have r2 := cell_below hbel5 (cell_below hbel4 (R0.out 2 _ rfl).1); have f0 := frozen_below hbel5 (by rw [cell_below hbel4 (R0.out 0 _ rfl).1]; rfl) (frozen_below hbel4 (by rw [(R0.out 0 _ rfl).1]; rfl) (R0.out 0 _ rfl).2); have f1 := frozen_below hbel5 (by rw [cell_below hbel4 (R0.out 1 _ rfl).1]; rfl) (frozen_below hbel4 (by rw [(R0.out 1 _ rfl).1]; rfl) (R0.out 1 _ rfl).2); have f2 := frozen_below hbel5 (by rw [cell_below hbel4 (R0.out 2 _ rfl).1]; rfl) (frozen_below hbel4 (by rw [(R0.out 2 _ rfl).1]; rfl) (R0.out 2 _ rfl).2)))
    have hR5 : w5.heap[w.heap.size + 1]? = some (.cells #[Value.bool false, Value.slice none 0 0, Value.slice none 0 0] 34 (0, 0)) :=
      (hbel5.block _ (by have h8 : w1.heap.size ≤ w4.heap.size := hbel4.size; have := lt_of_block HB2.out; omega)).trans ((hbel4.block _ (lt_of_block HB2.out)).trans HB2.out)
    have HR5 := Lib.hid hR5
    have HBW := Lib.hid (below_trans (below_trans HB1.out (below_undrew hbel4)) hbel5)
    have HNU := Lib.hid (hr.below hbel5)
    have HND := Lib.hid ht
    have HN1 : Hid (∀ x, (Value.slice ra rn rc).ownBlock = some x → w.heap.size ≤ x) := Lib.hid (fun x e => by have h9 := hro x e; have h8 := HB1.out.size; have h7 : w1.drew.heap.size = w1.heap.size := rfl; omega)
    have HN2 : Hid (∀ x, (Value.slice ta tn tc).ownBlock = some x → w.heap.size ≤ x) := Lib.hid (fun x e => by have h9 := hto x e; have h8 := HB1.out.size; have h6 : w1.heap.size ≤ w4.heap.size := hbel4.size; omega)
    clear hR5 r0 r1 r2 f0 f1 f2 hro hto hr ht hbel4 hbel5
    go_wp2_with fail
    exact bodyPost_ret (results_cell_row rfl _ _ (w.heap.size + 1) _ _ _ _ rfl (frac3_heap HR5.out) Try.underlying34 rfl ifrac) rfl ⟨⟨_, rfl, by rw [HC.out]; exact frac3_q HR5.out HNU.out HND.out, ⟨_, _, _, rfl, HN1.out, HN2.out⟩⟩, below_only HBW.out (frac3_only _ _ _ _ _) (by omega)⟩
  · have hfb : fitB q = false := by simp [fitB, hf]
    have HC : Hid (cutR q = 0) := Lib.hid (by unfold cutR; rw [if_neg hf])
    clear hf
    go_enter Try.func29, Try.ntmps29
    go_wp2_with fail
    refine (fits_q (q := q) ⟨_, _, rfl, HU.out.below (HB0.out _ _), HD.out.below (HB0.out _ _)⟩ HL.out).mono ?_
    rintro en wa ⟨rfl, hbela⟩
    have HBa := Lib.hid (below_trans (HB0.out _ _) hbela)
    have HXa : Hid (wa.heap[w.heap.size]? = some (.cells #[Value.slice ua un uc, Value.bool (decide (q.num < 0)), Value.slice da dn dc] 62 (0, 0))) := Lib.hid ((hbela.block _ (by simp; omega)).trans (heap_alloc2_old w _ _))
    have HRa : Hid (wa.heap[w.heap.size + 1]? = some (.cells #[Value.bool false, Value.slice none 0 0, Value.slice none 0 0] 34 (0, 0))) := Lib.hid ((hbela.block _ (by simp)).trans (heap_alloc2_new w _ _))
    clear hbela
    go_wp2_with fail
    refine zero_w.mono ?_
    rintro en wb ⟨⟨zv, rfl, zu, zd, rfl, hzu, hzd⟩, hbelb⟩
    obtain ⟨za, zn, zc, hze⟩ := hzu.form
    subst hze
    obtain ⟨ya, yn, yc, hye⟩ := hzd.form
    subst hye
    have hXb := (hbelb.block _ (lt_of_block HXa.out)).trans HXa.out
    have HRb := Lib.hid ((hbelb.block _ (lt_of_block HRa.out)).trans HRa.out)
    have HBb := Lib.hid (below_trans HBa.out hbelb)
    have HZU := Lib.hid hzu
    have HZD := Lib.hid hzd
    have r0 : wb.cell? ⟨w.heap.size, 0, none⟩ = some (Value.slice ua un uc) := by rw [cell_of_row _ _ _ _ _ _ hXb]; rfl
    have r1 : wb.cell? ⟨w.heap.size, 1, none⟩ = some (Value.bool (decide (q.num < 0))) := by rw [cell_of_row _ _ _ _ _ _ hXb]; rfl
    have r2 : wb.cell? ⟨w.heap.size, 2, none⟩ = some (Value.slice da dn dc) := by rw [cell_of_row _ _ _ _ _ _ hXb]; rfl
    have f0 := frozen_of_row _ _ 0 _ _ hXb
    have f1 := frozen_of_row _ _ 1 _ _ hXb
    have f2 := frozen_of_row _ _ 2 _ _ hXb
    have HXb := Lib.hid hXb
    clear hXb hzu hzd hbelb
    go_wp2_with fail
    obtain ⟨w1, hw1⟩ : ∃ w1, w1 = rat3 wb w.heap.size (Value.slice za zn zc) false (Value.slice ya yn yc) := ⟨_, rfl⟩
    have hw2 : (((wb.setCell ⟨w.heap.size, 0, none⟩ (Value.slice za zn zc)).setCell ⟨w.heap.size, 1, none⟩ (Value.bool false)).setCell ⟨w.heap.size, 2, none⟩ (Value.slice ya yn yc)) = w1 := hw1.symm
    rw [hw2]
    have hon1 : Only w.heap.size wb w1 := by rw [hw1]; exact rat3_only _ _ _ _ _
    have HB1 := Lib.hid (below_only HBb.out hon1 (Nat.le_refl _))
    have HB2 : Hid (w1.heap[w.heap.size + 1]? = some (.cells #[Value.bool false, Value.slice none 0 0, Value.slice none 0 0] 34 (0, 0))) := Lib.hid ((hon1.block _ (by omega)).trans HRb.out)
    have hb1 : w1.heap[w.heap.size]? = some (.cells #[Value.slice za zn zc, Value.bool false, Value.slice ya yn yc] 62 (0, 0)) := by
      rw [hw1]; exact heap_setCell_same _ _ 2 _ _ _ (heap_setCell_same _ _ 1 _ _ _ (heap_setCell_same _ _ 0 _ _ _ HXb.out))
    have c0 : w1.cell? ⟨w.heap.size, 0, none⟩ = some (Value.slice za zn zc) := by rw [cell_of_row _ _ _ _ _ _ hb1]; rfl
    have c1 : w1.cell? ⟨w.heap.size, 1, none⟩ = some (Value.bool false) := by rw [cell_of_row _ _ _ _ _ _ hb1]; rfl
    have c2 : w1.cell? ⟨w.heap.size, 2, none⟩ = some (Value.slice ya yn yc) := by rw [cell_of_row _ _ _ _ _ _ hb1]; rfl
    have HZ1 := Lib.hid (HZU.out.other HXb.out (rat_cells ⟨_, _, _, rfl⟩ ⟨_, _, _, rfl⟩) hon1)
    have HD1 := Lib.hid (HZD.out.other HXb.out (rat_cells ⟨_, _, _, rfl⟩ ⟨_, _, _, rfl⟩) hon1)
    clear hw1 hw2 hon1 hb1 r0 r1 r2 f0 f1 f2
    have R0 : Hid (∀ o v, (#[Value.bool false, Value.slice none 0 0, Value.slice none 0 0] : Array Value)[o]? = some v → w1.drew.cell? ⟨w.heap.size + 1, o, none⟩ = some v ∧ w1.drew.frozen? ⟨w.heap.size + 1, o, none⟩ = false) :=
      Lib.hid (fun o v h => ⟨by rw [World.cell?_drew, cell_of_row _ _ _ _ _ _ HB2.out]; exact h, by rw [World.frozen?_drew, frozen_of_row _ _ _ _ _ HB2.out]⟩)
    go_region_held3 (fun w' => w'.cell? ⟨w.heap.size, 0, none⟩ = some (.slice za zn zc) ∧ w'.cell? ⟨w.heap.size, 1, none⟩ = some (.bool false) ∧ w'.cell? ⟨w.heap.size, 2, none⟩ = some (.slice ya yn yc))
      (((try dsimp only); refine ⟨?_, ?_, ?_⟩ <;> (first | (refine cell_below ‹Below _ _ _› ?_; first | assumption | (simp [*]; done)) | go_keep)))
      (first | (go_at_call_of 44 (Value.slice za zn zc); refine (clone_w HZ1.out.drew).mono ?_; rintro en w4 ⟨⟨r, rfl, hr, hro⟩, hbel4⟩; obtain ⟨ra, rn, rc, hre⟩ := hr.form; subst hre) | (go_at_call 44; refine (clone_w (HD1.out.drew.below hbel4)).mono ?_; rintro en w5 ⟨⟨t, rfl, ht, hto⟩, hbel5⟩; obtain ⟨ta, tn, tc, hte⟩ := ht.form; subst hte; have r0 := cell_below hbel5 (cell_below hbel4 (R0.out 0 _ rfl).1); have r1 := cell_below hbel5 (cell_below hbel4 (R0.out 1 _ rfl).1); have r2 := cell_below hbel5 (cell_below hbel4 (R0.out 2 _ rfl).1); have f0 := frozen_below hbel5 (by rw [cell_below hbel4 (R0.out 0 _ rfl).1]; rfl) (frozen_below hbel4 (by rw [(R0.out 0 _ rfl).1]; rfl) (R0.out 0 _ rfl).2); have f1 := frozen_below hbel5 (by rw [cell_below hbel4 (R0.out 1 _ rfl).1]; rfl) (frozen_below hbel4 (by rw [(R0.out 1 _ rfl).1]; rfl) (R0.out 1 _ rfl).2); have f2 := frozen_below hbel5 (by rw [cell_below hbel4 (R0.out 2 _ rfl).1]; rfl) (frozen_below hbel4 (by rw [(R0.out 2 _ rfl).1]; rfl) (R0.out 2 _ rfl).2)))
    have hR5 : w5.heap[w.heap.size + 1]? = some (.cells #[Value.bool false, Value.slice none 0 0, Value.slice none 0 0] 34 (0, 0)) :=
      (hbel5.block _ (by have h8 : w1.heap.size ≤ w4.heap.size := hbel4.size; have := lt_of_block HB2.out; omega)).trans ((hbel4.block _ (lt_of_block HB2.out)).trans HB2.out)
    have HR5 := Lib.hid hR5
    have HBW := Lib.hid (below_trans (below_trans HB1.out (below_undrew hbel4)) hbel5)
    have HNU := Lib.hid (hr.below hbel5)
    have HND := Lib.hid ht
    have HN1 : Hid (∀ x, (Value.slice ra rn rc).ownBlock = some x → w.heap.size ≤ x) := Lib.hid (fun x e => by have h9 := hro x e; have h8 := HB1.out.size; have h7 : w1.drew.heap.size = w1.heap.size := rfl; omega)
    have HN2 : Hid (∀ x, (Value.slice ta tn tc).ownBlock = some x → w.heap.size ≤ x) := Lib.hid (fun x e => by have h9 := hto x e; have h8 := HB1.out.size; have h6 : w1.heap.size ≤ w4.heap.size := hbel4.size; omega)
    clear hR5 r0 r1 r2 f0 f1 f2 hro hto hr ht hbel4 hbel5
    go_wp2_with fail
    exact bodyPost_ret (results_cell_row rfl _ _ (w.heap.size + 1) _ _ _ _ rfl (frac3_heap HR5.out) Try.underlying34 rfl ifrac) rfl ⟨⟨_, rfl, by rw [HC.out]; exact frac3_q (q := 0) HR5.out HNU.out HND.out, ⟨_, _, _, rfl, HN1.out, HN2.out⟩⟩, below_only HBW.out (frac3_only _ _ _ _ _) (by omega)⟩
end Go.Proofs.Ytlaphdlocchagaa
