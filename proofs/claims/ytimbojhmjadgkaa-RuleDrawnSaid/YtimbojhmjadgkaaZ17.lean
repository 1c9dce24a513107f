/- Several texts in one: Q, Rd. -/
import Derived.Test.YtimbojhmjadgkaaZ16
/- Rational numbers: what the operations of frac make of numerators and denominators. Plain arithmetic: no program. -/
namespace Go.Proofs.Ytimbojhmjadgkaa

/-- lowest terms -/
theorem mkRat_num {z : Int} {y : Nat} (hy : y ≠ 0) : (mkRat z y).num = z / (Nat.gcd z.natAbs y : Nat) := by
  rw [Rat.num_mkRat, if_neg hy, Nat.gcd_comm]
theorem mkRat_den {z : Int} {y : Nat} (hy : y ≠ 0) : (mkRat z y).den = y / Nat.gcd z.natAbs y := by
  rw [Rat.den_mkRat, if_neg hy, Nat.gcd_comm]
theorem gcd_dvd_int (z : Int) (y : Nat) : ((Nat.gcd z.natAbs y : Nat) : Int) ∣ z := Int.ofNat_dvd_left.2 (Nat.gcd_dvd_left _ _)
theorem mkRat_num_mul {z : Int} {y : Nat} (hy : y ≠ 0) : z = (mkRat z y).num * (Nat.gcd z.natAbs y : Nat) := by
  rw [mkRat_num hy]; exact (Int.ediv_mul_cancel (gcd_dvd_int z y)).symm

/-- The numerator of a sum before it is shrunk. -/
def sumNum (a b : Rat) : Int := a.num * ((b.den / Nat.gcd a.den b.den : Nat) : Int) + b.num * ((a.den / Nat.gcd a.den b.den : Nat) : Int)
def sumGcd (a b : Rat) : Nat := Nat.gcd (sumNum a b).natAbs (Nat.gcd a.den b.den)

theorem sum_gcd (a b : Rat) : sumGcd a b = Nat.gcd (sumNum a b).natAbs (a.den / Nat.gcd a.den b.den * b.den) :=
  Rat.add.aux a b (g := Nat.gcd a.den b.den) rfl rfl rfl

theorem sum_eq (a b : Rat) : a + b = mkRat (sumNum a b) (a.den / Nat.gcd a.den b.den * b.den) := by
  have hg : Nat.gcd a.den b.den ≠ 0 := Nat.gcd_ne_zero_left a.den_nz
  rw [Rat.add_def', ← Rat.mkRat_mul_right (n := sumNum a b) (d := a.den / Nat.gcd a.den b.den * b.den) hg]
  congr 1
  · unfold sumNum
    rw [Int.add_mul, Int.mul_assoc, Int.mul_assoc, Int.ofNat_mul_ofNat, Int.ofNat_mul_ofNat, Nat.div_mul_cancel (Nat.gcd_dvd_left ..), Nat.div_mul_cancel (Nat.gcd_dvd_right ..)]
  · rw [Nat.mul_right_comm, Nat.div_mul_cancel (Nat.gcd_dvd_left ..)]

theorem sum_den_pos (a b : Rat) : a.den / Nat.gcd a.den b.den * b.den ≠ 0 := by
  have h := Nat.div_gcd_pos_of_pos_left b.den a.den_pos
  exact Nat.ne_of_gt (Nat.mul_pos h b.den_pos)
theorem sum_num (a b : Rat) : sumNum a b = (a + b).num * (sumGcd a b : Nat) := by
  rw [sum_gcd, sum_eq]; exact mkRat_num_mul (sum_den_pos a b)
theorem sumGcd_dvd (a b : Rat) : sumGcd a b ∣ b.den := Nat.dvd_trans (Nat.gcd_dvd_right _ _) (Nat.gcd_dvd_right _ _)
theorem sum_den (a b : Rat) : (a + b).den = a.den / Nat.gcd a.den b.den * (b.den / sumGcd a b) := by
  have h := mkRat_den (z := sumNum a b) (sum_den_pos a b)
  rw [← sum_eq, ← sum_gcd] at h
  rw [h, Nat.mul_div_assoc _ (sumGcd_dvd a b)]

/-- Products. -/
theorem mul_num (a b : Rat) : (a * b).num = a.num / (Nat.gcd a.num.natAbs b.den : Nat) * (b.num / (Nat.gcd b.num.natAbs a.den : Nat)) := by
  show (Rat.mul a b).num = _
  delta Rat.mul
  dsimp only
  simp only [Int.divExact_eq_ediv]
theorem mul_den (a b : Rat) : (a * b).den = a.den / Nat.gcd b.num.natAbs a.den * (b.den / Nat.gcd a.num.natAbs b.den) := by
  show (Rat.mul a b).den = _
  delta Rat.mul
  dsimp only
  simp only [Nat.divExact_eq_div]

theorem neg_num' (a : Rat) : (-a).num = -a.num := rfl
theorem inv_num_natAbs (a : Rat) : (a⁻¹).num.natAbs = if a.num = 0 then 0 else a.den := by
  rw [Rat.num_inv, Int.natAbs_mul]
  by_cases h : a.num = 0
  · simp [h]
  · simp [h, Int.natAbs_sign_of_ne_zero h]
theorem inv_num_neg (a : Rat) : decide ((a⁻¹).num < 0) = decide (a.num < 0) := by
  rw [Rat.num_inv]
  have hd : (0 : Int) < a.den := by have := a.den_pos; omega
  apply decide_eq_decide.2
  rcases Int.lt_trichotomy a.num 0 with h | h | h
  · rw [Int.sign_eq_neg_one_of_neg h]; omega
  · rw [h]; simp
  · rw [Int.sign_eq_one_of_pos h]; omega

/-- Order. -/
def cmpQ (a b : Rat) : Int := if a < b then -1 else if a = b then 0 else 1
theorem sign_num (a : Rat) : a.num.sign = cmpQ a 0 := by
  unfold cmpQ
  have h0 : a < 0 ↔ a.num < 0 := by rw [Rat.lt_iff]; simp
  have h1 : a = 0 ↔ a.num = 0 := Rat.num_eq_zero.symm
  by_cases h : a.num < 0
  · rw [if_pos (h0.2 h), Int.sign_eq_neg_one_of_neg h]
  · rw [if_neg (fun e => h (h0.1 e))]
    by_cases h2 : a.num = 0
    · rw [if_pos (h1.2 h2), h2]; rfl
    · rw [if_neg (fun e => h2 (h1.1 e)), Int.sign_eq_one_of_pos (by omega)]

theorem cmpQ_swap (a b : Rat) : cmpQ b a = - cmpQ a b := by
  unfold cmpQ
  by_cases h : a < b
  · have : ¬ b < a := Rat.not_lt.2 (Rat.le_of_lt h)
    have h3 : b ≠ a := fun e => by subst e; exact Rat.lt_irrefl h
    simp [h, this, h3]
  · by_cases h2 : a = b
    · subst h2; simp [Rat.lt_irrefl]
    · have h3 : b < a := Rat.lt_of_le_of_ne (Rat.not_lt.1 h) (Ne.symm h2)
      simp [h, h2, h3]

theorem cmpQ_num (a b : Rat) : cmpQ a b = (a.num * b.den - b.num * a.den).sign := by
  unfold cmpQ
  by_cases h : a < b
  · rw [if_pos h, Int.sign_eq_neg_one_of_neg (by have := (Rat.lt_iff a b).1 h; omega)]
  · rw [if_neg h]
    by_cases h2 : a = b
    · subst h2; rw [if_pos rfl, Int.sub_self]; rfl
    · rw [if_neg h2, Int.sign_eq_one_of_pos]
      have h3 : b < a := Rat.lt_of_le_of_ne (Rat.not_lt.1 h) (Ne.symm h2)
      have := (Rat.lt_iff b a).1 h3
      omega
theorem cmp_signs (a b : Rat) (h : a.num.sign ≠ b.num.sign) : (if a.num.sign < b.num.sign then (-1 : Int) else 1) = cmpQ a b := by
  have ha : (0 : Int) < a.den := by have := a.den_pos; omega
  have hb : (0 : Int) < b.den := by have := b.den_pos; omega
  rw [cmpQ_num]
  have e1 : (a.num * b.den).sign = a.num.sign := by rw [Int.sign_mul, Int.sign_eq_one_of_pos hb, Int.mul_one]
  have e2 : (b.num * a.den).sign = b.num.sign := by rw [Int.sign_mul, Int.sign_eq_one_of_pos ha, Int.mul_one]
  rw [← e1, ← e2] at h ⊢
  generalize a.num * b.den = x at *
  generalize b.num * a.den = y at *
  rcases Int.lt_trichotomy x 0 with hx | hx | hx <;> rcases Int.lt_trichotomy y 0 with hy | hy | hy
  · rw [Int.sign_eq_neg_one_of_neg hx, Int.sign_eq_neg_one_of_neg hy] at h; exact absurd rfl h
  · subst hy; rw [Int.sign_eq_neg_one_of_neg (show x - 0 < 0 by omega), Int.sign_eq_neg_one_of_neg hx]; rfl
  · rw [Int.sign_eq_neg_one_of_neg (show x - y < 0 by omega), Int.sign_eq_neg_one_of_neg hx, Int.sign_eq_one_of_pos hy]; rfl
  · subst hx; rw [Int.sign_eq_one_of_pos (show 0 < 0 - y by omega), Int.sign_eq_neg_one_of_neg hy]; rfl
  · subst hx; subst hy; exact absurd rfl h
  · subst hx; rw [Int.sign_eq_neg_one_of_neg (show 0 - y < 0 by omega), Int.sign_eq_one_of_pos hy]; rfl
  · rw [Int.sign_eq_one_of_pos (show 0 < x - y by omega), Int.sign_eq_one_of_pos hx, Int.sign_eq_neg_one_of_neg hy]; rfl
  · subst hy; rw [Int.sign_eq_one_of_pos (show 0 < x - 0 by omega), Int.sign_eq_one_of_pos hx]; rfl
  · rw [Int.sign_eq_one_of_pos hx, Int.sign_eq_one_of_pos hy] at h; exact absurd rfl h
theorem cmp_sizes (a b : Rat) (h : a.num.sign = b.num.sign) : cmpN (a.num.natAbs * b.den) (b.num.natAbs * a.den) * a.num.sign = cmpQ a b := by
  rw [cmpQ_num]
  have ha : 0 < a.den := a.den_pos
  have hb : 0 < b.den := b.den_pos
  unfold cmpN
  rcases Int.lt_trichotomy a.num 0 with hx | hx | hx
  · rw [Int.sign_eq_neg_one_of_neg hx] at h ⊢
    have hy : b.num < 0 := by
      rcases Int.lt_trichotomy b.num 0 with hy | hy | hy
      · exact hy
      · rw [hy] at h; simp at h
      · rw [Int.sign_eq_one_of_pos hy] at h; simp at h
    obtain ⟨x, hx'⟩ : ∃ x : Nat, a.num = -(x : Int) := ⟨a.num.natAbs, by omega⟩
    obtain ⟨y, hy'⟩ : ∃ x : Nat, b.num = -(x : Int) := ⟨b.num.natAbs, by omega⟩
    rw [hx', hy', Int.natAbs_neg, Int.natAbs_neg, Int.natAbs_natCast, Int.natAbs_natCast, Int.neg_mul, Int.neg_mul, ← Int.natCast_mul, ← Int.natCast_mul]
    generalize x * b.den = p at *
    generalize y * a.den = q at *
    by_cases h1 : p < q
    · rw [if_pos h1, Int.sign_eq_one_of_pos (by omega)]; rfl
    · by_cases h2 : q < p
      · rw [if_neg h1, if_pos h2, Int.sign_eq_neg_one_of_neg (by omega)]; rfl
      · have h3 : p = q := by omega
        rw [if_neg h1, if_neg h2, h3]; simp
  · rw [hx] at h ⊢
    have hy : b.num = 0 := by
      rcases Int.lt_trichotomy b.num 0 with hy | hy | hy
      · rw [Int.sign_eq_neg_one_of_neg hy] at h; simp at h
      · exact hy
      · rw [Int.sign_eq_one_of_pos hy] at h; simp at h
    rw [hy]; simp
  · rw [Int.sign_eq_one_of_pos hx] at h ⊢
    have hy : 0 < b.num := by
      rcases Int.lt_trichotomy b.num 0 with hy | hy | hy
      · rw [Int.sign_eq_neg_one_of_neg hy] at h; simp at h
      · rw [hy] at h; simp at h
      · exact hy
    obtain ⟨x, hx'⟩ : ∃ x : Nat, a.num = (x : Int) := ⟨a.num.natAbs, by omega⟩
    obtain ⟨y, hy'⟩ : ∃ x : Nat, b.num = (x : Int) := ⟨b.num.natAbs, by omega⟩
    rw [hx', hy', Int.natAbs_natCast, Int.natAbs_natCast, ← Int.natCast_mul, ← Int.natCast_mul]
    generalize x * b.den = p at *
    generalize y * a.den = q at *
    by_cases h1 : p < q
    · rw [if_pos h1, Int.sign_eq_neg_one_of_neg (by omega)]; rfl
    · by_cases h2 : q < p
      · rw [if_neg h1, if_pos h2, Int.sign_eq_one_of_pos (by omega)]; rfl
      · have h3 : p = q := by omega
        rw [if_neg h1, if_neg h2, h3]; simp

/-- The floor, by the sizes. -/
def upN (a : Rat) : Nat := if a.num < 0 ∧ a.num.natAbs % a.den ≠ 0 then a.num.natAbs / a.den + 1 else a.num.natAbs / a.den
theorem floor_up (a : Rat) : (if decide (a.num < 0) = true then -(upN a : Int) else (upN a : Int)) = a.floor := by
  rw [Rat.floor_def]
  have hd : 0 < a.den := a.den_pos
  unfold upN
  generalize a.den = d at *
  by_cases h : a.num < 0
  · obtain ⟨x, hx'⟩ : ∃ x : Nat, a.num = -(x : Int) := ⟨a.num.natAbs, by omega⟩
    rw [hx'] at h ⊢
    simp only [h, decide_true, if_true, true_and, Int.natAbs_neg, Int.natAbs_natCast]
    have hm := Nat.mod_add_div x d
    have hr := Nat.mod_lt x hd
    generalize x / d = q at *
    generalize x % d = r at *
    have e : -(x : Int) = -(r : Int) + (d : Int) * (-(q : Int)) := by
      rw [← hm, Int.natCast_add, Int.natCast_mul, Int.neg_add, Int.mul_neg]
    by_cases h0 : r = 0
    · subst h0
      rw [if_neg (by simp), e, Int.add_mul_ediv_left _ _ (by omega)]; simp
    · rw [if_pos h0, e, Int.add_mul_ediv_left _ _ (by omega)]
      have e2 : -(r : Int) / (d : Int) = -1 := by
        rw [Int.ediv_eq_iff_of_pos (by omega)]; omega
      rw [e2]; omega
  · obtain ⟨x, hx'⟩ : ∃ x : Nat, a.num = (x : Int) := ⟨a.num.natAbs, by omega⟩
    rw [hx'] at h ⊢
    simp [h]

end Go.Proofs.Ytimbojhmjadgkaa

/- Ratios: lowest terms. -/
namespace Go.Proofs.Ytimbojhmjadgkaa
open Go.RowKit

/-- The value v is the ratio q in lowest terms. -/
def RatQ (w : World) (v : Value) (q : Rat) : Prop := RatV w v q.num q.den
theorem RatQ.below {w w' : World} {v : Value} {q : Rat} (h : RatQ w v q) (hb : Below w.heap.size w w') : RatQ w' v q := RatV.below h hb

/-- A block with a ratio in it holds no words. -/
theorem rat_cells {u d : Value} {b : Bool} (hu : ∃ a n c, u = .slice a n c) (hd : ∃ a n c, d = .slice a n c) : ∀ (j k : Nat), (#[u, .bool b, d] : Array Value)[j]? ≠ some (U k) := by
  obtain ⟨a, n, c, rfl⟩ := hu
  obtain ⟨a', n', c', rfl⟩ := hd
  intro j k h
  match j, h with
  | 0, h => simp [U] at h
  | 1, h => simp [U] at h
  | 2, h => simp [U] at h
  | (j + 3), h => simp at h

theorem zero_rat_cells : ∀ (j k : Nat), (#[Value.slice none 0 0, Value.bool false, Value.slice none 0 0] : Array Value)[j]? ≠ some (U k) := rat_cells ⟨_, _, _, rfl⟩ ⟨_, _, _, rfl⟩

/-- The result's block, filled. -/
def rat3 (w : World) (R : Nat) (u : Value) (b : Bool) (d : Value) : World := ((w.setCell ⟨R, 0, none⟩ u).setCell ⟨R, 1, none⟩ (.bool b)).setCell ⟨R, 2, none⟩ d
theorem rat3_only (w : World) (R : Nat) (u : Value) (b : Bool) (d : Value) : Only R w (rat3 w R u b d) := (((Only.refl R w).setCell 0 u).setCell 1 (.bool b)).setCell 2 d
theorem rat3_heap {w : World} {R : Nat} {u d : Value} {b : Bool} {t : TypeId} (hR : w.heap[R]? = some (.cells #[Value.slice none 0 0, Value.bool false, Value.slice none 0 0] t (0, 0))) :
    (rat3 w R u b d).heap[R]? = some (.cells #[u, .bool b, d] t (0, 0)) :=
  heap_setCell_same _ _ 2 _ _ _ (heap_setCell_same _ _ 1 _ _ _ (heap_setCell_same _ _ 0 _ _ _ hR))
theorem rat3_q {w : World} {R : Nat} {u d : Value} {t : TypeId} {q : Rat} (hR : w.heap[R]? = some (.cells #[Value.slice none 0 0, Value.bool false, Value.slice none 0 0] t (0, 0)))
    (hu : IsW w u (digs q.num.natAbs)) (hd : IsW w d (digs q.den)) : RatQ (rat3 w R u (decide (q.num < 0)) d) (.agg #[u, .bool (decide (q.num < 0)), d]) q :=
  ⟨u, d, rfl, hu.other hR zero_rat_cells (rat3_only _ _ _ _ _), hd.other hR zero_rat_cells (rat3_only _ _ _ _ _)⟩

set_option maxHeartbeats 1000000 in
theorem lowest_w {w : World} {v d : Value} {z : Int} {y : Nat} (hv : NumV w v z) (hd : IsW w d (digs y)) (hy : 0 < y) (hz : (digs z.natAbs).length < 1073741824) (hyl : (digs y).length < 1073741824) :
    Calls Try.prog 48 #[v, d] w fun e w' => (∃ r, e = .returned r ∧ RatQ w' r (mkRat z y)) ∧ Below w.heap.size w w' := by
  obtain ⟨u, rfl, hu⟩ := hv
  have HU := Lib.hid hu
  have HD := Lib.hid hd
  have HZ := Lib.hid hz
  have HYL := Lib.hid hyl
  obtain ⟨ua, uc, hue, -⟩ := hu
  obtain ⟨un, hun⟩ : ∃ un, un = (digs z.natAbs).length := ⟨_, rfl⟩
  rw [← hun] at hue
  subst hue
  obtain ⟨da, dc, hde, -⟩ := hd
  obtain ⟨dn, hdn⟩ : ∃ dn, dn = (digs y).length := ⟨_, rfl⟩
  rw [← hdn] at hde
  subst hde
  clear hun hdn hz hyl
  obtain ⟨g, hg⟩ : ∃ g, g = Nat.gcd z.natAbs y := ⟨_, rfl⟩
  have HG := Lib.hid hg
  have hg0 : 0 < g := by rw [hg]; exact Nat.gcd_pos_of_pos_right _ hy
  clear hg
  obtain ⟨q, hq⟩ : ∃ q, q = mkRat z y := ⟨_, rfl⟩
  have HQ := Lib.hid hq
  rw [← hq]
  clear hq
  have hy0 : Hid (y ≠ 0) := Lib.hid (by omega)
  have HB0 : Hid (Below w.heap.size w ((w.alloc (Obj.cells #[Value.slice ua un uc, Value.bool (decide (z < 0))] 50)).alloc (Obj.cells #[Value.slice none 0 0, Value.bool false, Value.slice none 0 0] 52))) :=
    Lib.hid (((Below.refl _ _).alloc (Nat.le_refl _) _).alloc (by simp) _)
  go_enter Try.func48, Try.ntmps48
  go_wp2_with fail
  refine (gcd_w (HU.out.below HB0.out) (HD.out.below HB0.out) HZ.out HYL.out).mono ?_
  rintro en w3 ⟨⟨gv, rfl, hgv, -⟩, hbel3⟩
  have HGV : Hid (IsW w3 gv (digs g)) := Lib.hid (by rw [HG.out]; exact hgv)
  have hb1 : w3.heap[w.heap.size]? = some (.cells #[Value.slice ua un uc, Value.bool (decide (z < 0))] 50 (0, 0)) :=
    (hbel3.block _ (by simp; omega)).trans (heap_alloc2_old w _ _)
  have hb2 : w3.heap[w.heap.size + 1]? = some (.cells #[Value.slice none 0 0, Value.bool false, Value.slice none 0 0] 52 (0, 0)) :=
    (hbel3.block _ (by simp)).trans (heap_alloc2_new w _ _)
  have HB2 := Lib.hid hb2
  have HBel := Lib.hid (below_trans HB0.out hbel3)
  have c0 : w3.cell? ⟨w.heap.size, 0, none⟩ = some (Value.slice ua un uc) := by rw [cell_of_row _ _ _ _ _ _ hb1]; rfl
  have c1 : w3.cell? ⟨w.heap.size, 1, none⟩ = some (Value.bool (decide (z < 0))) := by rw [cell_of_row _ _ _ _ _ _ hb1]; rfl
  clear hgv hb1 hb2 hbel3
  go_wp2_with fail
  refine (shrink_w (q := q.num) ⟨_, rfl, HU.out.below HBel.out⟩ HGV.out hg0 (by rw [HQ.out, HG.out]; exact mkRat_num_mul hy0.out) HZ.out).mono ?_
  rintro en w4 ⟨⟨r1, rfl, r1u, rfl, hr1⟩, hbel4⟩
  obtain ⟨ra, rn, rc, hre⟩ := hr1.form
  subst hre
  have HR1 := Lib.hid hr1
  have HB24 : Hid (w4.heap[w.heap.size + 1]? = some (.cells #[Value.slice none 0 0, Value.bool false, Value.slice none 0 0] 52 (0, 0))) := Lib.hid ((hbel4.block _ (by have := lt_of_block HB2.out; omega)).trans HB2.out)
  have HBel4 := Lib.hid (below_trans HBel.out hbel4)
  have HGV4 := Lib.hid (HGV.out.below hbel4)
  clear hr1 hbel4 c0 c1
  go_wp2_with fail
  refine (over_w (HD.out.below HBel4.out) HGV4.out hg0 HYL.out).mono ?_
  rintro en w5 ⟨⟨d1, rfl, hd1, -⟩, hbel5⟩
  obtain ⟨ea, en, ec, hde⟩ := hd1.form
  subst hde
  have hR5 : w5.heap[w.heap.size + 1]? = some (.cells #[Value.slice none 0 0, Value.bool false, Value.slice none 0 0] 52 (0, 0)) := (hbel5.block _ (by have := lt_of_block HB24.out; omega)).trans HB24.out
  have r0 : w5.cell? ⟨w.heap.size + 1, 0, none⟩ = some (Value.slice none 0 0) := by rw [cell_of_row _ _ _ _ _ _ hR5]; rfl
  have r1 : w5.cell? ⟨w.heap.size + 1, 1, none⟩ = some (Value.bool false) := by rw [cell_of_row _ _ _ _ _ _ hR5]; rfl
  have r2 : w5.cell? ⟨w.heap.size + 1, 2, none⟩ = some (Value.slice none 0 0) := by rw [cell_of_row _ _ _ _ _ _ hR5]; rfl
  have f0 := frozen_of_row _ _ 0 _ _ hR5
  have f1 := frozen_of_row _ _ 1 _ _ hR5
  have f2 := frozen_of_row _ _ 2 _ _ hR5
  have HR5 := Lib.hid hR5
  have HBW := Lib.hid (below_trans HBel4.out hbel5)
  have HN := Lib.hid (HR1.out.below hbel5)
  have HD1 : Hid (IsW w5 (Value.slice ea en ec) (digs q.den)) := Lib.hid (by rw [HQ.out, mkRat_den hy0.out, ← HG.out]; exact hd1)
  clear hR5 hd1 hbel5
  go_wp2_with fail
  exact bodyPost_ret (results_cell_row rfl _ _ (w.heap.size + 1) _ _ _ _ rfl (rat3_heap HR5.out) Try.underlying52 rfl irat) rfl ⟨⟨_, rfl, rat3_q HR5.out HN.out HD1.out⟩, below_only HBW.out (rat3_only _ _ _ _ _) (by omega)⟩
end Go.Proofs.Ytimbojhmjadgkaa
