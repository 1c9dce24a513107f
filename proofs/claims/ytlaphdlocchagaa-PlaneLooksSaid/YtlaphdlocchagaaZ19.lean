/- Several texts in one: Rk, Rl, Rm, Rn. -/
import Derived.Test.YtlaphdlocchagaaZ18
import Derived.Deep.DrawnRows
/- Ratios: order, floor. -/
namespace Go.Proofs.Ytlaphdlocchagaa
open Go.RowKit
attribute [local go_sem ↓] Go.wp_at_zero Go.wp_at_succ

theorem sign_x {w : World} {u : Value} {b : Bool} {z s : Int} (hu : IsW w u (digs z.natAbs)) (hb : b = decide (z < 0)) (hs : s = z.sign) :
    Calls Try.prog 53 #[.agg #[u, .bool b]] w fun e w' => e = .returned (.int .i64 s) ∧ Below w.heap.size w w' := by
  subst hb; subst hs
  exact sign_w ⟨_, rfl, hu⟩

set_option maxRecDepth 4000 in
set_option maxHeartbeats 4000000 in
theorem rcompare_q {w : World} {v d : Value} {q p : Rat} (hv : RatQ w v q) (hd : RatQ w d p) (hlen : lenQ q + lenQ p ≤ 536870912) :
    Calls Try.prog 39 #[v, d] w fun e w' => e = .returned (.int .i64 (cmpQ q p)) ∧ Below w.heap.size w w' := by
  obtain ⟨u1, d1, rfl, hu1, hd1⟩ := hv
  obtain ⟨u2, d2, rfl, hu2, hd2⟩ := hd
  obtain ⟨ua, un, uc, hue⟩ := hu1.form
  subst hue
  obtain ⟨da, dn, dc, hde⟩ := hd1.form
  subst hde
  obtain ⟨va, vn, vc, hve⟩ := hu2.form
  subst hve
  obtain ⟨ea, en, ec, hee⟩ := hd2.form
  subst hee
  have HU := Lib.hid hu1
  have HD := Lib.hid hd1
  have HV := Lib.hid hu2
  have HE := Lib.hid hd2
  have HL : Hid ((digs q.num.natAbs).length + (digs q.den).length + ((digs p.num.natAbs).length + (digs p.den).length) ≤ 536870912) := Lib.hid hlen
  clear hu1 hd1 hu2 hd2 hlen
  obtain ⟨b, hb⟩ : ∃ b, b = decide (q.num < 0) := ⟨_, rfl⟩
  obtain ⟨c, hc⟩ : ∃ c, c = decide (p.num < 0) := ⟨_, rfl⟩
  have HBQ := Lib.hid hb
  have HCQ := Lib.hid hc
  rw [← hb, ← hc]
  obtain ⟨sa, hsa⟩ : ∃ x, x = q.num.sign := ⟨_, rfl⟩
  obtain ⟨sb, hsb⟩ : ∃ x, x = p.num.sign := ⟨_, rfl⟩
  have HSA := Lib.hid hsa
  have HSB := Lib.hid hsb
  clear hb hc hsa hsb
  go_enter Try.func39, Try.ntmps39
  go_wp2_with fail
  obtain ⟨w1, hw1⟩ : ∃ w1, w1 = (w.alloc (Obj.cells #[Value.slice ua un uc, Value.bool b, Value.slice da dn dc] 62)).alloc (Obj.cells #[Value.slice va vn vc, Value.bool c, Value.slice ea en ec] 62) := ⟨_, rfl⟩
  rw [← hw1]
  have HB1 : Hid (Below w.heap.size w w1) := Lib.hid (by rw [hw1]; exact ((Below.refl _ _).alloc (Nat.le_refl _) _).alloc (by simp) _)
  have HX : Hid (w1.heap[w.heap.size]? = some (.cells #[Value.slice ua un uc, Value.bool b, Value.slice da dn dc] 62 (0, 0))) := Lib.hid (by rw [hw1]; exact heap_alloc2_old w _ _)
  have HY : Hid (w1.heap[w.heap.size + 1]? = some (.cells #[Value.slice va vn vc, Value.bool c, Value.slice ea en ec] 62 (0, 0))) := Lib.hid (by rw [hw1]; exact heap_alloc2_new w _ _)
  clear hw1
  have R1 : Hid (∀ o v, (#[Value.slice ua un uc, Value.bool b, Value.slice da dn dc] : Array Value)[o]? = some v → ∀ w', Below w1.heap.size w1 w' → w'.cell? ⟨w.heap.size, o, none⟩ = some v) :=
    Lib.hid (fun o v h w' hb => by rw [cell_of_row _ _ _ _ _ _ ((hb.block _ (lt_of_block HX.out)).trans HX.out)]; exact h)
  have R2 : Hid (∀ o v, (#[Value.slice va vn vc, Value.bool c, Value.slice ea en ec] : Array Value)[o]? = some v → ∀ w', Below w1.heap.size w1 w' → w'.cell? ⟨w.heap.size + 1, o, none⟩ = some v) :=
    Lib.hid (fun o v h w' hb => by rw [cell_of_row _ _ _ _ _ _ ((hb.block _ (lt_of_block HY.out)).trans HY.out)]; exact h)
  have HU1 := Lib.hid (HU.out.below HB1.out)
  have HD1 := Lib.hid (HD.out.below HB1.out)
  have HV1 := Lib.hid (HV.out.below HB1.out)
  have HE1 := Lib.hid (HE.out.below HB1.out)
  have hz1 := Below.refl w1.heap.size w1
  have c0 := R1.out 0 _ rfl _ hz1
  have c1 := R1.out 1 _ rfl _ hz1
  have c2 := R1.out 2 _ rfl _ hz1
  have e0 := R2.out 0 _ rfl _ hz1
  have e1 := R2.out 1 _ rfl _ hz1
  have e2 := R2.out 2 _ rfl _ hz1
  have hzd : Below w1.heap.size w1 w1.drew := below_drewN (Below.refl _ _) 1
  by_cases hs : sa = sb
  · have hne : ((sa : Int) != sb) = false := by simp [hs]
    have HS := Lib.hid hs
    clear hs
    go_wp2_with fail
    go_region_held3 (fun w' => w'.cell? ⟨w.heap.size, 0, none⟩ = some (.slice ua un uc) ∧ w'.cell? ⟨w.heap.size, 1, none⟩ = some (.bool b) ∧ w'.cell? ⟨w.heap.size, 2, none⟩ = some (.slice da dn dc) ∧ w'.cell? ⟨w.heap.size + 1, 0, none⟩ = some (.slice va vn vc) ∧ w'.cell? ⟨w.heap.size + 1, 1, none⟩ = some (.bool c) ∧ w'.cell? ⟨w.heap.size + 1, 2, none⟩ = some (.slice ea en ec))
      (((try dsimp only); refine ⟨?_, ?_, ?_, ?_, ?_, ?_⟩ <;> (first | exact R1.out _ _ rfl _ (by assumption) | exact R2.out _ _ rfl _ (by assumption) | go_keep)))
      (first | (go_at_call_of 53 (Value.slice ua un uc); refine (sign_x (HU1.out.below hzd) HBQ.out HSA.out).mono ?_; rintro en2 w2 ⟨rfl, hb2⟩; have hz2 := below_trans hzd hb2) | (go_at_call 53; refine (sign_x (HV1.out.below hz2) HCQ.out HSB.out).mono ?_; rintro en3 w3 ⟨rfl, hb3⟩; have hz3 := below_trans hz2 hb3))
    clear c0 c1 c2 e0 e1 e2 hzd
    have c0 := R1.out 0 _ rfl _ hz3
    have c1 := R1.out 1 _ rfl _ hz3
    have c2 := R1.out 2 _ rfl _ hz3
    have e0 := R2.out 0 _ rfl _ hz3
    have e1 := R2.out 1 _ rfl _ hz3
    have e2 := R2.out 2 _ rfl _ hz3
    clear hz2 hb2 hb3
    go_wp2_with fail
    have hz4 : Below w1.heap.size w1 w3.drew := below_drewN hz3 1
    have HM1 := Lib.hid (fun w' (hb : Below w1.heap.size w1 w') => mul_w (w := w') (HU1.out.below hb) (HE1.out.below hb) (by have := HL.out; omega))
    have HM2 := Lib.hid (fun w' (hb : Below w1.heap.size w1 w') => mul_w (w := w') (HV1.out.below hb) (HD1.out.below hb) (by have := HL.out; omega))
    obtain ⟨cm, hcm⟩ : ∃ x, x = cmpN (q.num.natAbs * p.den) (p.num.natAbs * q.den) := ⟨_, rfl⟩
    have HM3 := Lib.hid (fun w' u v (h1 : IsW w' u (digs (q.num.natAbs * p.den))) (h2 : IsW w' v (digs (p.num.natAbs * q.den))) => compare_d (w := w') h1 h2)
    rw [← hcm] at HM3
    have hcb : -1 ≤ cm ∧ cm ≤ 1 := by rw [hcm]; unfold cmpN; split <;> (try split) <;> omega
    have hsb9 : -1 ≤ sa ∧ sa ≤ 1 := by
      rw [HSA.out]
      rcases Int.lt_trichotomy q.num 0 with h | h | h
      · rw [Int.sign_eq_neg_one_of_neg h]; omega
      · rw [h]; simp
      · rw [Int.sign_eq_one_of_pos h]; omega
    have hpr : -1 ≤ cm * sa ∧ cm * sa ≤ 1 := by
      obtain ⟨h1, h2⟩ := hcb
      obtain ⟨h3, h4⟩ := hsb9
      have h5 : cm = -1 ∨ cm = 0 ∨ cm = 1 := by omega
      rcases h5 with h | h | h <;> subst h <;> omega
    have hwm : IntKind.i64.wrap (cm * sa) = cm * sa := IntWalk.i64_in _ (by omega)
    have HCM := Lib.hid hcm
    clear hcm hcb hsb9
    go_region_held3 (fun w' => w'.cell? ⟨w.heap.size, 0, none⟩ = some (.slice ua un uc) ∧ w'.cell? ⟨w.heap.size, 1, none⟩ = some (.bool b) ∧ w'.cell? ⟨w.heap.size, 2, none⟩ = some (.slice da dn dc) ∧ w'.cell? ⟨w.heap.size + 1, 0, none⟩ = some (.slice va vn vc) ∧ w'.cell? ⟨w.heap.size + 1, 1, none⟩ = some (.bool c) ∧ w'.cell? ⟨w.heap.size + 1, 2, none⟩ = some (.slice ea en ec))
      (((try dsimp only); refine ⟨?_, ?_, ?_, ?_, ?_, ?_⟩ <;> (first | exact R1.out _ _ rfl _ (by assumption) | exact R2.out _ _ rfl _ (by assumption) | go_keep)))
      (first | (go_at_call_of 55 (Value.slice ua un uc); refine (HM1.out _ hz4).mono ?_; rintro en5 w5 ⟨⟨r5, rfl, hr5, hro5⟩, hb5⟩; obtain ⟨a5, n5, k5, he5⟩ := hr5.form; subst he5; have hz5 := below_trans hz4 hb5) | (go_at_call 55; refine (HM2.out _ hz5).mono ?_; rintro en6 w6 ⟨⟨r6, rfl, hr6, hro6⟩, hb6⟩; obtain ⟨a6, n6, k6, he6⟩ := hr6.form; subst he6; have hz6 := below_trans hz5 hb6) | (go_at_call 56; refine (HM3.out _ _ _ (hr5.below hb6) hr6).mono ?_; rintro en7 w7 ⟨rfl, n7, rfl⟩; have hz7 := below_drewN hz6 n7))
    clear c0 c1 c2 e0 e1 e2 hz4 hz5 hz6 hr5 hr6 hro5 hro6 hb5 hb6
    have c0 := R1.out 0 _ rfl _ hz7
    have c1 := R1.out 1 _ rfl _ hz7
    have c2 := R1.out 2 _ rfl _ hz7
    go_wp2_with fail
    refine (sign_x (HU1.out.below hz7) HBQ.out HSA.out).mono ?_
    rintro en8 w8 ⟨rfl, hb8⟩
    go_wp2_with fail
    go_ret
    refine ⟨ret_int ?_, below_trans HB1.out (below_trans hz7 hb8)⟩
    have h9 := HS.out
    rw [HSA.out, HSB.out] at h9
    have h8 := cmp_sizes q p h9
    rw [← HCM.out, ← HSA.out] at h8
    first | exact h8 | (rw [hwm]; exact h8)
  · have hne : ((sa : Int) != sb) = true := by simp [hs]
    have HS := Lib.hid hs
    clear hs
    go_wp2_with fail
    go_region_held3 (fun w' => w'.cell? ⟨w.heap.size, 0, none⟩ = some (.slice ua un uc) ∧ w'.cell? ⟨w.heap.size, 1, none⟩ = some (.bool b) ∧ w'.cell? ⟨w.heap.size, 2, none⟩ = some (.slice da dn dc) ∧ w'.cell? ⟨w.heap.size + 1, 0, none⟩ = some (.slice va vn vc) ∧ w'.cell? ⟨w.heap.size + 1, 1, none⟩ = some (.bool c) ∧ w'.cell? ⟨w.heap.size + 1, 2, none⟩ = some (.slice ea en ec))
      (((try dsimp only); refine ⟨?_, ?_, ?_, ?_, ?_, ?_⟩ <;> (first | exact R1.out _ _ rfl _ (by assumption) | exact R2.out _ _ rfl _ (by assumption) | go_keep)))
      (first | (go_at_call_of 53 (Value.slice ua un uc); refine (sign_x (HU1.out.below hzd) HBQ.out HSA.out).mono ?_; rintro en2 w2 ⟨rfl, hb2⟩; have hz2 := below_trans hzd hb2) | (go_at_call 53; refine (sign_x (HV1.out.below hz2) HCQ.out HSB.out).mono ?_; rintro en3 w3 ⟨rfl, hb3⟩; have hz3 := below_trans hz2 hb3))
    go_wp2_with fail
    refine (order_any _ _ _).mono ?_
    rintro e w' ⟨rfl, rfl⟩
    go_wp2_with fail
    go_ret
    refine ⟨ret_int ?_, below_trans HB1.out hz3⟩
    have h9 := HS.out
    rw [HSA.out, HSB.out] at h9
    have h8 := cmp_signs q p h9
    rw [HSA.out, HSB.out]
    exact h8

theorem signed_x {w : World} {v : Value} {b c : Bool} {x : Nat} {z : Int} (hv : IsW w v (digs x)) (hz : z = if b then -(x : Int) else x) (hc : c = decide (z < 0)) :
    Calls Try.prog 86 #[v, .bool b] w fun e w' => e = .returned (.agg #[v, .bool c]) ∧ Below w.heap.size w w' := by
  refine (signed_l hv b).mono ?_
  rintro e w' ⟨rfl, hb⟩
  refine ⟨?_, hb⟩
  rw [hc, hz]
  congr 4
  cases b with
  | false => simp
  | true => by_cases h : x = 0 <;> simp [zerB, h] <;> omega
theorem signed_abs {b : Bool} {x : Nat} {z : Int} (hz : z = if b then -(x : Int) else x) : z.natAbs = x := by
  rw [hz]; cases b <;> simp

/-- A whole number as a ratio. -/
theorem int_num (z : Int) : ((z : Rat)).num = z := Rat.num_intCast z
theorem int_den (z : Int) : ((z : Rat)).den = 1 := Rat.den_intCast z

end Go.Proofs.Ytlaphdlocchagaa

/- What frac tells: made, fixed, computed, compared. -/
namespace Go.Proofs.Ytlaphdlocchagaa
open Go.RowKit
attribute [local go_sem ↓] Go.wp_at_zero Go.wp_at_succ

theorem len_zero : lenQ 0 = 1 := by
  have e1 : digs (0 : Rat).num.natAbs = [] := by show digs 0 = []; exact digs_zero
  have e2 : digs (0 : Rat).den = [1] := by show digs 1 = [1]; unfold digs; simp [digs]
  unfold lenQ; rw [e1, e2]; simp
theorem len_cut (q : Rat) : lenQ (cutR q) ≤ 4096 := by
  unfold cutR
  split
  · assumption
  · rw [len_zero]; omega
theorem cut_id {q : Rat} (h : lenQ q ≤ 4096) : cutR q = q := by unfold cutR; rw [if_pos h]

/-- A told fraction. -/
def TellPost (w : World) (q : Rat) (e : Ending) (w' : World) : Prop := (∃ r, e = .returned r ∧ FracV w' r q ∧ NewF w r) ∧ Below w.heap.size w w'
theorem NewF.mono {w w' : World} {v : Value} (h : NewF w' v) (hs : w.heap.size ≤ w'.heap.size) : NewF w v := by
  obtain ⟨b, u, d, rfl, h1, h2⟩ := h
  exact ⟨b, u, d, rfl, fun x e => Nat.le_trans hs (h1 x e), fun x e => Nat.le_trans hs (h2 x e)⟩

theorem len_neg (q : Rat) : lenQ (-q) = lenQ q := by unfold lenQ; rw [Rat.neg_num, Rat.neg_den, Int.natAbs_neg]
theorem len_floor (q : Rat) : lenQ (q.floor : Rat) ≤ lenQ q + 1 := by
  unfold lenQ
  rw [int_num, int_den]
  have h1 : q.floor.natAbs = upN q := signed_abs (b := decide (q.num < 0)) (floor_up q).symm
  have h2 : digs 1 = [1] := by unfold digs; simp [digs]
  have h3 : 1 ≤ (digs q.den).length := by
    have := digs_pos q.den_nz
    rw [this]; simp
  have h4 : upN q ≤ q.num.natAbs + 1 := by
    have := Nat.div_le_self q.num.natAbs q.den
    unfold upN; split <;> omega
  have h5 : (digs (upN q)).length ≤ (digs q.num.natAbs).length + 1 := by
    by_cases h0 : q.num.natAbs = 0
    · have : (digs (upN q)).length ≤ (digs 1).length := len_digs_mono (by omega)
      rw [h2] at this; simp at this; omega
    · refine Nat.le_trans (len_digs_mono h4) (len_digs_add _ _ _ (Nat.le_refl _) ?_)
      rw [h2]
      rw [digs_pos h0]; simp
  rw [h1, h2]
  simp
  omega

/-- The end of a function that tells: the told fraction laid into the result's block. -/
theorem tell_end {w w1 wk : World} {R : Nat} {Q : Rat} {u d : Value} {t : TypeId} (hB1 : Below w.heap.size w w1) (hz : Below w1.heap.size w1 wk) (hR : w1.heap[R]? = some (.cells #[Value.bool false, Value.slice none 0 0, Value.slice none 0 0] t (0, 0))) (hRw : w.heap.size ≤ R)
    (hf : FracV wk (.agg #[.bool (decide (Q.num < 0)), u, d]) Q) (hn : NewF w1 (.agg #[.bool (decide (Q.num < 0)), u, d])) :
    TellPost w Q (.returned (.agg #[.bool (decide (Q.num < 0)), u, d])) (frac3 wk R (decide (Q.num < 0)) u d) := by
  have hR' : wk.heap[R]? = _ := (hz.block _ (lt_of_block hR)).trans hR
  obtain ⟨u', d', he, hu, hd⟩ := hf
  simp only [Value.agg.injEq, Array.mk.injEq, List.cons.injEq, and_true, true_and] at he
  obtain ⟨rfl, rfl⟩ := he
  refine ⟨⟨_, rfl, frac3_q hR' hu hd, ?_⟩, below_only (below_trans hB1 hz) (frac3_only _ _ _ _ _) hRw⟩
  exact hn.mono hB1.size

theorem frac_form {w : World} {r : Value} {Q : Rat} (h : FracV w r Q) : ∃ a n c i j k, r = .agg #[.bool (decide (Q.num < 0)), .slice a n c, .slice i j k] := by
  obtain ⟨u, d, rfl, hu, hd⟩ := h
  obtain ⟨a, n, c, rfl⟩ := hu.form
  obtain ⟨i, j, k, rfl⟩ := hd.form
  exact ⟨a, n, c, i, j, k, rfl⟩

end Go.Proofs.Ytlaphdlocchagaa

/- What frac tells of two fractions: sums, differences, products. -/
namespace Go.Proofs.Ytlaphdlocchagaa
open Go.RowKit
attribute [local go_sem ↓] Go.wp_at_zero Go.wp_at_succ

theorem num_len (q : Rat) : (digs q.num.natAbs).length ≤ lenQ q := by unfold lenQ; omega
theorem den_len (q : Rat) : (digs q.den).length ≤ lenQ q := by unfold lenQ; omega
theorem len_add (q p : Rat) : lenQ (q + p) ≤ 2 * (lenQ q + lenQ p) + 1 := by
  have e1 := num_len q
  have e2 := num_len p
  have e3 := den_len q
  have e4 := den_len p
  have h1 : (q + p).num.natAbs ≤ q.num.natAbs * p.den + p.num.natAbs * q.den := by
    have h := sum_num q p
    have hs : (sumNum q p).natAbs ≤ q.num.natAbs * p.den + p.num.natAbs * q.den := by
      unfold sumNum
      refine Nat.le_trans (Int.natAbs_add_le _ _) ?_
      rw [Int.natAbs_mul, Int.natAbs_mul, Int.natAbs_natCast, Int.natAbs_natCast]
      exact Nat.add_le_add (Nat.mul_le_mul_left _ (Nat.div_le_self _ _)) (Nat.mul_le_mul_left _ (Nat.div_le_self _ _))
    rw [h, Int.natAbs_mul, Int.natAbs_natCast] at hs
    have hg : 0 < sumGcd q p := Nat.gcd_pos_of_pos_right _ (Nat.gcd_pos_of_pos_right _ p.den_pos)
    exact Nat.le_trans (Nat.le_mul_of_pos_right _ hg) hs
  have h2 : (q + p).den ≤ q.den * p.den := by
    rw [sum_den]; exact Nat.mul_le_mul (Nat.div_le_self _ _) (Nat.div_le_self _ _)
  have l1 : (digs (q + p).num.natAbs).length ≤ lenQ q + lenQ p + 1 := by
    refine Nat.le_trans (len_digs_mono h1) (len_digs_add _ _ _ ?_ ?_)
    · exact Nat.le_trans (len_digs_mul _ _) (by omega)
    · exact Nat.le_trans (len_digs_mul _ _) (by omega)
  have l2 : (digs (q + p).den).length ≤ lenQ q + lenQ p := Nat.le_trans (len_digs_mono h2) (Nat.le_trans (len_digs_mul _ _) (by omega))
  have e : lenQ (q + p) = (digs (q + p).num.natAbs).length + (digs (q + p).den).length := rfl
  omega
theorem len_mul (q p : Rat) : lenQ (q * p) ≤ lenQ q + lenQ p := by
  have e1 : (digs (q * p).num.natAbs).length ≤ (digs q.num.natAbs).length + (digs p.num.natAbs).length := by
    rw [mul_num, Int.natAbs_mul]
    refine Nat.le_trans (len_digs_mul _ _) (Nat.add_le_add ?_ ?_)
    · exact len_digs_mono (natAbs_div_le _ _)
    · exact len_digs_mono (natAbs_div_le _ _)
  have e2 : (digs (q * p).den).length ≤ (digs q.den).length + (digs p.den).length := by
    rw [mul_den]
    refine Nat.le_trans (len_digs_mul _ _) (Nat.add_le_add ?_ ?_)
    · exact len_digs_mono (Nat.div_le_self _ _)
    · exact len_digs_mono (Nat.div_le_self _ _)
  unfold lenQ; omega

end Go.Proofs.Ytlaphdlocchagaa

/- What frac tells of fractions: order, sign, quotients; a fraction made. -/
namespace Go.Proofs.Ytlaphdlocchagaa
open Go.RowKit
attribute [local go_sem ↓] Go.wp_at_zero Go.wp_at_succ

theorem field_num (w : World) (a : Value) (b : Bool) (c : Value) : (Instr.field 62 (.agg #[a, .bool b, c]) 0).run Try.prog w = .ok (.agg #[a, .bool b]) w := by
  have h3 := inum
  cases hq : Try.prog.info? 60 with
  | none => simp [hq] at h3
  | some i =>
    have hsz : i.size = 2 := by simpa [hq] using h3
    simp [Instr.field, run_underlying Try.underlying62, asAgg, part, isAgg, run_underlying Try.underlying60, sizeOf, typeInfo, hq, hsz]

theorem results_row_tmp {P : Program} {fn : Func} {p u : Tmp} {ty : TypeId} (h : fn.results = #[.cell p ty, .tmp u]) (tmps : Array Value) (w : World) (g : Nat) (t : TypeId) (cs : Array Value) (fr : Nat × Nat) (d : TypeDesc)
    (hp : tmps.getD p undef = .pointer (some ⟨g, 0, none⟩)) (hg : w.heap[g]? = some (.cells cs t fr))
    (hu : P.underlying ty = some d) (hd : (match d with | .struct _ | .array _ _ => true | _ => false) = true) (hi : (P.info? ty).map (·.size) = some cs.size) :
    (results fn tmps).run P w = .ok (.tuple #[.agg cs, tmps.getD u undef]) w := by
  have hp' : tmps[p]?.getD undef = .pointer (some ⟨g, 0, none⟩) := by simpa using hp
  simp [results, h, hp', asAddr, run_loadVar_row w g t ty cs fr d hg hu hd hi]

set_option maxRecDepth 4000 in
set_option maxHeartbeats 1000000 in
theorem sign_q {w : World} {v : Value} {b : Bool} {l m : List Nat} (hv : RawF w v b l m) :
    Calls Try.prog 38 #[v] w fun e w' => e = .returned (.int .i64 (cmpQ (fixR b l m) 0)) ∧ Below w.heap.size w w' := by
  have HV := Lib.hid hv
  have HL1 : Hid (lenQ (fixR b l m) ≤ 4096) := Lib.hid (by obtain ⟨u, d, rfl, hu, hd⟩ := hv; exact fix_len hu.ws hd.ws)
  obtain ⟨u, d, rfl, hu, hd⟩ := hv
  obtain ⟨ua, un, uc, hue⟩ := hu.form
  subst hue
  obtain ⟨da, dn, dc, hde⟩ := hd.form
  subst hde
  clear hu hd
  obtain ⟨P, hP⟩ : ∃ P, P = fixR b l m := ⟨_, rfl⟩
  have HP := Lib.hid hP
  rw [← hP] at HL1
  rw [← hP]
  obtain ⟨sg, hsg⟩ : ∃ s, s = cmpQ P 0 := ⟨_, rfl⟩
  have HSG : Hid (sg = P.num.sign) := Lib.hid (by rw [hsg]; exact (sign_num P).symm)
  rw [← hsg]
  clear hsg hP
  obtain ⟨w1, hw1⟩ : ∃ w1, w1 = (w.alloc (Obj.cells #[Value.bool b, Value.slice ua un uc, Value.slice da dn dc] 34)) := ⟨_, rfl⟩
  have HB1 : Hid (Below w.heap.size w w1) := Lib.hid (by rw [hw1]; exact (Below.refl _ _).alloc (Nat.le_refl _) _)
  have HX : Hid (w1.heap[w.heap.size]? = some (.cells #[Value.bool b, Value.slice ua un uc, Value.slice da dn dc] 34 (0, 0))) := Lib.hid (by rw [hw1]; exact heap_alloc_new w _)
  have HW1 := Lib.hid hw1.symm
  clear hw1
  have R1 : Hid (∀ o v, (#[Value.bool b, Value.slice ua un uc, Value.slice da dn dc] : Array Value)[o]? = some v → ∀ w', Below w1.heap.size w1 w' → w'.cell? ⟨w.heap.size, o, none⟩ = some v) :=
    Lib.hid (fun o v h w' hb => by rw [cell_of_row _ _ _ _ _ _ ((hb.block _ (lt_of_block HX.out)).trans HX.out)]; exact h)
  have hz1 := Below.refl w1.heap.size w1
  have c0 := R1.out 0 _ rfl _ hz1
  have c1 := R1.out 1 _ rfl _ hz1
  have c2 := R1.out 2 _ rfl _ hz1
  go_enter Try.func38, Try.ntmps38
  go_wp2_with fail
  rw [HW1.out]
  have HC1 := Lib.hid (fun w' (hb : Below w1.heap.size w1 w') => read_w (w := w') (HV.out.below (below_trans HB1.out hb)))
  rw [← HP.out] at HC1
  refine (HC1.out _ hz1).mono ?_
  rintro en2 w2 ⟨⟨p2, rfl, h2⟩, hb2⟩
  have hz2 := below_trans hz1 hb2
  obtain ⟨u2, d2, rfl, hu2, hd2⟩ := h2
  obtain ⟨xa, xn, xc, hxe⟩ := hu2.form
  subst hxe
  obtain ⟨ya, yn, yc, hye⟩ := hd2.form
  subst hye
  have H2 := Lib.hid hu2
  obtain ⟨bs, hbs⟩ : ∃ x, x = decide (P.num < 0) := ⟨_, rfl⟩
  have HBS := Lib.hid hbs
  rw [← hbs]
  have hfn := field_num w2 (Value.slice xa xn xc) bs (Value.slice ya yn yc)
  clear c0 c1 c2 hu2 hd2 hbs
  go_wp2_with fail
  refine (sign_x H2.out HBS.out HSG.out).mono ?_
  rintro en3 w3 ⟨rfl, hb3⟩
  go_wp2_with fail
  go_ret
  exact ⟨rfl, below_trans HB1.out (below_trans hz2 hb3)⟩

set_option maxRecDepth 4000 in
set_option maxHeartbeats 2000000 in
theorem cmp_q {w : World} {v t : Value} {b c : Bool} {l m l2 m2 : List Nat} (hv : RawF w v b l m) (ht : RawF w t c l2 m2) :
    Calls Try.prog 23 #[v, t] w fun e w' => e = .returned (.int .i64 (cmpQ (fixR b l m) (fixR c l2 m2))) ∧ Below w.heap.size w w' := by
  have HV := Lib.hid hv
  have HL1 : Hid (lenQ (fixR b l m) ≤ 4096) := Lib.hid (by obtain ⟨u, d, rfl, hu, hd⟩ := hv; exact fix_len hu.ws hd.ws)
  have HT := Lib.hid ht
  have HL2 : Hid (lenQ (fixR c l2 m2) ≤ 4096) := Lib.hid (by obtain ⟨u, d, rfl, hu, hd⟩ := ht; exact fix_len hu.ws hd.ws)
  obtain ⟨u, d, rfl, hu, hd⟩ := hv
  obtain ⟨ua, un, uc, hue⟩ := hu.form
  subst hue
  obtain ⟨da, dn, dc, hde⟩ := hd.form
  subst hde
  clear hu hd
  obtain ⟨u2, d2, rfl, hu2, hd2⟩ := ht
  obtain ⟨va, vn, vc, hve⟩ := hu2.form
  subst hve
  obtain ⟨ea, en, ec, hee⟩ := hd2.form
  subst hee
  clear hu2 hd2
  obtain ⟨P, hP⟩ : ∃ P, P = fixR b l m := ⟨_, rfl⟩
  obtain ⟨S, hS⟩ : ∃ S, S = fixR c l2 m2 := ⟨_, rfl⟩
  have HS := Lib.hid hS
  have HP := Lib.hid hP
  rw [← hP] at HL1
  rw [← hS] at HL2
  rw [← hP, ← hS]
  obtain ⟨sg, hsg⟩ : ∃ s, s = cmpQ P S := ⟨_, rfl⟩
  have HSG := Lib.hid hsg
  rw [← hsg]
  clear hsg hP hS
  obtain ⟨w1, hw1⟩ : ∃ w1, w1 = ((w.alloc (Obj.cells #[Value.bool b, Value.slice ua un uc, Value.slice da dn dc] 34)).alloc (Obj.cells #[Value.bool c, Value.slice va vn vc, Value.slice ea en ec] 34)) := ⟨_, rfl⟩
  have HB1 : Hid (Below w.heap.size w w1) := Lib.hid (by rw [hw1]; exact ((Below.refl _ _).alloc (Nat.le_refl _) _).alloc (by simp) _)
  have HX : Hid (w1.heap[w.heap.size]? = some (.cells #[Value.bool b, Value.slice ua un uc, Value.slice da dn dc] 34 (0, 0))) := Lib.hid (by rw [hw1]; exact heap_alloc2_old w _ _)
  have HY : Hid (w1.heap[w.heap.size + 1]? = some (.cells #[Value.bool c, Value.slice va vn vc, Value.slice ea en ec] 34 (0, 0))) := Lib.hid (by rw [hw1]; exact heap_alloc2_new w _ _)
  have HW1 := Lib.hid hw1.symm
  clear hw1
  have R1 : Hid (∀ o v, (#[Value.bool b, Value.slice ua un uc, Value.slice da dn dc] : Array Value)[o]? = some v → ∀ w', Below w1.heap.size w1 w' → w'.cell? ⟨w.heap.size, o, none⟩ = some v) :=
    Lib.hid (fun o v h w' hb => by rw [cell_of_row _ _ _ _ _ _ ((hb.block _ (lt_of_block HX.out)).trans HX.out)]; exact h)
  have R2 : Hid (∀ o v, (#[Value.bool c, Value.slice va vn vc, Value.slice ea en ec] : Array Value)[o]? = some v → ∀ w', Below w1.heap.size w1 w' → w'.cell? ⟨w.heap.size + 1, o, none⟩ = some v) :=
    Lib.hid (fun o v h w' hb => by rw [cell_of_row _ _ _ _ _ _ ((hb.block _ (lt_of_block HY.out)).trans HY.out)]; exact h)
  have hz1 := Below.refl w1.heap.size w1
  have c0 := R1.out 0 _ rfl _ hz1
  have c1 := R1.out 1 _ rfl _ hz1
  have c2 := R1.out 2 _ rfl _ hz1
  have e0 := R2.out 0 _ rfl _ hz1
  have e1 := R2.out 1 _ rfl _ hz1
  have e2 := R2.out 2 _ rfl _ hz1
  go_enter Try.func23, Try.ntmps23
  go_wp2_with fail
  rw [HW1.out]
  have HC1 := Lib.hid (fun w' (hb : Below w1.heap.size w1 w') => read_w (w := w') (HV.out.below (below_trans HB1.out hb)))
  rw [← HP.out] at HC1
  have HC2 := Lib.hid (fun w' (hb : Below w1.heap.size w1 w') => read_w (w := w') (HT.out.below (below_trans HB1.out hb)))
  rw [← HS.out] at HC2
  have hz0 : Below w1.heap.size w1 w1.drew := below_drewN (Below.refl _ _) 1
  have HC3 := Lib.hid (fun w' x y (h : RatQ w' x P) (k : RatQ w' y S) => rcompare_q (w := w') (v := x) (d := y) h k (by have := HL1.out; have := HL2.out; omega))
  rw [← HSG.out] at HC3
  go_region_held3 (fun w' => w'.cell? ⟨w.heap.size, 0, none⟩ = some (.bool b) ∧ w'.cell? ⟨w.heap.size, 1, none⟩ = some (.slice ua un uc) ∧ w'.cell? ⟨w.heap.size, 2, none⟩ = some (.slice da dn dc) ∧ w'.cell? ⟨w.heap.size + 1, 0, none⟩ = some (.bool c) ∧ w'.cell? ⟨w.heap.size + 1, 1, none⟩ = some (.slice va vn vc) ∧ w'.cell? ⟨w.heap.size + 1, 2, none⟩ = some (.slice ea en ec))
    (((try dsimp only); refine ⟨?_, ?_, ?_, ?_, ?_, ?_⟩ <;> (first | exact R1.out _ _ rfl _ (by assumption) | exact R2.out _ _ rfl _ (by assumption) | (rw [World.cell?_setCell_far _ _ _ _ (by dsimp only; omega), World.cell?_setCell_far _ _ _ _ (by dsimp only; omega), World.cell?_setCell_far _ _ _ _ (by dsimp only; omega)]; first | exact R1.out _ _ rfl _ (by assumption) | exact R2.out _ _ rfl _ (by assumption)) | go_keep)))
    (first | (go_at_call_of 32 (Value.slice ua un uc); refine (HC1.out _ hz0).mono ?_; rintro en2 w2 ⟨⟨p2, rfl, h2⟩, hb2⟩; have hz2 := below_trans hz0 hb2) | (go_at_call 32; refine (HC2.out _ hz2).mono ?_; rintro en3 w3 ⟨⟨p3, rfl, h3⟩, hb3⟩; have hz3 := below_trans hz2 hb3) | (go_at_call 39; refine (HC3.out _ _ _ (h2.below hb3) h3).mono ?_; rintro en9 w9 ⟨rfl, hb9⟩; have hz9 := below_trans hz3 hb9))
  go_wp2_with fail
  go_ret
  exact ⟨rfl, below_trans HB1.out hz9⟩

/-- What a quotient tells. -/
def QuoPost (w : World) (z : Bool) (Q : Rat) (e : Ending) (w' : World) : Prop :=
  (if z then e = .returned (.tuple #[.agg #[.bool false, .slice none 0 0, .slice none 0 0], .int .i64 11]) else ∃ r, e = .returned (.tuple #[r, .int .i64 0]) ∧ FracV w' r Q ∧ NewF w r) ∧ Below w.heap.size w w'
theorem int_len (n : Int) (h1 : -9223372036854775808 ≤ n) (h2 : n ≤ 9223372036854775807) : (digs n.natAbs).length ≤ 2 := by
  have e : (4294967296 : Nat) ^ 2 = 18446744073709551616 := by decide
  refine len_digs_le.2 ?_
  rw [e]; omega
/-- What two whole numbers make. -/
def makeQ (p q : Int) : Rat := mkRat (if (decide (p < 0) != decide (q < 0)) = true then -(p.natAbs : Int) else p.natAbs) q.natAbs
end Go.Proofs.Ytlaphdlocchagaa
