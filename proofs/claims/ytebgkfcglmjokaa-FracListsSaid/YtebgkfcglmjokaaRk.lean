/- Ratios: order, floor. -/
import Derived.Test.YtebgkfcglmjokaaRj
import Derived.Deep.DrawnRows
namespace Go.Proofs.Ytebgkfcglmjokaa
open Go.RowKit
attribute [local go_sem ↓] Go.wp_at_zero Go.wp_at_succ

theorem sign_x {w : World} {u : Value} {b : Bool} {z s : Int} (hu : IsW w u (digs z.natAbs)) (hb : b = decide (z < 0)) (hs : s = z.sign) :
    Calls Try.prog 84 #[.agg #[u, .bool b]] w fun e w' => e = .returned (.int .i64 s) ∧ Below w.heap.size w w' := by
  subst hb; subst hs
  exact sign_w ⟨_, rfl, hu⟩

set_option maxRecDepth 4000 in
set_option maxHeartbeats 4000000 in
theorem rcompare_q {w : World} {v d : Value} {q p : Rat} (hv : RatQ w v q) (hd : RatQ w d p) (hlen : lenQ q + lenQ p ≤ 536870912) :
    Calls Try.prog 81 #[v, d] w fun e w' => e = .returned (.int .i64 (cmpQ q p)) ∧ Below w.heap.size w w' := by
  obtain ⟨u1, d1, rfl, hu1, hd1⟩ := hv
  obtain ⟨u2, d2, rfl, hu2, hd2⟩ := hd
  obtain ⟨ua, un, uc, hue⟩ := hu1.form
  subst hue
  obtain ⟨da, dn, dc, hde⟩ := hd1.form
  subst hde
  obtain ⟨va, vn, vc, hve⟩ := hu2.form
  subst hve
  obtain ⟨ea, en, ec, hee⟩ := hd2.form
  subst hee
  have HU := Lib.hid hu1
  have HD := Lib.hid hd1
  have HV := Lib.hid hu2
  have HE := Lib.hid hd2
  have HL : Hid ((digs q.num.natAbs).length + (digs q.den).length + ((digs p.num.natAbs).length + (digs p.den).length) ≤ 536870912) := Lib.hid hlen
  clear hu1 hd1 hu2 hd2 hlen
  obtain ⟨b, hb⟩ : ∃ b, b = decide (q.num < 0) := ⟨_, rfl⟩
  obtain ⟨c, hc⟩ : ∃ c, c = decide (p.num < 0) := ⟨_, rfl⟩
  have HBQ := Lib.hid hb
  have HCQ := Lib.hid hc
  rw [← hb, ← hc]
  obtain ⟨sa, hsa⟩ : ∃ x, x = q.num.sign := ⟨_, rfl⟩
  obtain ⟨sb, hsb⟩ : ∃ x, x = p.num.sign := ⟨_, rfl⟩
  have HSA := Lib.hid hsa
  have HSB := Lib.hid hsb
  clear hb hc hsa hsb
  go_enter Try.func81, Try.ntmps81
  go_wp2_with fail
  obtain ⟨w1, hw1⟩ : ∃ w1, w1 = (w.alloc (Obj.cells #[Value.slice ua un uc, Value.bool b, Value.slice da dn dc] 63)).alloc (Obj.cells #[Value.slice va vn vc, Value.bool c, Value.slice ea en ec] 63) := ⟨_, rfl⟩
  rw [← hw1]
  have HB1 : Hid (Below w.heap.size w w1) := Lib.hid (by rw [hw1]; exact ((Below.refl _ _).alloc (Nat.le_refl _) _).alloc (by simp) _)
  have HX : Hid (w1.heap[w.heap.size]? = some (.cells #[Value.slice ua un uc, Value.bool b, Value.slice da dn dc] 63 (0, 0))) := Lib.hid (by rw [hw1]; exact heap_alloc2_old w _ _)
  have HY : Hid (w1.heap[w.heap.size + 1]? = some (.cells #[Value.slice va vn vc, Value.bool c, Value.slice ea en ec] 63 (0, 0))) := Lib.hid (by rw [hw1]; exact heap_alloc2_new w _ _)
  clear hw1
  have R1 : Hid (∀ o v, (#[Value.slice ua un uc, Value.bool b, Value.slice da dn dc] : Array Value)[o]? = some v → ∀ w', Below w1.heap.size w1 w' → w'.cell? ⟨w.heap.size, o, none⟩ = some v) :=
    Lib.hid (fun o v h w' hb => by rw [cell_of_row _ _ _ _ _ _ ((hb.block _ (lt_of_block HX.out)).trans HX.out)]; exact h)
  have R2 : Hid (∀ o v, (#[Value.slice va vn vc, Value.bool c, Value.slice ea en ec] : Array Value)[o]? = some v → ∀ w', Below w1.heap.size w1 w' → w'.cell? ⟨w.heap.size + 1, o, none⟩ = some v) :=
    Lib.hid (fun o v h w' hb => by rw [cell_of_row _ _ _ _ _ _ ((hb.block _ (lt_of_block HY.out)).trans HY.out)]; exact h)
  have HU1 := Lib.hid (HU.out.below HB1.out)
  have HD1 := Lib.hid (HD.out.below HB1.out)
  have HV1 := Lib.hid (HV.out.below HB1.out)
  have HE1 := Lib.hid (HE.out.below HB1.out)
  have hz1 := Below.refl w1.heap.size w1
  have c0 := R1.out 0 _ rfl _ hz1
  have c1 := R1.out 1 _ rfl _ hz1
  have c2 := R1.out 2 _ rfl _ hz1
  have e0 := R2.out 0 _ rfl _ hz1
  have e1 := R2.out 1 _ rfl _ hz1
  have e2 := R2.out 2 _ rfl _ hz1
  have hzd : Below w1.heap.size w1 w1.drew := below_drewN (Below.refl _ _) 1
  by_cases hs : sa = sb
  · have hne : ((sa : Int) != sb) = false := by simp [hs]
    have HS := Lib.hid hs
    clear hs
    go_wp2_with fail
    go_region_held3 (fun w' => w'.cell? ⟨w.heap.size, 0, none⟩ = some (.slice ua un uc) ∧ w'.cell? ⟨w.heap.size, 1, none⟩ = some (.bool b) ∧ w'.cell? ⟨w.heap.size, 2, none⟩ = some (.slice da dn dc) ∧ w'.cell? ⟨w.heap.size + 1, 0, none⟩ = some (.slice va vn vc) ∧ w'.cell? ⟨w.heap.size + 1, 1, none⟩ = some (.bool c) ∧ w'.cell? ⟨w.heap.size + 1, 2, none⟩ = some (.slice ea en ec))
      (((try dsimp only); refine ⟨?_, ?_, ?_, ?_, ?_, ?_⟩ <;> (first | exact R1.out _ _ rfl _ (by assumption) | exact R2.out _ _ rfl _ (by assumption) | go_keep)))
      (first | (go_at_call_of 84 (Value.slice ua un uc); refine (sign_x (HU1.out.below hzd) HBQ.out HSA.out).mono ?_; rintro en2 w2 ⟨rfl, hb2⟩; have hz2 := below_trans hzd hb2) | (go_at_call 84; refine (sign_x (HV1.out.below hz2) HCQ.out HSB.out).mono ?_; rintro en3 w3 ⟨rfl, hb3⟩; have hz3 := below_trans hz2 hb3))
    clear c0 c1 c2 e0 e1 e2 hzd
    have c0 := R1.out 0 _ rfl _ hz3
    have c1 := R1.out 1 _ rfl _ hz3
    have c2 := R1.out 2 _ rfl _ hz3
    have e0 := R2.out 0 _ rfl _ hz3
    have e1 := R2.out 1 _ rfl _ hz3
    have e2 := R2.out 2 _ rfl _ hz3
    clear hz2 hb2 hb3
    go_wp2_with fail
    have hz4 : Below w1.heap.size w1 w3.drew := below_drewN hz3 1
    have HM1 := Lib.hid (fun w' (hb : Below w1.heap.size w1 w') => mul_w (w := w') (HU1.out.below hb) (HE1.out.below hb) (by have := HL.out; omega))
    have HM2 := Lib.hid (fun w' (hb : Below w1.heap.size w1 w') => mul_w (w := w') (HV1.out.below hb) (HD1.out.below hb) (by have := HL.out; omega))
    obtain ⟨cm, hcm⟩ : ∃ x, x = cmpN (q.num.natAbs * p.den) (p.num.natAbs * q.den) := ⟨_, rfl⟩
    have HM3 := Lib.hid (fun w' u v (h1 : IsW w' u (digs (q.num.natAbs * p.den))) (h2 : IsW w' v (digs (p.num.natAbs * q.den))) => compare_d (w := w') h1 h2)
    rw [← hcm] at HM3
    have hcb : -1 ≤ cm ∧ cm ≤ 1 := by rw [hcm]; unfold cmpN; split <;> (try split) <;> omega
    have hsb9 : -1 ≤ sa ∧ sa ≤ 1 := by
      rw [HSA.out]
      rcases Int.lt_trichotomy q.num 0 with h | h | h
      · rw [Int.sign_eq_neg_one_of_neg h]; omega
      · rw [h]; simp
      · rw [Int.sign_eq_one_of_pos h]; omega
    have hpr : -1 ≤ cm * sa ∧ cm * sa ≤ 1 := by
      obtain ⟨h1, h2⟩ := hcb
      obtain ⟨h3, h4⟩ := hsb9
      have h5 : cm = -1 ∨ cm = 0 ∨ cm = 1 := by omega
      rcases h5 with h | h | h <;> subst h <;> omega
    have hwm : IntKind.i64.wrap (cm * sa) = cm * sa := IntWalk.i64_in _ (by omega)
    have HCM := Lib.hid hcm
    clear hcm hcb hsb9
    go_region_held3 (fun w' => w'.cell? ⟨w.heap.size, 0, none⟩ = some (.slice ua un uc) ∧ w'.cell? ⟨w.heap.size, 1, none⟩ = some (.bool b) ∧ w'.cell? ⟨w.heap.size, 2, none⟩ = some (.slice da dn dc) ∧ w'.cell? ⟨w.heap.size + 1, 0, none⟩ = some (.slice va vn vc) ∧ w'.cell? ⟨w.heap.size + 1, 1, none⟩ = some (.bool c) ∧ w'.cell? ⟨w.heap.size + 1, 2, none⟩ = some (.slice ea en ec))
      (((try dsimp only); refine ⟨?_, ?_, ?_, ?_, ?_, ?_⟩ <;> (first | exact R1.out _ _ rfl _ (by assumption) | exact R2.out _ _ rfl _ (by assumption) | go_keep)))
      (first | (go_at_call_of 117 (Value.slice ua un uc); refine (HM1.out _ hz4).mono ?_; rintro en5 w5 ⟨⟨r5, rfl, hr5, hro5⟩, hb5⟩; obtain ⟨a5, n5, k5, he5⟩ := hr5.form; subst he5; have hz5 := below_trans hz4 hb5) | (go_at_call 117; refine (HM2.out _ hz5).mono ?_; rintro en6 w6 ⟨⟨r6, rfl, hr6, hro6⟩, hb6⟩; obtain ⟨a6, n6, k6, he6⟩ := hr6.form; subst he6; have hz6 := below_trans hz5 hb6) | (go_at_call 101; refine (HM3.out _ _ _ (hr5.below hb6) hr6).mono ?_; rintro en7 w7 ⟨rfl, n7, rfl⟩; have hz7 := below_drewN hz6 n7))
    clear c0 c1 c2 e0 e1 e2 hz4 hz5 hz6 hr5 hr6 hro5 hro6 hb5 hb6
    have c0 := R1.out 0 _ rfl _ hz7
    have c1 := R1.out 1 _ rfl _ hz7
    have c2 := R1.out 2 _ rfl _ hz7
    go_wp2_with fail
    refine (sign_x (HU1.out.below hz7) HBQ.out HSA.out).mono ?_
    rintro en8 w8 ⟨rfl, hb8⟩
    go_wp2_with fail
    go_ret
    refine ⟨ret_int ?_, below_trans HB1.out (below_trans hz7 hb8)⟩
    have h9 := HS.out
    rw [HSA.out, HSB.out] at h9
    have h8 := cmp_sizes q p h9
    rw [← HCM.out, ← HSA.out] at h8
    first | exact h8 | (rw [hwm]; exact h8)
  · have hne : ((sa : Int) != sb) = true := by simp [hs]
    have HS := Lib.hid hs
    clear hs
    go_wp2_with fail
    go_region_held3 (fun w' => w'.cell? ⟨w.heap.size, 0, none⟩ = some (.slice ua un uc) ∧ w'.cell? ⟨w.heap.size, 1, none⟩ = some (.bool b) ∧ w'.cell? ⟨w.heap.size, 2, none⟩ = some (.slice da dn dc) ∧ w'.cell? ⟨w.heap.size + 1, 0, none⟩ = some (.slice va vn vc) ∧ w'.cell? ⟨w.heap.size + 1, 1, none⟩ = some (.bool c) ∧ w'.cell? ⟨w.heap.size + 1, 2, none⟩ = some (.slice ea en ec))
      (((try dsimp only); refine ⟨?_, ?_, ?_, ?_, ?_, ?_⟩ <;> (first | exact R1.out _ _ rfl _ (by assumption) | exact R2.out _ _ rfl _ (by assumption) | go_keep)))
      (first | (go_at_call_of 84 (Value.slice ua un uc); refine (sign_x (HU1.out.below hzd) HBQ.out HSA.out).mono ?_; rintro en2 w2 ⟨rfl, hb2⟩; have hz2 := below_trans hzd hb2) | (go_at_call 84; refine (sign_x (HV1.out.below hz2) HCQ.out HSB.out).mono ?_; rintro en3 w3 ⟨rfl, hb3⟩; have hz3 := below_trans hz2 hb3))
    go_wp2_with fail
    refine (order_any _ _ _).mono ?_
    rintro e w' ⟨rfl, rfl⟩
    go_wp2_with fail
    go_ret
    refine ⟨ret_int ?_, below_trans HB1.out hz3⟩
    have h9 := HS.out
    rw [HSA.out, HSB.out] at h9
    have h8 := cmp_signs q p h9
    rw [HSA.out, HSB.out]
    exact h8

theorem signed_x {w : World} {v : Value} {b c : Bool} {x : Nat} {z : Int} (hv : IsW w v (digs x)) (hz : z = if b then -(x : Int) else x) (hc : c = decide (z < 0)) :
    Calls Try.prog 68 #[v, .bool b] w fun e w' => e = .returned (.agg #[v, .bool c]) ∧ Below w.heap.size w w' := by
  refine (signed_l hv b).mono ?_
  rintro e w' ⟨rfl, hb⟩
  refine ⟨?_, hb⟩
  rw [hc, hz]
  congr 4
  cases b with
  | false => simp
  | true => by_cases h : x = 0 <;> simp [zerB, h] <;> omega
theorem signed_abs {b : Bool} {x : Nat} {z : Int} (hz : z = if b then -(x : Int) else x) : z.natAbs = x := by
  rw [hz]; cases b <;> simp

/-- A whole number as a ratio. -/
theorem int_num (z : Int) : ((z : Rat)).num = z := Rat.num_intCast z
theorem int_den (z : Int) : ((z : Rat)).den = 1 := Rat.den_intCast z

set_option maxRecDepth 4000 in
set_option maxHeartbeats 4000000 in
theorem rfloor_q {w : World} {v : Value} {q : Rat} (hv : RatQ w v q) (hlen : lenQ q ≤ 536870912) :
    Calls Try.prog 76 #[v] w fun e w' => (∃ r, e = .returned r ∧ RatQ w' r (q.floor : Rat)) ∧ Below w.heap.size w w' := by
  obtain ⟨u1, d1, rfl, hu1, hd1⟩ := hv
  obtain ⟨ua, un, uc, hue⟩ := hu1.form
  subst hue
  obtain ⟨da, dn, dc, hde⟩ := hd1.form
  subst hde
  have HU := Lib.hid hu1
  have HD := Lib.hid hd1
  have HL : Hid ((digs q.num.natAbs).length + (digs q.den).length ≤ 536870912) := Lib.hid hlen
  clear hu1 hd1 hlen
  obtain ⟨b, hb⟩ : ∃ b, b = decide (q.num < 0) := ⟨_, rfl⟩
  have HBQ := Lib.hid hb
  rw [← hb]
  clear hb
  obtain ⟨fz, hfz⟩ : ∃ x, x = q.floor := ⟨_, rfl⟩
  obtain ⟨fx, hfx⟩ : ∃ x, x = decide (fz < 0) := ⟨_, rfl⟩
  have HFZ := Lib.hid hfz
  have HFX := Lib.hid hfx
  have HF : Hid (fz = if b then -(upN q : Int) else (upN q : Int)) := Lib.hid (by rw [hfz, HBQ.out]; exact (floor_up q).symm)
  have HFA : Hid (fz.natAbs = upN q) := Lib.hid (signed_abs HF.out)
  rw [← hfz]
  clear hfz hfx
  obtain ⟨w1, hw1⟩ : ∃ w1, w1 = (w.alloc (Obj.cells #[Value.slice ua un uc, Value.bool b, Value.slice da dn dc] 63)).alloc (Obj.cells #[Value.slice none 0 0, Value.bool false, Value.slice none 0 0] 63) := ⟨_, rfl⟩
  have HB1 : Hid (Below w.heap.size w w1) := Lib.hid (by rw [hw1]; exact ((Below.refl _ _).alloc (Nat.le_refl _) _).alloc (by simp) _)
  have HX : Hid (w1.heap[w.heap.size]? = some (.cells #[Value.slice ua un uc, Value.bool b, Value.slice da dn dc] 63 (0, 0))) := Lib.hid (by rw [hw1]; exact heap_alloc2_old w _ _)
  have HR : Hid (w1.heap[w.heap.size + 1]? = some (.cells #[Value.slice none 0 0, Value.bool false, Value.slice none 0 0] 63 (0, 0))) := Lib.hid (by rw [hw1]; exact heap_alloc2_new w _ _)
  have HW1 := Lib.hid hw1.symm
  clear hw1
  have R0 : Hid (∀ o v, (#[Value.slice none 0 0, Value.bool false, Value.slice none 0 0] : Array Value)[o]? = some v → ∀ w', Below w1.heap.size w1 w' → w'.cell? ⟨w.heap.size + 1, o, none⟩ = some v ∧ w'.frozen? ⟨w.heap.size + 1, o, none⟩ = false) :=
    Lib.hid (fun o v h w' hb => by
      have h9 : w'.heap[w.heap.size + 1]? = some (.cells #[Value.slice none 0 0, Value.bool false, Value.slice none 0 0] 63 (0, 0)) := (hb.block _ (lt_of_block HR.out)).trans HR.out
      exact ⟨by rw [cell_of_row _ _ _ _ _ _ h9]; exact h, frozen_of_row _ _ _ _ _ h9⟩)
  have R1 : Hid (∀ o v, (#[Value.slice ua un uc, Value.bool b, Value.slice da dn dc] : Array Value)[o]? = some v → ∀ w', Below w1.heap.size w1 w' → w'.cell? ⟨w.heap.size, o, none⟩ = some v) :=
    Lib.hid (fun o v h w' hb => by rw [cell_of_row _ _ _ _ _ _ ((hb.block _ (lt_of_block HX.out)).trans HX.out)]; exact h)
  have HU1 := Lib.hid (HU.out.below HB1.out)
  have HD1 := Lib.hid (HD.out.below HB1.out)
  have hz1 := Below.refl w1.heap.size w1
  have c0 := R1.out 0 _ rfl _ hz1
  have c1 := R1.out 1 _ rfl _ hz1
  have c2 := R1.out 2 _ rfl _ hz1
  go_enter Try.func76, Try.ntmps76
  go_wp2_with fail
  rw [HW1.out]
  refine (div_w HU1.out HD1.out q.den_pos (by have := HL.out; omega)).mono ?_
  rintro en2 w2 ⟨⟨wv, rv, rfl, hwv, hrv, hwo, hro⟩, hz2⟩
  obtain ⟨wa, wn, wc, hwe⟩ := hwv.form
  subst hwe
  have HWV := Lib.hid hwv
  have HRV := Lib.hid hrv
  have hz2' := Lib.hid hz2
  clear c0 c1 c2 hwv hrv hwo hro hz1
  have c0 := R1.out 0 _ rfl _ hz2
  have c1 := R1.out 1 _ rfl _ hz2
  have c2 := R1.out 2 _ rfl _ hz2
  cases b with
  | false =>
    have hup : Hid (upN q = q.num.natAbs / q.den) := Lib.hid (by unfold upN; rw [if_neg]; rintro ⟨h, -⟩; have h9 := HBQ.out; rw [eq_comm, decide_eq_false_iff_not] at h9; exact h9 h)
    go_wp2_with fail
    refine (signed_x (z := fz) HWV.out (by rw [← hup.out]; exact HF.out) HFX.out).mono ?_
    rintro en5 w5 ⟨rfl, hb5⟩
    have hz5 := below_trans hz2 hb5
    clear c0 c1 c2
    go_wp2_with fail
    refine one_w.mono ?_
    rintro en6 w6 ⟨⟨r6, rfl, hr6, hro6⟩, hb6⟩
    obtain ⟨a6, n6, k6, he6⟩ := hr6.form
    subst he6
    have hz6 := below_trans hz5 hb6
    have r0 := (R0.out 0 _ rfl _ hz6).1
    have r1 := (R0.out 1 _ rfl _ hz6).1
    have r2 := (R0.out 2 _ rfl _ hz6).1
    have f0 := (R0.out 0 _ rfl _ hz6).2
    have f1 := (R0.out 1 _ rfl _ hz6).2
    have f2 := (R0.out 2 _ rfl _ hz6).2
    have HR6 : Hid (w6.heap[w.heap.size + 1]? = some (.cells #[Value.slice none 0 0, Value.bool false, Value.slice none 0 0] 63 (0, 0))) := Lib.hid ((hz6.block _ (lt_of_block HR.out)).trans HR.out)
    have HBW := Lib.hid (below_trans HB1.out hz6)
    have HNU : Hid (IsW w6 (Value.slice wa wn wc) (digs fz.natAbs)) := Lib.hid (by rw [HFA.out, hup.out]; exact (HWV.out).below (below_trans hb5 hb6))
    have HND := Lib.hid hr6
    clear hz5 hz6 hr6 hro6 hb5 hb6
    go_wp2_with fail
    have h9 := rat3_q (q := (fz : Rat)) (u := Value.slice wa wn wc) (d := Value.slice a6 n6 k6) HR6.out (by rw [int_num]; exact HNU.out) (by rw [int_den]; exact HND.out)
    rw [int_num, ← HFX.out] at h9
    exact bodyPost_ret (results_cell_row rfl _ _ (w.heap.size + 1) _ _ _ _ rfl (rat3_heap HR6.out) Try.underlying63 rfl irat) rfl ⟨⟨_, rfl, h9⟩, below_only HBW.out (rat3_only _ _ _ _ _) (by omega)⟩
  | true =>
    have HN0 : Hid (q.num < 0) := Lib.hid (by have h9 := HBQ.out; rw [eq_comm, decide_eq_true_iff] at h9; exact h9)
    by_cases hr0 : q.num.natAbs % q.den = 0
    · have hzb := zerB_true hr0
      have hup : Hid (upN q = q.num.natAbs / q.den) := Lib.hid (by unfold upN; rw [if_neg]; rintro ⟨-, h⟩; exact h hr0)
      clear hr0
      go_wp2_with fail
      refine (isZero_w HRV.out).mono ?_
      rintro en3 w3 ⟨rfl, rfl⟩
      go_wp2_with fail
      refine (signed_x (z := fz) HWV.out (by rw [← hup.out]; exact HF.out) HFX.out).mono ?_
      rintro en5 w5 ⟨rfl, hb5⟩
      have hz5 := below_trans hz2 hb5
      clear c0 c1 c2
      go_wp2_with fail
      refine one_w.mono ?_
      rintro en6 w6 ⟨⟨r6, rfl, hr6, hro6⟩, hb6⟩
      obtain ⟨a6, n6, k6, he6⟩ := hr6.form
      subst he6
      have hz6 := below_trans hz5 hb6
      have r0 := (R0.out 0 _ rfl _ hz6).1
      have r1 := (R0.out 1 _ rfl _ hz6).1
      have r2 := (R0.out 2 _ rfl _ hz6).1
      have f0 := (R0.out 0 _ rfl _ hz6).2
      have f1 := (R0.out 1 _ rfl _ hz6).2
      have f2 := (R0.out 2 _ rfl _ hz6).2
      have HR6 : Hid (w6.heap[w.heap.size + 1]? = some (.cells #[Value.slice none 0 0, Value.bool false, Value.slice none 0 0] 63 (0, 0))) := Lib.hid ((hz6.block _ (lt_of_block HR.out)).trans HR.out)
      have HBW := Lib.hid (below_trans HB1.out hz6)
      have HNU : Hid (IsW w6 (Value.slice wa wn wc) (digs fz.natAbs)) := Lib.hid (by rw [HFA.out, hup.out]; exact (HWV.out).below (below_trans hb5 hb6))
      have HND := Lib.hid hr6
      clear hz5 hz6 hr6 hro6 hb5 hb6
      go_wp2_with fail
      have h9 := rat3_q (q := (fz : Rat)) (u := Value.slice wa wn wc) (d := Value.slice a6 n6 k6) HR6.out (by rw [int_num]; exact HNU.out) (by rw [int_den]; exact HND.out)
      rw [int_num, ← HFX.out] at h9
      exact bodyPost_ret (results_cell_row rfl _ _ (w.heap.size + 1) _ _ _ _ rfl (rat3_heap HR6.out) Try.underlying63 rfl irat) rfl ⟨⟨_, rfl, h9⟩, below_only HBW.out (rat3_only _ _ _ _ _) (by omega)⟩
    · have hzb := zerB_false hr0
      have hup : Hid (upN q = q.num.natAbs / q.den + 1) := Lib.hid (by unfold upN; rw [if_pos ⟨HN0.out, hr0⟩])
      have hlq : Hid ((digs (q.num.natAbs / q.den)).length < 1073741824) := Lib.hid (by have h1 := len_digs_mono (Nat.div_le_self q.num.natAbs q.den); have h2 := HL.out; omega)
      have hl1 : Hid ((digs 1).length < 1073741824) := Lib.hid (by have h1 : digs 1 = [1] := (by unfold digs; simp [digs]); rw [h1]; simp)
      clear hr0
      go_wp2_with fail
      refine (isZero_w HRV.out).mono ?_
      rintro en3 w3 ⟨rfl, rfl⟩
      go_wp2_with fail
      refine one_w.mono ?_
      rintro en4 w4 ⟨⟨r4, rfl, hr4, hro4⟩, hb4⟩
      have HW4 := Lib.hid (HWV.out.below hb4)
      have HO4 := Lib.hid hr4
      have hz4 := below_trans hz2 hb4
      clear hr4 hro4
      go_wp2_with fail
      refine (add_w HW4.out HO4.out hlq.out hl1.out).mono ?_
      rintro en7 w7 ⟨⟨r7, rfl, hr7, hro7⟩, hb7⟩
      obtain ⟨a7, n7, k7, he7⟩ := hr7.form
      subst he7
      have HW7 := Lib.hid hr7
      have hz7 := below_trans hz4 hb7
      clear c0 c1 c2 hr7 hro7
      have c0 := R1.out 0 _ rfl _ hz7
      have c1 := R1.out 1 _ rfl _ hz7
      have c2 := R1.out 2 _ rfl _ hz7
      go_wp2_with fail
      refine (signed_x (z := fz) HW7.out (by rw [← hup.out]; exact HF.out) HFX.out).mono ?_
      rintro en5 w5 ⟨rfl, hb5⟩
      have hz5 := below_trans hz7 hb5
      clear c0 c1 c2
      go_wp2_with fail
      refine one_w.mono ?_
      rintro en6 w6 ⟨⟨r6, rfl, hr6, hro6⟩, hb6⟩
      obtain ⟨a6, n6, k6, he6⟩ := hr6.form
      subst he6
      have hz6 := below_trans hz5 hb6
      have r0 := (R0.out 0 _ rfl _ hz6).1
      have r1 := (R0.out 1 _ rfl _ hz6).1
      have r2 := (R0.out 2 _ rfl _ hz6).1
      have f0 := (R0.out 0 _ rfl _ hz6).2
      have f1 := (R0.out 1 _ rfl _ hz6).2
      have f2 := (R0.out 2 _ rfl _ hz6).2
      have HR6 : Hid (w6.heap[w.heap.size + 1]? = some (.cells #[Value.slice none 0 0, Value.bool false, Value.slice none 0 0] 63 (0, 0))) := Lib.hid ((hz6.block _ (lt_of_block HR.out)).trans HR.out)
      have HBW := Lib.hid (below_trans HB1.out hz6)
      have HNU : Hid (IsW w6 (Value.slice a7 n7 k7) (digs fz.natAbs)) := Lib.hid (by rw [HFA.out, hup.out]; exact (HW7.out).below (below_trans hb5 hb6))
      have HND := Lib.hid hr6
      clear hz5 hz6 hr6 hro6 hb5 hb6
      go_wp2_with fail
      have h9 := rat3_q (q := (fz : Rat)) (u := Value.slice a7 n7 k7) (d := Value.slice a6 n6 k6) HR6.out (by rw [int_num]; exact HNU.out) (by rw [int_den]; exact HND.out)
      rw [int_num, ← HFX.out] at h9
      exact bodyPost_ret (results_cell_row rfl _ _ (w.heap.size + 1) _ _ _ _ rfl (rat3_heap HR6.out) Try.underlying63 rfl irat) rfl ⟨⟨_, rfl, h9⟩, below_only HBW.out (rat3_only _ _ _ _ _) (by omega)⟩
end Go.Proofs.Ytebgkfcglmjokaa
