/- Several texts in one: Rj, Rk. -/
import Derived.Test.YtlaphdlocchagaaGreatZ13
import Derived.Deep.DrawnRows
import Derived.Deep.DeepCutAuto
/- Ratios: sums. -/
namespace Go.Proofs.YtlaphdlocchagaaGreat
open Go.RowKit
attribute [local go_sem ↓] Go.wp_at_zero Go.wp_at_succ

theorem kept_alloc {W w' : World} {cs : Array Value} {t : TypeId} (hb : Below (W.alloc (.cells cs t)).heap.size (W.alloc (.cells cs t)) w') : w'.heap[W.heap.size]? = some (.cells cs t (0, 0)) :=
  (hb.block _ (by simp)).trans (heap_alloc_new W _)
theorem num_cells : ∀ (j k : Nat), (#[Value.slice none 0 0, Value.bool false] : Array Value)[j]? ≠ some (U k) := by
  intro j k h
  match j, h with
  | 0, h => simp [U] at h
  | 1, h => simp [U] at h
  | (j + 2), h => simp at h
/-- The cells of a number's block that is still empty. -/
theorem row_num {w : World} {B : Nat} {t : TypeId} (h : w.heap[B]? = some (.cells #[Value.slice none 0 0, Value.bool false] t (0, 0))) :
    w.cell? ⟨B, 0, none⟩ = some (Value.slice none 0 0) ∧ w.cell? ⟨B, 1, none⟩ = some (Value.bool false) ∧ w.frozen? ⟨B, 0, none⟩ = false ∧ w.frozen? ⟨B, 1, none⟩ = false :=
  ⟨by rw [cell_of_row _ _ _ _ _ _ h]; rfl, by rw [cell_of_row _ _ _ _ _ _ h]; rfl, frozen_of_row _ _ 0 _ _ h, frozen_of_row _ _ 1 _ _ h⟩

set_option maxRecDepth 4000 in
set_option maxHeartbeats 4000000 in
theorem rplus_q {w : World} {v d : Value} {q p : Rat} (hv : RatQ w v q) (hd : RatQ w d p) (hlen : lenQ q + lenQ p ≤ 178956970) :
    Calls Tryz.prog 134 #[v, d] w fun e w' => (∃ r, e = .returned r ∧ RatQ w' r (q + p)) ∧ Below w.heap.size w w' := by
  obtain ⟨u1, d1, rfl, hu1, hd1⟩ := hv
  obtain ⟨u2, d2, rfl, hu2, hd2⟩ := hd
  obtain ⟨ua, un, uc, hue⟩ := hu1.form
  subst hue
  obtain ⟨da, dn, dc, hde⟩ := hd1.form
  subst hde
  obtain ⟨va, vn, vc, hve⟩ := hu2.form
  subst hve
  obtain ⟨ea, en, ec, hee⟩ := hd2.form
  subst hee
  have HU := Lib.hid hu1
  have HD := Lib.hid hd1
  have HV := Lib.hid hu2
  have HE := Lib.hid hd2
  have HL : Hid ((digs q.num.natAbs).length + (digs q.den).length + ((digs p.num.natAbs).length + (digs p.den).length) ≤ 178956970) := Lib.hid hlen
  clear hu1 hd1 hu2 hd2 hlen
  obtain ⟨b, hb⟩ : ∃ b, b = decide (q.num < 0) := ⟨_, rfl⟩
  obtain ⟨c, hc⟩ : ∃ c, c = decide (p.num < 0) := ⟨_, rfl⟩
  have HBQ := Lib.hid hb
  have HCQ := Lib.hid hc
  rw [← hb, ← hc]
  obtain ⟨g, hg⟩ : ∃ g, g = Nat.gcd q.den p.den := ⟨_, rfl⟩
  have HG := Lib.hid hg
  have hg0 : 0 < g := by rw [hg]; exact Nat.gcd_pos_of_pos_right _ p.den_pos
  obtain ⟨ad, had⟩ : ∃ x, x = q.den / g := ⟨_, rfl⟩
  obtain ⟨bd, hbd⟩ : ∃ x, x = p.den / g := ⟨_, rfl⟩
  obtain ⟨N, hN⟩ : ∃ x, x = sumNum q p := ⟨_, rfl⟩
  obtain ⟨h, hh⟩ : ∃ x, x = sumGcd q p := ⟨_, rfl⟩
  have HAD := Lib.hid had
  have HBD := Lib.hid hbd
  have HNN := Lib.hid hN
  have HH : Hid (h = Nat.gcd N.natAbs g) := Lib.hid (by rw [hh, hN, hg]; rfl)
  have hh0 : 0 < h := by rw [HH.out]; exact Nat.gcd_pos_of_pos_right _ hg0
  obtain ⟨N1, hN1⟩ : ∃ x, x = q.num * (bd : Int) := ⟨_, rfl⟩
  obtain ⟨N2, hN2⟩ : ∃ x, x = p.num * (ad : Int) := ⟨_, rfl⟩
  have HN1 := Lib.hid hN1
  have HN2 := Lib.hid hN2
  have HN12 : Hid (N = N1 + N2) := Lib.hid (by rw [hN1, hN2, hN, had, hbd, hg]; rfl)
  obtain ⟨nz, hnz⟩ : ∃ x, x = (q + p).num := ⟨_, rfl⟩
  have HNZ := Lib.hid hnz
  have HNH : Hid (N = nz * (h : Int)) := Lib.hid (by rw [hnz, hN, hh]; exact sum_num q p)
  have HDD : Hid ((q + p).den = ad * (p.den / h)) := Lib.hid (by rw [had, hh, hg]; exact sum_den q p)
  have HLA : Hid ((digs ad).length ≤ (digs q.den).length) := Lib.hid (len_digs_mono (by rw [had]; exact Nat.div_le_self _ _))
  have HLB : Hid ((digs bd).length ≤ (digs p.den).length) := Lib.hid (len_digs_mono (by rw [hbd]; exact Nat.div_le_self _ _))
  have HL1 : Hid ((digs N1.natAbs).length ≤ (digs q.num.natAbs).length + (digs bd).length) := Lib.hid (by rw [hN1, Int.natAbs_mul, Int.natAbs_natCast]; exact len_digs_mul _ _)
  have HL2 : Hid ((digs N2.natAbs).length ≤ (digs p.num.natAbs).length + (digs ad).length) := Lib.hid (by rw [hN2, Int.natAbs_mul, Int.natAbs_natCast]; exact len_digs_mul _ _)
  have HL3 : Hid ((digs N.natAbs).length ≤ (digs N1.natAbs).length + (digs N2.natAbs).length + 1) := Lib.hid (by
    rw [HN12.out]
    refine Nat.le_trans (len_digs_mono (Int.natAbs_add_le N1 N2)) (len_digs_add _ _ _ (by omega) (by omega)))
  obtain ⟨x1, hx1⟩ : ∃ x, x = decide (N1 < 0) := ⟨_, rfl⟩
  obtain ⟨x2, hx2⟩ : ∃ x, x = decide (N2 < 0) := ⟨_, rfl⟩
  obtain ⟨x3, hx3⟩ : ∃ x, x = decide (N < 0) := ⟨_, rfl⟩
  obtain ⟨x4, hx4⟩ : ∃ x, x = decide (nz < 0) := ⟨_, rfl⟩
  have HX1 := Lib.hid hx1
  have HX2 := Lib.hid hx2
  have HX3 := Lib.hid hx3
  have HX4 := Lib.hid hx4
  clear hb hc hg had hbd hN hh hN1 hN2 hnz hx1 hx2 hx3 hx4
  go_enter Tryz.func134, Tryz.ntmps134
  go_wp2_with fail
  obtain ⟨w1, hw1⟩ : ∃ w1, w1 = ((w.alloc (Obj.cells #[Value.slice ua un uc, Value.bool b, Value.slice da dn dc] 93)).alloc (Obj.cells #[Value.slice va vn vc, Value.bool c, Value.slice ea en ec] 93)).alloc (Obj.cells #[Value.slice none 0 0, Value.bool false, Value.slice none 0 0] 93) := ⟨_, rfl⟩
  rw [← hw1]
  have HB1 : Hid (Below w.heap.size w w1) := Lib.hid (by rw [hw1]; exact (((Below.refl _ _).alloc (Nat.le_refl _) _).alloc (by simp) _).alloc (by simp; omega) _)
  have HX : Hid (w1.heap[w.heap.size]? = some (.cells #[Value.slice ua un uc, Value.bool b, Value.slice da dn dc] 93 (0, 0))) := Lib.hid (by rw [hw1]; exact alloc3_0 w _ _ _)
  have HY : Hid (w1.heap[w.heap.size + 1]? = some (.cells #[Value.slice va vn vc, Value.bool c, Value.slice ea en ec] 93 (0, 0))) := Lib.hid (by rw [hw1]; exact alloc3_1 w _ _ _)
  have HR : Hid (w1.heap[w.heap.size + 2]? = some (.cells #[Value.slice none 0 0, Value.bool false, Value.slice none 0 0] 93 (0, 0))) := Lib.hid (by rw [hw1]; exact alloc3_new w _ _ _)
  clear hw1
  have R0 : Hid (∀ o v, (#[Value.slice none 0 0, Value.bool false, Value.slice none 0 0] : Array Value)[o]? = some v → ∀ w', Below w1.heap.size w1 w' → w'.cell? ⟨w.heap.size + 2, o, none⟩ = some v ∧ w'.frozen? ⟨w.heap.size + 2, o, none⟩ = false) :=
    Lib.hid (fun o v h w' hb => by
      have h9 : w'.heap[w.heap.size + 2]? = some (.cells #[Value.slice none 0 0, Value.bool false, Value.slice none 0 0] 93 (0, 0)) := (hb.block _ (lt_of_block HR.out)).trans HR.out
      exact ⟨by rw [cell_of_row _ _ _ _ _ _ h9]; exact h, frozen_of_row _ _ _ _ _ h9⟩)
  have R1 : Hid (∀ o v, (#[Value.slice ua un uc, Value.bool b, Value.slice da dn dc] : Array Value)[o]? = some v → ∀ w', Below w1.heap.size w1 w' → w'.cell? ⟨w.heap.size, o, none⟩ = some v) :=
    Lib.hid (fun o v h w' hb => by rw [cell_of_row _ _ _ _ _ _ ((hb.block _ (lt_of_block HX.out)).trans HX.out)]; exact h)
  have R2 : Hid (∀ o v, (#[Value.slice va vn vc, Value.bool c, Value.slice ea en ec] : Array Value)[o]? = some v → ∀ w', Below w1.heap.size w1 w' → w'.cell? ⟨w.heap.size + 1, o, none⟩ = some v) :=
    Lib.hid (fun o v h w' hb => by rw [cell_of_row _ _ _ _ _ _ ((hb.block _ (lt_of_block HY.out)).trans HY.out)]; exact h)
  have HU1 := Lib.hid (HU.out.below HB1.out)
  have HD1 := Lib.hid (HD.out.below HB1.out)
  have HV1 := Lib.hid (HV.out.below HB1.out)
  have HE1 := Lib.hid (HE.out.below HB1.out)
  have HC1 := Lib.hid (gcd_w HD1.out HE1.out (by have := HL.out; omega) (by have := HL.out; omega))
  rw [← HG.out] at HC1
  refine HC1.out.mono ?_
  rintro en2 w2 ⟨⟨gv, rfl, hgv, hgo⟩, hz2⟩
  obtain ⟨ga, gn, gc, hge⟩ := hgv.form
  subst hge
  have HG2 := Lib.hid hgv
  have c0 := R1.out 0 _ rfl _ hz2
  have c1 := R1.out 1 _ rfl _ hz2
  have c2 := R1.out 2 _ rfl _ hz2
  clear hgv hgo
  go_wp2_with fail
  refine (over_w (HD1.out.below hz2) HG2.out hg0 (by have := HL.out; omega)).mono ?_
  rintro en3 w3 ⟨⟨rv, rfl, hrv, hro⟩, hb3⟩
  obtain ⟨ra, rn, rc, hre⟩ := hrv.form
  subst hre
  have HRV : Hid (IsW w3 (Value.slice ra rn rc) (digs ad)) := Lib.hid (by rw [HAD.out]; exact hrv)
  have hz3 := below_trans hz2 hb3
  have HG3 := Lib.hid (HG2.out.below hb3)
  clear c0 c1 c2 hrv hro hb3
  have hz0 : Below w3.heap.size w3 w3.drew := below_drewN (Below.refl _ _) 1
  have hs3 : w.heap.size + 3 ≤ w3.heap.size := by have h1 := hz3.size; have h2 := lt_of_block HR.out; omega
  have HZ3 := Lib.hid hz3
  have HK4 := Lib.hid (fun w' (hb : Below w3.heap.size w3 w') => over_w (w := w') ((HE1.out.below HZ3.out).below hb) (HG3.out.below hb) hg0 (by have := HL.out; omega))
  rw [← HBD.out] at HK4
  have HK5 := Lib.hid (fun w' (hb : Below w3.heap.size w3 w') u (h : IsW w' u (digs bd)) => scale_x (w := w') (d := u) (q := N1) (x := x1) ((HU1.out.below HZ3.out).below hb) HBQ.out h (by have := HL.out; have := HLB.out; omega) HN1.out HX1.out)
  have HK6 := Lib.hid (fun w' (hb : Below w3.heap.size w3 w') => scale_x (w := w') (q := N2) (x := x2) ((HV1.out.below HZ3.out).below hb) HCQ.out (HRV.out.below hb) (by have := HL.out; have := HLA.out; omega) HN2.out HX2.out)
  have HK7 := Lib.hid (fun w' u1 u2 (h1 : IsW w' u1 (digs N1.natAbs)) (h2 : IsW w' u2 (digs N2.natAbs)) => plus_x (w := w') (u := u1) (d := u2) (q := N) (x := x3) h1 HX1.out h2 HX2.out (by have := HL.out; have := HL1.out; have := HLB.out; omega) (by have := HL.out; have := HL2.out; have := HLA.out; omega) HN12.out HX3.out)
  have Q1 : Hid (∀ o v, (#[Value.slice ua un uc, Value.bool b, Value.slice da dn dc] : Array Value)[o]? = some v → ∀ w', Below w3.heap.size w3 w' → w'.cell? ⟨w.heap.size, o, none⟩ = some v) := Lib.hid (fun o v h w' hb => R1.out o v h w' (below_trans HZ3.out hb))
  have Q2 : Hid (∀ o v, (#[Value.slice va vn vc, Value.bool c, Value.slice ea en ec] : Array Value)[o]? = some v → ∀ w', Below w3.heap.size w3 w' → w'.cell? ⟨w.heap.size + 1, o, none⟩ = some v) := Lib.hid (fun o v h w' hb => R2.out o v h w' (below_trans HZ3.out hb))
  have c0 := R1.out 0 _ rfl _ hz3
  have c1 := R1.out 1 _ rfl _ hz3
  have c2 := R1.out 2 _ rfl _ hz3
  have e0 := R2.out 0 _ rfl _ hz3
  have e1 := R2.out 1 _ rfl _ hz3
  have e2 := R2.out 2 _ rfl _ hz3
  clear hz2 hz3
  go_wp2_with fail
  go_cut [7] (fun pv wr => ∃ (B : Nat) (na : Option Addr) (nn nc : Nat), pv = .pointer (some ⟨B, 0, none⟩) ∧ Hid (wr.heap[B]? = some (.cells #[Value.slice na nn nc, Value.bool x3] 91 (0, 0))) ∧ Hid (IsW wr (Value.slice na nn nc) (digs N.natAbs)) ∧ Hid (Below w3.heap.size w3 wr))
  case first =>
    go_region_held3 (fun w' => w'.cell? ⟨w.heap.size, 0, none⟩ = some (.slice ua un uc) ∧ w'.cell? ⟨w.heap.size, 1, none⟩ = some (.bool b) ∧ w'.cell? ⟨w.heap.size, 2, none⟩ = some (.slice da dn dc) ∧ w'.cell? ⟨w.heap.size + 1, 0, none⟩ = some (.slice va vn vc) ∧ w'.cell? ⟨w.heap.size + 1, 1, none⟩ = some (.bool c) ∧ w'.cell? ⟨w.heap.size + 1, 2, none⟩ = some (.slice ea en ec))
      (((try dsimp only); refine ⟨?_, ?_, ?_, ?_, ?_, ?_⟩ <;> (first | exact Q1.out _ _ rfl _ (by first | assumption | exact Below.alloc (by assumption) (by assumption) _) | exact Q2.out _ _ rfl _ (by first | assumption | exact Below.alloc (by assumption) (by assumption) _) | (rw [World.cell?_setCell_far _ _ _ _ (by dsimp only; omega), World.cell?_setCell_far _ _ _ _ (by dsimp only; omega)]; first | exact Q1.out _ _ rfl _ (by first | assumption | exact Below.alloc (by assumption) (by assumption) _) | exact Q2.out _ _ rfl _ (by first | assumption | exact Below.alloc (by assumption) (by assumption) _)) | go_keep)))
      (first | (go_at_call 133; refine (HK4.out _ (by first | exact hz0 | exact hz0.alloc hz0.size _)).mono ?_; rintro en4 w4 ⟨⟨r4, rfl, hr4, ho4⟩, hb4⟩; obtain ⟨a4, n4, k4, he4⟩ := hr4.form; subst he4; have hz4 : Below w3.heap.size w3 w4 := (by first | exact below_trans hz0 hb4 | exact below_trans (hz0.alloc hz0.size _) hb4); have hs4 := hz4.size; (try have hq4 : w4.heap[w3.heap.size]? = some (.cells #[Value.slice none 0 0, Value.bool false] 91 (0, 0)) := kept_alloc (W := w3.drew) hb4); (try (have q40 := (row_num hq4).1; have q41 := (row_num hq4).2.1; have q42 := (row_num hq4).2.2.1; have q43 := (row_num hq4).2.2.2))) | (go_at_call_of 157 (Value.slice a4 n4 k4); refine (HK5.out _ (by first | exact hz4 | exact hz4.alloc hz4.size _) _ (by first | exact hr4 | exact hr4.below ((Below.refl _ _).alloc (Nat.le_refl _) _))).mono ?_; rintro en5 w5 ⟨⟨r5, rfl, hr5⟩, hb5⟩; obtain ⟨a5, n5, k5, he5⟩ := hr5.form; subst he5; have hz5 : Below w3.heap.size w3 w5 := (by first | exact below_trans hz4 hb5 | exact below_trans (hz4.alloc hz4.size _) hb5); have hs5 := hz5.size; (try have hq5 : w5.heap[w4.heap.size]? = some (.cells #[Value.slice none 0 0, Value.bool false] 91 (0, 0)) := kept_alloc hb5); (try have hq5 := (hb5.block _ (lt_of_block hq4)).trans hq4); (try (have q50 := (row_num hq5).1; have q51 := (row_num hq5).2.1; have q52 := (row_num hq5).2.2.1; have q53 := (row_num hq5).2.2.2))) | (go_at_call 157; refine (HK6.out _ (by first | exact hz5 | exact hz5.alloc hz5.size _)).mono ?_; rintro en6 w6 ⟨⟨r6, rfl, hr6⟩, hb6⟩; obtain ⟨a6, n6, k6, he6⟩ := hr6.form; subst he6; have hz6 : Below w3.heap.size w3 w6 := (by first | exact below_trans hz5 hb6 | exact below_trans (hz5.alloc hz5.size _) hb6); have hs6 := hz6.size; (try have hq6 : w6.heap[w5.heap.size]? = some (.cells #[Value.slice none 0 0, Value.bool false] 91 (0, 0)) := kept_alloc hb6); (try have hq6 := (hb6.block _ (lt_of_block hq5)).trans hq5); (try (have q60 := (row_num hq6).1; have q61 := (row_num hq6).2.1; have q62 := (row_num hq6).2.2.1; have q63 := (row_num hq6).2.2.2))) | (go_at_call 158; refine (HK7.out _ _ _ (by first | exact hr5.below hb6 | exact (hr5.below ((Below.refl _ _).alloc (Nat.le_refl _) _)).below hb6 | exact (hr5.below hb6).below ((Below.refl _ _).alloc (Nat.le_refl _) _)) (by first | exact hr6 | exact hr6.below ((Below.refl _ _).alloc (Nat.le_refl _) _))).mono ?_; rintro en7 w7 ⟨⟨r7, rfl, hr7⟩, hb7⟩; obtain ⟨a7, n7, k7, he7⟩ := hr7.form; subst he7; have hz7 : Below w3.heap.size w3 w7 := (by first | exact below_trans hz6 hb7 | exact below_trans (hz6.alloc hz6.size _) hb7); have hs7 := hz7.size; (try have hq7 : w7.heap[w6.heap.size]? = some (.cells #[Value.slice none 0 0, Value.bool false] 91 (0, 0)) := kept_alloc hb7); (try have hq7 := (hb7.block _ (lt_of_block hq6)).trans hq6); (try (have q70 := (row_num hq7).1; have q71 := (row_num hq7).2.1; have q72 := (row_num hq7).2.2.1; have q73 := (row_num hq7).2.2.2))))
    all_goals
      go_wp2_with fail
      go_meet
    all_goals first
      | exact ⟨_, _, _, _, rfl, Lib.hid (heap_alloc_new w7 _), Lib.hid (hr7.below ((Below.refl _ _).alloc (Nat.le_refl _) _)), Lib.hid (hz7.alloc hz7.size _)⟩
      | exact ⟨_, _, _, _, rfl, Lib.hid (heap_setCell_same _ _ 1 _ _ _ (heap_setCell_same _ _ 0 _ _ _ hq7)), Lib.hid (hr7.other hq7 num_cells (((Only.refl _ w7).setCell 0 _).setCell 1 _)), Lib.hid (below_only hz7 (((Only.refl _ w7).setCell 0 _).setCell 1 _) (by omega))⟩
  case rest =>
    obtain ⟨w8, rfl⟩ : ∃ w8 : World, w8 = wc := ⟨_, rfl⟩
    obtain ⟨B, na, nn, nc, rfl, HB8, HN8, HZ8⟩ := hcut
    clear c0 c1 c2 e0 e1 e2
    have c0 := Q1.out 0 _ rfl _ HZ8.out
    have c1 := Q1.out 1 _ rfl _ HZ8.out
    have c2 := Q1.out 2 _ rfl _ HZ8.out
    have e0 := Q2.out 0 _ rfl _ HZ8.out
    have e1 := Q2.out 1 _ rfl _ HZ8.out
    have e2 := Q2.out 2 _ rfl _ HZ8.out
    have b0 : w8.cell? ⟨B, 0, none⟩ = some (Value.slice na nn nc) := by rw [cell_of_row _ _ _ _ _ _ HB8.out]; rfl
    have b1 : w8.cell? ⟨B, 1, none⟩ = some (Value.bool x3) := by rw [cell_of_row _ _ _ _ _ _ HB8.out]; rfl
    go_wp2_with fail
    refine (gcd_w HN8.out (HG3.out.below HZ8.out) (by have := HL.out; have := HL1.out; have := HL2.out; have := HL3.out; have := HLA.out; have := HLB.out; omega) (by
      have h1 : g ≤ q.den := by rw [HG.out]; exact Nat.gcd_le_left _ q.den_pos
      have h2 := len_digs_mono h1
      have := HL.out; omega)).mono ?_
    rintro en9 w9 ⟨⟨hvv, rfl, hhv, hho⟩, hb9⟩
    obtain ⟨ha, hn, hc, hhe⟩ := hhv.form
    subst hhe
    rw [← HH.out] at hhv
    have HHV := Lib.hid hhv
    have HZ9 := Lib.hid (below_trans HZ8.out hb9)
    have HB9 : Hid (w9.heap[B]? = some (.cells #[Value.slice na nn nc, Value.bool x3] 91 (0, 0))) := Lib.hid ((hb9.block _ (lt_of_block HB8.out)).trans HB8.out)
    have HN9 := Lib.hid (HN8.out.below hb9)
    clear c0 c1 c2 e0 e1 e2 b0 b1 hhv hho hb9
    have c0 := Q1.out 0 _ rfl _ HZ9.out
    have c1 := Q1.out 1 _ rfl _ HZ9.out
    have c2 := Q1.out 2 _ rfl _ HZ9.out
    have e0 := Q2.out 0 _ rfl _ HZ9.out
    have e1 := Q2.out 1 _ rfl _ HZ9.out
    have e2 := Q2.out 2 _ rfl _ HZ9.out
    have b0 : w9.cell? ⟨B, 0, none⟩ = some (Value.slice na nn nc) := by rw [cell_of_row _ _ _ _ _ _ HB9.out]; rfl
    have b1 : w9.cell? ⟨B, 1, none⟩ = some (Value.bool x3) := by rw [cell_of_row _ _ _ _ _ _ HB9.out]; rfl
    go_wp2_with fail
    have HR9 : Hid (w9.heap[w.heap.size + 2]? = some (.cells #[Value.slice none 0 0, Value.bool false, Value.slice none 0 0] 93 (0, 0))) := Lib.hid (((below_trans HZ3.out HZ9.out).block _ (lt_of_block HR.out)).trans HR.out)
    have hBR : B ≠ w.heap.size + 2 := fun e => by
      have h1 := HB9.out
      rw [e, HR9.out] at h1
      simp at h1
    have HZ10 := Lib.hid (below_trans HZ3.out HZ9.out)
    have HB10 := Lib.hid (below_trans HB1.out HZ10.out)
    have M0 : Hid (∀ o v, (#[Value.slice none 0 0, Value.bool false, Value.slice none 0 0] : Array Value)[o]? = some v → ∀ w', Below w9.drew.heap.size w9.drew w' → w'.cell? ⟨w.heap.size + 2, o, none⟩ = some v ∧ w'.frozen? ⟨w.heap.size + 2, o, none⟩ = false) :=
      Lib.hid (fun o v h w' hb => by
        have h9 : w'.heap[w.heap.size + 2]? = some (.cells #[Value.slice none 0 0, Value.bool false, Value.slice none 0 0] 93 (0, 0)) := (hb.block _ (lt_of_block HR9.out)).trans HR9.out
        exact ⟨by rw [cell_of_row _ _ _ _ _ _ h9]; exact h, frozen_of_row _ _ _ _ _ h9⟩)
    have MB : Hid (∀ o v, (#[Value.slice na nn nc, Value.bool x3] : Array Value)[o]? = some v → ∀ w', Below w9.drew.heap.size w9.drew w' → w'.cell? ⟨B, o, none⟩ = some v) :=
      Lib.hid (fun o v h w' hb => by rw [cell_of_row _ _ _ _ _ _ ((hb.block _ (lt_of_block HB9.out)).trans HB9.out)]; exact h)
    have M2 : Hid (∀ w', Below w9.drew.heap.size w9.drew w' → w'.cell? ⟨w.heap.size + 1, 2, none⟩ = some (Value.slice ea en ec)) := Lib.hid (fun w' hb => Q2.out 2 _ rfl w' (below_trans (below_drewN HZ9.out 1) hb))
    have HM1 := Lib.hid (shrink_x (w := w9.drew) (x := x4) HN9.out.drew HX3.out HHV.out.drew hh0 HNH.out (by have := HL.out; have := HL1.out; have := HL2.out; have := HL3.out; have := HLA.out; have := HLB.out; omega) HX4.out)
    have HM2 := Lib.hid (fun w' (hb : Below w9.drew.heap.size w9.drew w') => over_w (w := w') ((HE1.out.below HZ10.out).drew.below hb) (HHV.out.drew.below hb) hh0 (by have := HL.out; omega))
    have HLH : Hid ((digs (p.den / h)).length ≤ (digs p.den).length) := Lib.hid (len_digs_mono (Nat.div_le_self _ _))
    have HM3 := Lib.hid (fun w' u (hb : Below w9.drew.heap.size w9.drew w') (hu : IsW w' u (digs (p.den / h))) => mul_w (w := w') (v := u) ((HRV.out.below HZ9.out).drew.below hb) hu (by have := HL.out; have := HLA.out; have := HLH.out; omega))
    go_region_held3 (fun w' => w'.cell? ⟨B, 0, none⟩ = some (.slice na nn nc) ∧ w'.cell? ⟨B, 1, none⟩ = some (.bool x3) ∧ w'.cell? ⟨w.heap.size + 1, 2, none⟩ = some (.slice ea en ec))
      (((try dsimp only); refine ⟨?_, ?_, ?_⟩ <;> (first | exact MB.out _ _ rfl _ (by assumption) | exact M2.out _ (by assumption) | (rw [World.cell?_setCell_far _ _ _ _ (by dsimp only; omega), World.cell?_setCell_far _ _ _ _ (by dsimp only; omega), World.cell?_setCell_far _ _ _ _ (by dsimp only; omega)]; first | exact MB.out _ _ rfl _ (by assumption) | exact M2.out _ (by assumption)) | go_keep)))
      (first | (go_at_call 131; refine HM1.out.mono ?_; rintro ena wa ⟨⟨r1v, rfl, hr1⟩, hba⟩; obtain ⟨a1, n1, k1, he1⟩ := hr1.form; subst he1; have hza := hba) | (go_at_call 133; refine (HM2.out _ hza).mono ?_; rintro enb wb ⟨⟨r2v, rfl, hr2, hro2⟩, hbb⟩; obtain ⟨a2, n2, k2, he2⟩ := hr2.form; subst he2; have hzb := below_trans hza hbb) | (go_at_call 104; refine (HM3.out _ _ hzb hr2).mono ?_; rintro end_ wd ⟨⟨r3v, rfl, hr3, hro3⟩, hbd⟩; obtain ⟨a3, n3, k3, he3⟩ := hr3.form; subst he3; have hzd := below_trans hzb hbd; have r0 := (M0.out 0 _ rfl _ hzd).1; have r1 := (M0.out 1 _ rfl _ hzd).1; have r2 := (M0.out 2 _ rfl _ hzd).1; have f0 := (M0.out 0 _ rfl _ hzd).2; have f1 := (M0.out 1 _ rfl _ hzd).2; have f2 := (M0.out 2 _ rfl _ hzd).2))
    have HRD : Hid (wd.heap[w.heap.size + 2]? = some (.cells #[Value.slice none 0 0, Value.bool false, Value.slice none 0 0] 93 (0, 0))) := Lib.hid ((hzd.block _ (lt_of_block HR9.out)).trans HR9.out)
    have HBW := Lib.hid (below_trans HB10.out (below_undrew hzd))
    have HNU := Lib.hid (hr1.below (below_trans hbb hbd))
    have HND := Lib.hid hr3
    clear hza hzb hzd r0 r1 r2 f0 f1 f2 hr1 hr2 hr3 hba hbb hbd hro2 hro3
    go_wp2_with fail
    have h9 := rat3_q (q := q + p) (u := Value.slice a1 n1 k1) (d := Value.slice a3 n3 k3) HRD.out (by rw [← HNZ.out]; exact HNU.out) (by rw [HDD.out]; exact HND.out)
    rw [← HNZ.out, ← HX4.out] at h9
    exact bodyPost_ret (results_cell_row rfl _ _ (w.heap.size + 2) _ _ _ _ rfl (rat3_heap HRD.out) Tryz.underlying93 rfl irat) rfl ⟨⟨_, rfl, h9⟩, below_only HBW.out (rat3_only _ _ _ _ _) (by omega)⟩
end Go.Proofs.YtlaphdlocchagaaGreat

/- Ratios: order, floor. -/
namespace Go.Proofs.YtlaphdlocchagaaGreat
open Go.RowKit
attribute [local go_sem ↓] Go.wp_at_zero Go.wp_at_succ

theorem sign_x {w : World} {u : Value} {b : Bool} {z s : Int} (hu : IsW w u (digs z.natAbs)) (hb : b = decide (z < 0)) (hs : s = z.sign) :
    Calls Tryz.prog 74 #[.agg #[u, .bool b]] w fun e w' => e = .returned (.int .i64 s) ∧ Below w.heap.size w w' := by
  subst hb; subst hs
  exact sign_w ⟨_, rfl, hu⟩

set_option maxRecDepth 4000 in
set_option maxHeartbeats 4000000 in
theorem rcompare_q {w : World} {v d : Value} {q p : Rat} (hv : RatQ w v q) (hd : RatQ w d p) (hlen : lenQ q + lenQ p ≤ 536870912) :
    Calls Tryz.prog 69 #[v, d] w fun e w' => e = .returned (.int .i64 (cmpQ q p)) ∧ Below w.heap.size w w' := by
  obtain ⟨u1, d1, rfl, hu1, hd1⟩ := hv
  obtain ⟨u2, d2, rfl, hu2, hd2⟩ := hd
  obtain ⟨ua, un, uc, hue⟩ := hu1.form
  subst hue
  obtain ⟨da, dn, dc, hde⟩ := hd1.form
  subst hde
  obtain ⟨va, vn, vc, hve⟩ := hu2.form
  subst hve
  obtain ⟨ea, en, ec, hee⟩ := hd2.form
  subst hee
  have HU := Lib.hid hu1
  have HD := Lib.hid hd1
  have HV := Lib.hid hu2
  have HE := Lib.hid hd2
  have HL : Hid ((digs q.num.natAbs).length + (digs q.den).length + ((digs p.num.natAbs).length + (digs p.den).length) ≤ 536870912) := Lib.hid hlen
  clear hu1 hd1 hu2 hd2 hlen
  obtain ⟨b, hb⟩ : ∃ b, b = decide (q.num < 0) := ⟨_, rfl⟩
  obtain ⟨c, hc⟩ : ∃ c, c = decide (p.num < 0) := ⟨_, rfl⟩
  have HBQ := Lib.hid hb
  have HCQ := Lib.hid hc
  rw [← hb, ← hc]
  obtain ⟨sa, hsa⟩ : ∃ x, x = q.num.sign := ⟨_, rfl⟩
  obtain ⟨sb, hsb⟩ : ∃ x, x = p.num.sign := ⟨_, rfl⟩
  have HSA := Lib.hid hsa
  have HSB := Lib.hid hsb
  clear hb hc hsa hsb
  go_enter Tryz.func69, Tryz.ntmps69
  go_wp2_with fail
  obtain ⟨w1, hw1⟩ : ∃ w1, w1 = (w.alloc (Obj.cells #[Value.slice ua un uc, Value.bool b, Value.slice da dn dc] 93)).alloc (Obj.cells #[Value.slice va vn vc, Value.bool c, Value.slice ea en ec] 93) := ⟨_, rfl⟩
  rw [← hw1]
  have HB1 : Hid (Below w.heap.size w w1) := Lib.hid (by rw [hw1]; exact ((Below.refl _ _).alloc (Nat.le_refl _) _).alloc (by simp) _)
  have HX : Hid (w1.heap[w.heap.size]? = some (.cells #[Value.slice ua un uc, Value.bool b, Value.slice da dn dc] 93 (0, 0))) := Lib.hid (by rw [hw1]; exact heap_alloc2_old w _ _)
  have HY : Hid (w1.heap[w.heap.size + 1]? = some (.cells #[Value.slice va vn vc, Value.bool c, Value.slice ea en ec] 93 (0, 0))) := Lib.hid (by rw [hw1]; exact heap_alloc2_new w _ _)
  clear hw1
  have R1 : Hid (∀ o v, (#[Value.slice ua un uc, Value.bool b, Value.slice da dn dc] : Array Value)[o]? = some v → ∀ w', Below w1.heap.size w1 w' → w'.cell? ⟨w.heap.size, o, none⟩ = some v) :=
    Lib.hid (fun o v h w' hb => by rw [cell_of_row _ _ _ _ _ _ ((hb.block _ (lt_of_block HX.out)).trans HX.out)]; exact h)
  have R2 : Hid (∀ o v, (#[Value.slice va vn vc, Value.bool c, Value.slice ea en ec] : Array Value)[o]? = some v → ∀ w', Below w1.heap.size w1 w' → w'.cell? ⟨w.heap.size + 1, o, none⟩ = some v) :=
    Lib.hid (fun o v h w' hb => by rw [cell_of_row _ _ _ _ _ _ ((hb.block _ (lt_of_block HY.out)).trans HY.out)]; exact h)
  have HU1 := Lib.hid (HU.out.below HB1.out)
  have HD1 := Lib.hid (HD.out.below HB1.out)
  have HV1 := Lib.hid (HV.out.below HB1.out)
  have HE1 := Lib.hid (HE.out.below HB1.out)
  have hz1 := Below.refl w1.heap.size w1
  have c0 := R1.out 0 _ rfl _ hz1
  have c1 := R1.out 1 _ rfl _ hz1
  have c2 := R1.out 2 _ rfl _ hz1
  have e0 := R2.out 0 _ rfl _ hz1
  have e1 := R2.out 1 _ rfl _ hz1
  have e2 := R2.out 2 _ rfl _ hz1
  have hzd : Below w1.heap.size w1 w1.drew := below_drewN (Below.refl _ _) 1
  by_cases hs : sa = sb
  · have hne : ((sa : Int) != sb) = false := by simp [hs]
    have HS := Lib.hid hs
    clear hs
    go_wp2_with fail
    go_region_held3 (fun w' => w'.cell? ⟨w.heap.size, 0, none⟩ = some (.slice ua un uc) ∧ w'.cell? ⟨w.heap.size, 1, none⟩ = some (.bool b) ∧ w'.cell? ⟨w.heap.size, 2, none⟩ = some (.slice da dn dc) ∧ w'.cell? ⟨w.heap.size + 1, 0, none⟩ = some (.slice va vn vc) ∧ w'.cell? ⟨w.heap.size + 1, 1, none⟩ = some (.bool c) ∧ w'.cell? ⟨w.heap.size + 1, 2, none⟩ = some (.slice ea en ec))
      (((try dsimp only); refine ⟨?_, ?_, ?_, ?_, ?_, ?_⟩ <;> (first | exact R1.out _ _ rfl _ (by assumption) | exact R2.out _ _ rfl _ (by assumption) | go_keep)))
      (first | (go_at_call_of 74 (Value.slice ua un uc); refine (sign_x (HU1.out.below hzd) HBQ.out HSA.out).mono ?_; rintro en2 w2 ⟨rfl, hb2⟩; have hz2 := below_trans hzd hb2) | (go_at_call 74; refine (sign_x (HV1.out.below hz2) HCQ.out HSB.out).mono ?_; rintro en3 w3 ⟨rfl, hb3⟩; have hz3 := below_trans hz2 hb3))
    clear c0 c1 c2 e0 e1 e2 hzd
    have c0 := R1.out 0 _ rfl _ hz3
    have c1 := R1.out 1 _ rfl _ hz3
    have c2 := R1.out 2 _ rfl _ hz3
    have e0 := R2.out 0 _ rfl _ hz3
    have e1 := R2.out 1 _ rfl _ hz3
    have e2 := R2.out 2 _ rfl _ hz3
    clear hz2 hb2 hb3
    go_wp2_with fail
    have hz4 : Below w1.heap.size w1 w3.drew := below_drewN hz3 1
    have HM1 := Lib.hid (fun w' (hb : Below w1.heap.size w1 w') => mul_w (w := w') (HU1.out.below hb) (HE1.out.below hb) (by have := HL.out; omega))
    have HM2 := Lib.hid (fun w' (hb : Below w1.heap.size w1 w') => mul_w (w := w') (HV1.out.below hb) (HD1.out.below hb) (by have := HL.out; omega))
    obtain ⟨cm, hcm⟩ : ∃ x, x = cmpN (q.num.natAbs * p.den) (p.num.natAbs * q.den) := ⟨_, rfl⟩
    have HM3 := Lib.hid (fun w' u v (h1 : IsW w' u (digs (q.num.natAbs * p.den))) (h2 : IsW w' v (digs (p.num.natAbs * q.den))) => compare_d (w := w') h1 h2)
    rw [← hcm] at HM3
    have hcb : -1 ≤ cm ∧ cm ≤ 1 := by rw [hcm]; unfold cmpN; split <;> (try split) <;> omega
    have hsb9 : -1 ≤ sa ∧ sa ≤ 1 := by
      rw [HSA.out]
      rcases Int.lt_trichotomy q.num 0 with h | h | h
      · rw [Int.sign_eq_neg_one_of_neg h]; omega
      · rw [h]; simp
      · rw [Int.sign_eq_one_of_pos h]; omega
    have hpr : -1 ≤ cm * sa ∧ cm * sa ≤ 1 := by
      obtain ⟨h1, h2⟩ := hcb
      obtain ⟨h3, h4⟩ := hsb9
      have h5 : cm = -1 ∨ cm = 0 ∨ cm = 1 := by omega
      rcases h5 with h | h | h <;> subst h <;> omega
    have hwm : IntKind.i64.wrap (cm * sa) = cm * sa := IntWalk.i64_in _ (by omega)
    have HCM := Lib.hid hcm
    clear hcm hcb hsb9
    go_region_held3 (fun w' => w'.cell? ⟨w.heap.size, 0, none⟩ = some (.slice ua un uc) ∧ w'.cell? ⟨w.heap.size, 1, none⟩ = some (.bool b) ∧ w'.cell? ⟨w.heap.size, 2, none⟩ = some (.slice da dn dc) ∧ w'.cell? ⟨w.heap.size + 1, 0, none⟩ = some (.slice va vn vc) ∧ w'.cell? ⟨w.heap.size + 1, 1, none⟩ = some (.bool c) ∧ w'.cell? ⟨w.heap.size + 1, 2, none⟩ = some (.slice ea en ec))
      (((try dsimp only); refine ⟨?_, ?_, ?_, ?_, ?_, ?_⟩ <;> (first | exact R1.out _ _ rfl _ (by assumption) | exact R2.out _ _ rfl _ (by assumption) | go_keep)))
      (first | (go_at_call_of 104 (Value.slice ua un uc); refine (HM1.out _ hz4).mono ?_; rintro en5 w5 ⟨⟨r5, rfl, hr5, hro5⟩, hb5⟩; obtain ⟨a5, n5, k5, he5⟩ := hr5.form; subst he5; have hz5 := below_trans hz4 hb5) | (go_at_call 104; refine (HM2.out _ hz5).mono ?_; rintro en6 w6 ⟨⟨r6, rfl, hr6, hro6⟩, hb6⟩; obtain ⟨a6, n6, k6, he6⟩ := hr6.form; subst he6; have hz6 := below_trans hz5 hb6) | (go_at_call 105; refine (HM3.out _ _ _ (hr5.below hb6) hr6).mono ?_; rintro en7 w7 ⟨rfl, n7, rfl⟩; have hz7 := below_drewN hz6 n7))
    clear c0 c1 c2 e0 e1 e2 hz4 hz5 hz6 hr5 hr6 hro5 hro6 hb5 hb6
    have c0 := R1.out 0 _ rfl _ hz7
    have c1 := R1.out 1 _ rfl _ hz7
    have c2 := R1.out 2 _ rfl _ hz7
    go_wp2_with fail
    refine (sign_x (HU1.out.below hz7) HBQ.out HSA.out).mono ?_
    rintro en8 w8 ⟨rfl, hb8⟩
    go_wp2_with fail
    go_ret
    refine ⟨ret_int ?_, below_trans HB1.out (below_trans hz7 hb8)⟩
    have h9 := HS.out
    rw [HSA.out, HSB.out] at h9
    have h8 := cmp_sizes q p h9
    rw [← HCM.out, ← HSA.out] at h8
    first | exact h8 | (rw [hwm]; exact h8)
  · have hne : ((sa : Int) != sb) = true := by simp [hs]
    have HS := Lib.hid hs
    clear hs
    go_wp2_with fail
    go_region_held3 (fun w' => w'.cell? ⟨w.heap.size, 0, none⟩ = some (.slice ua un uc) ∧ w'.cell? ⟨w.heap.size, 1, none⟩ = some (.bool b) ∧ w'.cell? ⟨w.heap.size, 2, none⟩ = some (.slice da dn dc) ∧ w'.cell? ⟨w.heap.size + 1, 0, none⟩ = some (.slice va vn vc) ∧ w'.cell? ⟨w.heap.size + 1, 1, none⟩ = some (.bool c) ∧ w'.cell? ⟨w.heap.size + 1, 2, none⟩ = some (.slice ea en ec))
      (((try dsimp only); refine ⟨?_, ?_, ?_, ?_, ?_, ?_⟩ <;> (first | exact R1.out _ _ rfl _ (by assumption) | exact R2.out _ _ rfl _ (by assumption) | go_keep)))
      (first | (go_at_call_of 74 (Value.slice ua un uc); refine (sign_x (HU1.out.below hzd) HBQ.out HSA.out).mono ?_; rintro en2 w2 ⟨rfl, hb2⟩; have hz2 := below_trans hzd hb2) | (go_at_call 74; refine (sign_x (HV1.out.below hz2) HCQ.out HSB.out).mono ?_; rintro en3 w3 ⟨rfl, hb3⟩; have hz3 := below_trans hz2 hb3))
    go_wp2_with fail
    refine (order_any _ _ _).mono ?_
    rintro e w' ⟨rfl, rfl⟩
    go_wp2_with fail
    go_ret
    refine ⟨ret_int ?_, below_trans HB1.out hz3⟩
    have h9 := HS.out
    rw [HSA.out, HSB.out] at h9
    have h8 := cmp_signs q p h9
    rw [HSA.out, HSB.out]
    exact h8

theorem signed_x {w : World} {v : Value} {b c : Bool} {x : Nat} {z : Int} (hv : IsW w v (digs x)) (hz : z = if b then -(x : Int) else x) (hc : c = decide (z < 0)) :
    Calls Tryz.prog 141 #[v, .bool b] w fun e w' => e = .returned (.agg #[v, .bool c]) ∧ Below w.heap.size w w' := by
  refine (signed_l hv b).mono ?_
  rintro e w' ⟨rfl, hb⟩
  refine ⟨?_, hb⟩
  rw [hc, hz]
  congr 4
  cases b with
  | false => simp
  | true => by_cases h : x = 0 <;> simp [zerB, h] <;> omega
theorem signed_abs {b : Bool} {x : Nat} {z : Int} (hz : z = if b then -(x : Int) else x) : z.natAbs = x := by
  rw [hz]; cases b <;> simp

/-- A whole number as a ratio. -/
theorem int_num (z : Int) : ((z : Rat)).num = z := Rat.num_intCast z
theorem int_den (z : Int) : ((z : Rat)).den = 1 := Rat.den_intCast z

end Go.Proofs.YtlaphdlocchagaaGreat
