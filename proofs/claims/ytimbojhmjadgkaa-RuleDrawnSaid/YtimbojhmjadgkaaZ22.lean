/- Several texts in one: Rm. -/
import Derived.Test.YtimbojhmjadgkaaZ21
import Derived.Deep.DrawnRows
/- What frac tells of two fractions: sums, differences, products. -/
namespace Go.Proofs.Ytimbojhmjadgkaa
open Go.RowKit
attribute [local go_sem ↓] Go.wp_at_zero Go.wp_at_succ

theorem num_len (q : Rat) : (digs q.num.natAbs).length ≤ lenQ q := by unfold lenQ; omega
theorem den_len (q : Rat) : (digs q.den).length ≤ lenQ q := by unfold lenQ; omega
theorem len_add (q p : Rat) : lenQ (q + p) ≤ 2 * (lenQ q + lenQ p) + 1 := by
  have e1 := num_len q
  have e2 := num_len p
  have e3 := den_len q
  have e4 := den_len p
  have h1 : (q + p).num.natAbs ≤ q.num.natAbs * p.den + p.num.natAbs * q.den := by
    have h := sum_num q p
    have hs : (sumNum q p).natAbs ≤ q.num.natAbs * p.den + p.num.natAbs * q.den := by
      unfold sumNum
      refine Nat.le_trans (Int.natAbs_add_le _ _) ?_
      rw [Int.natAbs_mul, Int.natAbs_mul, Int.natAbs_natCast, Int.natAbs_natCast]
      exact Nat.add_le_add (Nat.mul_le_mul_left _ (Nat.div_le_self _ _)) (Nat.mul_le_mul_left _ (Nat.div_le_self _ _))
    rw [h, Int.natAbs_mul, Int.natAbs_natCast] at hs
    have hg : 0 < sumGcd q p := Nat.gcd_pos_of_pos_right _ (Nat.gcd_pos_of_pos_right _ p.den_pos)
    exact Nat.le_trans (Nat.le_mul_of_pos_right _ hg) hs
  have h2 : (q + p).den ≤ q.den * p.den := by
    rw [sum_den]; exact Nat.mul_le_mul (Nat.div_le_self _ _) (Nat.div_le_self _ _)
  have l1 : (digs (q + p).num.natAbs).length ≤ lenQ q + lenQ p + 1 := by
    refine Nat.le_trans (len_digs_mono h1) (len_digs_add _ _ _ ?_ ?_)
    · exact Nat.le_trans (len_digs_mul _ _) (by omega)
    · exact Nat.le_trans (len_digs_mul _ _) (by omega)
  have l2 : (digs (q + p).den).length ≤ lenQ q + lenQ p := Nat.le_trans (len_digs_mono h2) (Nat.le_trans (len_digs_mul _ _) (by omega))
  have e : lenQ (q + p) = (digs (q + p).num.natAbs).length + (digs (q + p).den).length := rfl
  omega
theorem len_mul (q p : Rat) : lenQ (q * p) ≤ lenQ q + lenQ p := by
  have e1 : (digs (q * p).num.natAbs).length ≤ (digs q.num.natAbs).length + (digs p.num.natAbs).length := by
    rw [mul_num, Int.natAbs_mul]
    refine Nat.le_trans (len_digs_mul _ _) (Nat.add_le_add ?_ ?_)
    · exact len_digs_mono (natAbs_div_le _ _)
    · exact len_digs_mono (natAbs_div_le _ _)
  have e2 : (digs (q * p).den).length ≤ (digs q.den).length + (digs p.den).length := by
    rw [mul_den]
    refine Nat.le_trans (len_digs_mul _ _) (Nat.add_le_add ?_ ?_)
    · exact len_digs_mono (Nat.div_le_self _ _)
    · exact len_digs_mono (Nat.div_le_self _ _)
  unfold lenQ; omega

set_option maxRecDepth 4000 in
set_option maxHeartbeats 4000000 in
theorem add_q {w : World} {v t : Value} {b c : Bool} {l m l2 m2 : List Nat} (hv : RawF w v b l m) (ht : RawF w t c l2 m2) :
    Calls Try.prog 17 #[v, t] w (TellPost w (cutR (fixR b l m + fixR c l2 m2))) := by
  have HV := Lib.hid hv
  have HL1 : Hid (lenQ (fixR b l m) ≤ 4096) := Lib.hid (by obtain ⟨u, d, rfl, hu, hd⟩ := hv; exact fix_len hu.ws hd.ws)
  have HT := Lib.hid ht
  have HL2 : Hid (lenQ (fixR c l2 m2) ≤ 4096) := Lib.hid (by obtain ⟨u, d, rfl, hu, hd⟩ := ht; exact fix_len hu.ws hd.ws)
  obtain ⟨u, d, rfl, hu, hd⟩ := hv
  obtain ⟨ua, un, uc, hue⟩ := hu.form
  subst hue
  obtain ⟨da, dn, dc, hde⟩ := hd.form
  subst hde
  clear hu hd
  obtain ⟨u2, d2, rfl, hu2, hd2⟩ := ht
  obtain ⟨va, vn, vc, hve⟩ := hu2.form
  subst hve
  obtain ⟨ea, en, ec, hee⟩ := hd2.form
  subst hee
  clear hu2 hd2
  obtain ⟨P, hP⟩ : ∃ P, P = fixR b l m := ⟨_, rfl⟩
  obtain ⟨S, hS⟩ : ∃ S, S = fixR c l2 m2 := ⟨_, rfl⟩
  have HS := Lib.hid hS
  have HP := Lib.hid hP
  rw [← hP] at HL1
  rw [← hS] at HL2
  rw [← hP, ← hS]
  obtain ⟨Q, hQ⟩ : ∃ Q, Q = cutR (P + S) := ⟨_, rfl⟩
  have HQ := Lib.hid hQ
  rw [← hQ]
  clear hQ
  clear hP hS
  obtain ⟨w1, hw1⟩ : ∃ w1, w1 = (((w.alloc (Obj.cells #[Value.bool b, Value.slice ua un uc, Value.slice da dn dc] 26)).alloc (Obj.cells #[Value.bool c, Value.slice va vn vc, Value.slice ea en ec] 26)).alloc (Obj.cells #[Value.bool false, Value.slice none 0 0, Value.slice none 0 0] 26)) := ⟨_, rfl⟩
  have HB1 : Hid (Below w.heap.size w w1) := Lib.hid (by rw [hw1]; exact (((Below.refl _ _).alloc (Nat.le_refl _) _).alloc (by simp) _).alloc (by simp; omega) _)
  have HX : Hid (w1.heap[w.heap.size]? = some (.cells #[Value.bool b, Value.slice ua un uc, Value.slice da dn dc] 26 (0, 0))) := Lib.hid (by rw [hw1]; exact alloc3_0 w _ _ _)
  have HY : Hid (w1.heap[w.heap.size + 1]? = some (.cells #[Value.bool c, Value.slice va vn vc, Value.slice ea en ec] 26 (0, 0))) := Lib.hid (by rw [hw1]; exact alloc3_1 w _ _ _)
  have HR : Hid (w1.heap[w.heap.size + 2]? = some (.cells #[Value.bool false, Value.slice none 0 0, Value.slice none 0 0] 26 (0, 0))) := Lib.hid (by rw [hw1]; exact alloc3_new w _ _ _)
  have HW1 := Lib.hid hw1.symm
  clear hw1
  have R0 : Hid (∀ o v, (#[Value.bool false, Value.slice none 0 0, Value.slice none 0 0] : Array Value)[o]? = some v → ∀ w', Below w1.heap.size w1 w' → w'.cell? ⟨w.heap.size + 2, o, none⟩ = some v ∧ w'.frozen? ⟨w.heap.size + 2, o, none⟩ = false) :=
    Lib.hid (fun o v h w' hb => by
      have h9 : w'.heap[w.heap.size + 2]? = some (.cells #[Value.bool false, Value.slice none 0 0, Value.slice none 0 0] 26 (0, 0)) := (hb.block _ (lt_of_block HR.out)).trans HR.out
      exact ⟨by rw [cell_of_row _ _ _ _ _ _ h9]; exact h, frozen_of_row _ _ _ _ _ h9⟩)
  have R1 : Hid (∀ o v, (#[Value.bool b, Value.slice ua un uc, Value.slice da dn dc] : Array Value)[o]? = some v → ∀ w', Below w1.heap.size w1 w' → w'.cell? ⟨w.heap.size, o, none⟩ = some v) :=
    Lib.hid (fun o v h w' hb => by rw [cell_of_row _ _ _ _ _ _ ((hb.block _ (lt_of_block HX.out)).trans HX.out)]; exact h)
  have R2 : Hid (∀ o v, (#[Value.bool c, Value.slice va vn vc, Value.slice ea en ec] : Array Value)[o]? = some v → ∀ w', Below w1.heap.size w1 w' → w'.cell? ⟨w.heap.size + 1, o, none⟩ = some v) :=
    Lib.hid (fun o v h w' hb => by rw [cell_of_row _ _ _ _ _ _ ((hb.block _ (lt_of_block HY.out)).trans HY.out)]; exact h)
  have hz1 := Below.refl w1.heap.size w1
  have c0 := R1.out 0 _ rfl _ hz1
  have c1 := R1.out 1 _ rfl _ hz1
  have c2 := R1.out 2 _ rfl _ hz1
  have e0 := R2.out 0 _ rfl _ hz1
  have e1 := R2.out 1 _ rfl _ hz1
  have e2 := R2.out 2 _ rfl _ hz1
  go_enter Try.func17, Try.ntmps17
  go_wp2_with fail
  rw [HW1.out]
  have HC1 := Lib.hid (fun w' (hb : Below w1.heap.size w1 w') => read_w (w := w') (HV.out.below (below_trans HB1.out hb)))
  rw [← HP.out] at HC1
  have HC2 := Lib.hid (fun w' (hb : Below w1.heap.size w1 w') => read_w (w := w') (HT.out.below (below_trans HB1.out hb)))
  rw [← HS.out] at HC2
  have hz0 : Below w1.heap.size w1 w1.drew := below_drewN (Below.refl _ _) 1
  have HCT := Lib.hid (fun w' x (h : RatQ w' x (P + S)) => tell_w (w := w') (v := x) h (by have h8 := len_add P S; have := HL1.out; have := HL2.out; omega))
  rw [← HQ.out] at HCT
  go_region_held3 (fun w' => w'.cell? ⟨w.heap.size, 0, none⟩ = some (.bool b) ∧ w'.cell? ⟨w.heap.size, 1, none⟩ = some (.slice ua un uc) ∧ w'.cell? ⟨w.heap.size, 2, none⟩ = some (.slice da dn dc) ∧ w'.cell? ⟨w.heap.size + 1, 0, none⟩ = some (.bool c) ∧ w'.cell? ⟨w.heap.size + 1, 1, none⟩ = some (.slice va vn vc) ∧ w'.cell? ⟨w.heap.size + 1, 2, none⟩ = some (.slice ea en ec))
    (((try dsimp only); refine ⟨?_, ?_, ?_, ?_, ?_, ?_⟩ <;> (first | exact R1.out _ _ rfl _ (by assumption) | exact R2.out _ _ rfl _ (by assumption) | (rw [World.cell?_setCell_far _ _ _ _ (by dsimp only; omega), World.cell?_setCell_far _ _ _ _ (by dsimp only; omega), World.cell?_setCell_far _ _ _ _ (by dsimp only; omega)]; first | exact R1.out _ _ rfl _ (by assumption) | exact R2.out _ _ rfl _ (by assumption)) | go_keep)))
    (first | (go_at_call_of 23 (Value.slice ua un uc); refine (HC1.out _ hz0).mono ?_; rintro en2 w2 ⟨⟨p2, rfl, h2⟩, hb2⟩; have hz2 := below_trans hz0 hb2) | (go_at_call 23; refine (HC2.out _ hz2).mono ?_; rintro en3 w3 ⟨⟨p3, rfl, h3⟩, hb3⟩; have hz3 := below_trans hz2 hb3) | (go_at_call 32; refine (rplus_q (h2.below hb3) h3 (by have := HL1.out; have := HL2.out; omega)).mono ?_; rintro en9 w9 ⟨⟨p9, rfl, h9⟩, hb9⟩; have hz9 := below_trans hz3 hb9) | (go_at_call 26; refine (HCT.out _ _ h9).mono ?_; rintro ent wt ⟨⟨xt, rfl, hft, hnt⟩, hbt⟩; obtain ⟨xa, xn, xc, xi, xj, xk, hx⟩ := frac_form hft; subst hx; have hzt := below_trans hz9 hbt; have r0 := (R0.out 0 _ rfl _ hzt).1; have r1 := (R0.out 1 _ rfl _ hzt).1; have r2 := (R0.out 2 _ rfl _ hzt).1; have f0 := (R0.out 0 _ rfl _ hzt).2; have f1 := (R0.out 1 _ rfl _ hzt).2; have f2 := (R0.out 2 _ rfl _ hzt).2))
  have HTE := Lib.hid (tell_end HB1.out hzt HR.out (by omega) hft (hnt.mono hz9.size))
  clear r0 r1 r2 f0 f1 f2
  have r0 := (R0.out 0 _ rfl _ hzt).1
  have r1 := (R0.out 1 _ rfl _ hzt).1
  have r2 := (R0.out 2 _ rfl _ hzt).1
  have f0 := (R0.out 0 _ rfl _ hzt).2
  have f1 := (R0.out 1 _ rfl _ hzt).2
  have f2 := (R0.out 2 _ rfl _ hzt).2
  have HRW : Hid (wt.heap[w.heap.size + 2]? = some (.cells #[Value.bool false, Value.slice none 0 0, Value.slice none 0 0] 26 (0, 0))) := Lib.hid ((hzt.block _ (lt_of_block HR.out)).trans HR.out)
  go_wp2_with fail
  exact bodyPost_ret (results_cell_row rfl _ _ (w.heap.size + 2) _ _ _ _ rfl (frac3_heap HRW.out) Try.underlying26 rfl ifrac) rfl HTE.out

end Go.Proofs.Ytimbojhmjadgkaa
