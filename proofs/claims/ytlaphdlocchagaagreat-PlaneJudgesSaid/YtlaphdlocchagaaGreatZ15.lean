/- Several texts in one: Rl, Rm, Rn. -/
import Derived.Test.YtlaphdlocchagaaGreatZ14
import Derived.Deep.DrawnRows
/- What frac tells: made, fixed, computed, compared. -/
namespace Go.Proofs.YtlaphdlocchagaaGreat
open Go.RowKit
attribute [local go_sem ↓] Go.wp_at_zero Go.wp_at_succ

theorem len_zero : lenQ 0 = 1 := by
  have e1 : digs (0 : Rat).num.natAbs = [] := by show digs 0 = []; exact digs_zero
  have e2 : digs (0 : Rat).den = [1] := by show digs 1 = [1]; unfold digs; simp [digs]
  unfold lenQ; rw [e1, e2]; simp
theorem len_cut (q : Rat) : lenQ (cutR q) ≤ 4096 := by
  unfold cutR
  split
  · assumption
  · rw [len_zero]; omega
theorem cut_id {q : Rat} (h : lenQ q ≤ 4096) : cutR q = q := by unfold cutR; rw [if_pos h]

/-- A told fraction. -/
def TellPost (w : World) (q : Rat) (e : Ending) (w' : World) : Prop := (∃ r, e = .returned r ∧ FracV w' r q ∧ NewF w r) ∧ Below w.heap.size w w'
theorem NewF.mono {w w' : World} {v : Value} (h : NewF w' v) (hs : w.heap.size ≤ w'.heap.size) : NewF w v := by
  obtain ⟨b, u, d, rfl, h1, h2⟩ := h
  exact ⟨b, u, d, rfl, fun x e => Nat.le_trans hs (h1 x e), fun x e => Nat.le_trans hs (h2 x e)⟩

theorem len_neg (q : Rat) : lenQ (-q) = lenQ q := by unfold lenQ; rw [Rat.neg_num, Rat.neg_den, Int.natAbs_neg]
theorem len_floor (q : Rat) : lenQ (q.floor : Rat) ≤ lenQ q + 1 := by
  unfold lenQ
  rw [int_num, int_den]
  have h1 : q.floor.natAbs = upN q := signed_abs (b := decide (q.num < 0)) (floor_up q).symm
  have h2 : digs 1 = [1] := by unfold digs; simp [digs]
  have h3 : 1 ≤ (digs q.den).length := by
    have := digs_pos q.den_nz
    rw [this]; simp
  have h4 : upN q ≤ q.num.natAbs + 1 := by
    have := Nat.div_le_self q.num.natAbs q.den
    unfold upN; split <;> omega
  have h5 : (digs (upN q)).length ≤ (digs q.num.natAbs).length + 1 := by
    by_cases h0 : q.num.natAbs = 0
    · have : (digs (upN q)).length ≤ (digs 1).length := len_digs_mono (by omega)
      rw [h2] at this; simp at this; omega
    · refine Nat.le_trans (len_digs_mono h4) (len_digs_add _ _ _ (Nat.le_refl _) ?_)
      rw [h2]
      rw [digs_pos h0]; simp
  rw [h1, h2]
  simp
  omega

/-- The end of a function that tells: the told fraction laid into the result's block. -/
theorem tell_end {w w1 wk : World} {R : Nat} {Q : Rat} {u d : Value} {t : TypeId} (hB1 : Below w.heap.size w w1) (hz : Below w1.heap.size w1 wk) (hR : w1.heap[R]? = some (.cells #[Value.bool false, Value.slice none 0 0, Value.slice none 0 0] t (0, 0))) (hRw : w.heap.size ≤ R)
    (hf : FracV wk (.agg #[.bool (decide (Q.num < 0)), u, d]) Q) (hn : NewF w1 (.agg #[.bool (decide (Q.num < 0)), u, d])) :
    TellPost w Q (.returned (.agg #[.bool (decide (Q.num < 0)), u, d])) (frac3 wk R (decide (Q.num < 0)) u d) := by
  have hR' : wk.heap[R]? = _ := (hz.block _ (lt_of_block hR)).trans hR
  obtain ⟨u', d', he, hu, hd⟩ := hf
  simp only [Value.agg.injEq, Array.mk.injEq, List.cons.injEq, and_true, true_and] at he
  obtain ⟨rfl, rfl⟩ := he
  refine ⟨⟨_, rfl, frac3_q hR' hu hd, ?_⟩, below_only (below_trans hB1 hz) (frac3_only _ _ _ _ _) hRw⟩
  exact hn.mono hB1.size

theorem frac_form {w : World} {r : Value} {Q : Rat} (h : FracV w r Q) : ∃ a n c i j k, r = .agg #[.bool (decide (Q.num < 0)), .slice a n c, .slice i j k] := by
  obtain ⟨u, d, rfl, hu, hd⟩ := h
  obtain ⟨a, n, c, rfl⟩ := hu.form
  obtain ⟨i, j, k, rfl⟩ := hd.form
  exact ⟨a, n, c, i, j, k, rfl⟩

set_option maxHeartbeats 2000000 in
theorem fix_w {w : World} {v : Value} {b : Bool} {l m : List Nat} (hv : RawF w v b l m) :
    Calls Tryz.prog 84 #[v] w (TellPost w (fixR b l m)) := by
  have HV := Lib.hid hv
  have HL1 : Hid (lenQ (fixR b l m) ≤ 4096) := Lib.hid (by obtain ⟨u, d, rfl, hu, hd⟩ := hv; exact fix_len hu.ws hd.ws)
  obtain ⟨u, d, rfl, hu, hd⟩ := hv
  obtain ⟨ua, un, uc, hue⟩ := hu.form
  subst hue
  obtain ⟨da, dn, dc, hde⟩ := hd.form
  subst hde
  clear hu hd
  obtain ⟨P, hP⟩ : ∃ P, P = fixR b l m := ⟨_, rfl⟩
  have HP := Lib.hid hP
  rw [← hP] at HL1
  rw [← hP]
  obtain ⟨Q, hQ⟩ : ∃ Q, Q = P := ⟨_, rfl⟩
  have HQ := Lib.hid hQ
  rw [← hQ]
  clear hP hQ
  obtain ⟨w1, hw1⟩ : ∃ w1, w1 = (w.alloc (Obj.cells #[Value.bool b, Value.slice ua un uc, Value.slice da dn dc] 47)).alloc (Obj.cells #[Value.bool false, Value.slice none 0 0, Value.slice none 0 0] 47) := ⟨_, rfl⟩
  have HB1 : Hid (Below w.heap.size w w1) := Lib.hid (by rw [hw1]; exact ((Below.refl _ _).alloc (Nat.le_refl _) _).alloc (by simp) _)
  have HX : Hid (w1.heap[w.heap.size]? = some (.cells #[Value.bool b, Value.slice ua un uc, Value.slice da dn dc] 47 (0, 0))) := Lib.hid (by rw [hw1]; exact heap_alloc2_old w _ _)
  have HR : Hid (w1.heap[w.heap.size + 1]? = some (.cells #[Value.bool false, Value.slice none 0 0, Value.slice none 0 0] 47 (0, 0))) := Lib.hid (by rw [hw1]; exact heap_alloc2_new w _ _)
  have HW1 := Lib.hid hw1.symm
  clear hw1
  have R0 : Hid (∀ o v, (#[Value.bool false, Value.slice none 0 0, Value.slice none 0 0] : Array Value)[o]? = some v → ∀ w', Below w1.heap.size w1 w' → w'.cell? ⟨w.heap.size + 1, o, none⟩ = some v ∧ w'.frozen? ⟨w.heap.size + 1, o, none⟩ = false) :=
    Lib.hid (fun o v h w' hb => by
      have h9 : w'.heap[w.heap.size + 1]? = some (.cells #[Value.bool false, Value.slice none 0 0, Value.slice none 0 0] 47 (0, 0)) := (hb.block _ (lt_of_block HR.out)).trans HR.out
      exact ⟨by rw [cell_of_row _ _ _ _ _ _ h9]; exact h, frozen_of_row _ _ _ _ _ h9⟩)
  have R1 : Hid (∀ o v, (#[Value.bool b, Value.slice ua un uc, Value.slice da dn dc] : Array Value)[o]? = some v → ∀ w', Below w1.heap.size w1 w' → w'.cell? ⟨w.heap.size, o, none⟩ = some v) :=
    Lib.hid (fun o v h w' hb => by rw [cell_of_row _ _ _ _ _ _ ((hb.block _ (lt_of_block HX.out)).trans HX.out)]; exact h)
  have hz1 := Below.refl w1.heap.size w1
  have c0 := R1.out 0 _ rfl _ hz1
  have c1 := R1.out 1 _ rfl _ hz1
  have c2 := R1.out 2 _ rfl _ hz1
  go_enter Tryz.func84, Tryz.ntmps84
  go_wp2_with fail
  rw [HW1.out]
  have HC1 := Lib.hid (fun w' (hb : Below w1.heap.size w1 w') => read_w (w := w') (HV.out.below (below_trans HB1.out hb)))
  rw [← HP.out] at HC1
  refine (HC1.out _ hz1).mono ?_
  rintro en2 w2 ⟨⟨p2, rfl, h2⟩, hb2⟩
  have hz2 := below_trans hz1 hb2
  have H2 := Lib.hid h2
  clear c0 c1 c2 h2
  go_wp2_with fail
  have HCT := Lib.hid (tell_w H2.out (by have := HL1.out; omega))
  rw [cut_id HL1.out, ← HQ.out] at HCT
  refine HCT.out.mono ?_
  rintro en3 w3 ⟨⟨x3, rfl, hf3, hn3⟩, hb3⟩
  obtain ⟨xa, xn, xc, xi, xj, xk, hx⟩ := frac_form hf3
  subst hx
  have hz3 := below_trans hz2 hb3
  have r0 := (R0.out 0 _ rfl _ hz3).1
  have r1 := (R0.out 1 _ rfl _ hz3).1
  have r2 := (R0.out 2 _ rfl _ hz3).1
  have f0 := (R0.out 0 _ rfl _ hz3).2
  have f1 := (R0.out 1 _ rfl _ hz3).2
  have f2 := (R0.out 2 _ rfl _ hz3).2
  have HTE := Lib.hid (tell_end HB1.out hz3 HR.out (by omega) hf3 (hn3.mono hz2.size))
  clear r0 r1 r2 f0 f1 f2
  have r0 := (R0.out 0 _ rfl _ hz3).1
  have r1 := (R0.out 1 _ rfl _ hz3).1
  have r2 := (R0.out 2 _ rfl _ hz3).1
  have f0 := (R0.out 0 _ rfl _ hz3).2
  have f1 := (R0.out 1 _ rfl _ hz3).2
  have f2 := (R0.out 2 _ rfl _ hz3).2
  have HRW : Hid (w3.heap[w.heap.size + 1]? = some (.cells #[Value.bool false, Value.slice none 0 0, Value.slice none 0 0] 47 (0, 0))) := Lib.hid ((hz3.block _ (lt_of_block HR.out)).trans HR.out)
  go_wp2_with fail
  exact bodyPost_ret (results_cell_row rfl _ _ (w.heap.size + 1) _ _ _ _ rfl (frac3_heap HRW.out) Tryz.underlying47 rfl ifrac) rfl HTE.out

set_option maxHeartbeats 2000000 in
theorem neg_q {w : World} {v : Value} {b : Bool} {l m : List Nat} (hv : RawF w v b l m) :
    Calls Tryz.prog 45 #[v] w (TellPost w (-fixR b l m)) := by
  have HV := Lib.hid hv
  have HL1 : Hid (lenQ (fixR b l m) ≤ 4096) := Lib.hid (by obtain ⟨u, d, rfl, hu, hd⟩ := hv; exact fix_len hu.ws hd.ws)
  obtain ⟨u, d, rfl, hu, hd⟩ := hv
  obtain ⟨ua, un, uc, hue⟩ := hu.form
  subst hue
  obtain ⟨da, dn, dc, hde⟩ := hd.form
  subst hde
  clear hu hd
  obtain ⟨P, hP⟩ : ∃ P, P = fixR b l m := ⟨_, rfl⟩
  have HP := Lib.hid hP
  rw [← hP] at HL1
  rw [← hP]
  obtain ⟨Q, hQ⟩ : ∃ Q, Q = -P := ⟨_, rfl⟩
  have HQ := Lib.hid hQ
  rw [← hQ]
  clear hP hQ
  obtain ⟨w1, hw1⟩ : ∃ w1, w1 = (w.alloc (Obj.cells #[Value.bool b, Value.slice ua un uc, Value.slice da dn dc] 47)).alloc (Obj.cells #[Value.bool false, Value.slice none 0 0, Value.slice none 0 0] 47) := ⟨_, rfl⟩
  have HB1 : Hid (Below w.heap.size w w1) := Lib.hid (by rw [hw1]; exact ((Below.refl _ _).alloc (Nat.le_refl _) _).alloc (by simp) _)
  have HX : Hid (w1.heap[w.heap.size]? = some (.cells #[Value.bool b, Value.slice ua un uc, Value.slice da dn dc] 47 (0, 0))) := Lib.hid (by rw [hw1]; exact heap_alloc2_old w _ _)
  have HR : Hid (w1.heap[w.heap.size + 1]? = some (.cells #[Value.bool false, Value.slice none 0 0, Value.slice none 0 0] 47 (0, 0))) := Lib.hid (by rw [hw1]; exact heap_alloc2_new w _ _)
  have HW1 := Lib.hid hw1.symm
  clear hw1
  have R0 : Hid (∀ o v, (#[Value.bool false, Value.slice none 0 0, Value.slice none 0 0] : Array Value)[o]? = some v → ∀ w', Below w1.heap.size w1 w' → w'.cell? ⟨w.heap.size + 1, o, none⟩ = some v ∧ w'.frozen? ⟨w.heap.size + 1, o, none⟩ = false) :=
    Lib.hid (fun o v h w' hb => by
      have h9 : w'.heap[w.heap.size + 1]? = some (.cells #[Value.bool false, Value.slice none 0 0, Value.slice none 0 0] 47 (0, 0)) := (hb.block _ (lt_of_block HR.out)).trans HR.out
      exact ⟨by rw [cell_of_row _ _ _ _ _ _ h9]; exact h, frozen_of_row _ _ _ _ _ h9⟩)
  have R1 : Hid (∀ o v, (#[Value.bool b, Value.slice ua un uc, Value.slice da dn dc] : Array Value)[o]? = some v → ∀ w', Below w1.heap.size w1 w' → w'.cell? ⟨w.heap.size, o, none⟩ = some v) :=
    Lib.hid (fun o v h w' hb => by rw [cell_of_row _ _ _ _ _ _ ((hb.block _ (lt_of_block HX.out)).trans HX.out)]; exact h)
  have hz1 := Below.refl w1.heap.size w1
  have c0 := R1.out 0 _ rfl _ hz1
  have c1 := R1.out 1 _ rfl _ hz1
  have c2 := R1.out 2 _ rfl _ hz1
  go_enter Tryz.func45, Tryz.ntmps45
  go_wp2_with fail
  rw [HW1.out]
  have HC1 := Lib.hid (fun w' (hb : Below w1.heap.size w1 w') => read_w (w := w') (HV.out.below (below_trans HB1.out hb)))
  rw [← HP.out] at HC1
  refine (HC1.out _ hz1).mono ?_
  rintro en2 w2 ⟨⟨p2, rfl, h2⟩, hb2⟩
  have hz2 := below_trans hz1 hb2
  have H2 := Lib.hid h2
  clear c0 c1 c2 h2
  go_wp2_with fail
  refine (rneg_w H2.out).mono ?_
  rintro en3 w3 ⟨⟨p3, rfl, h3⟩, hb3⟩
  have hz3 := below_trans hz2 hb3
  have H3 := Lib.hid h3
  clear h3
  go_wp2_with fail
  have HCT := Lib.hid (tell_w H3.out (by have h9 : lenQ (-P) = lenQ P := len_neg P; have := HL1.out; omega))
  rw [cut_id (show lenQ (-P) ≤ 4096 by have h9 : lenQ (-P) = lenQ P := len_neg P; have := HL1.out; omega), ← HQ.out] at HCT
  refine HCT.out.mono ?_
  rintro en4 w4 ⟨⟨x4, rfl, hf4, hn4⟩, hb4⟩
  obtain ⟨xa, xn, xc, xi, xj, xk, hx⟩ := frac_form hf4
  subst hx
  have hz4 := below_trans hz3 hb4
  have r0 := (R0.out 0 _ rfl _ hz4).1
  have r1 := (R0.out 1 _ rfl _ hz4).1
  have r2 := (R0.out 2 _ rfl _ hz4).1
  have f0 := (R0.out 0 _ rfl _ hz4).2
  have f1 := (R0.out 1 _ rfl _ hz4).2
  have f2 := (R0.out 2 _ rfl _ hz4).2
  have HTE := Lib.hid (tell_end HB1.out hz4 HR.out (by omega) hf4 (hn4.mono hz3.size))
  clear r0 r1 r2 f0 f1 f2
  have r0 := (R0.out 0 _ rfl _ hz4).1
  have r1 := (R0.out 1 _ rfl _ hz4).1
  have r2 := (R0.out 2 _ rfl _ hz4).1
  have f0 := (R0.out 0 _ rfl _ hz4).2
  have f1 := (R0.out 1 _ rfl _ hz4).2
  have f2 := (R0.out 2 _ rfl _ hz4).2
  have HRW : Hid (w4.heap[w.heap.size + 1]? = some (.cells #[Value.bool false, Value.slice none 0 0, Value.slice none 0 0] 47 (0, 0))) := Lib.hid ((hz4.block _ (lt_of_block HR.out)).trans HR.out)
  go_wp2_with fail
  exact bodyPost_ret (results_cell_row rfl _ _ (w.heap.size + 1) _ _ _ _ rfl (frac3_heap HRW.out) Tryz.underlying47 rfl ifrac) rfl HTE.out

end Go.Proofs.YtlaphdlocchagaaGreat

/- What frac tells of two fractions: sums, differences, products. -/
namespace Go.Proofs.YtlaphdlocchagaaGreat
open Go.RowKit
attribute [local go_sem ↓] Go.wp_at_zero Go.wp_at_succ

theorem num_len (q : Rat) : (digs q.num.natAbs).length ≤ lenQ q := by unfold lenQ; omega
theorem den_len (q : Rat) : (digs q.den).length ≤ lenQ q := by unfold lenQ; omega
theorem len_add (q p : Rat) : lenQ (q + p) ≤ 2 * (lenQ q + lenQ p) + 1 := by
  have e1 := num_len q
  have e2 := num_len p
  have e3 := den_len q
  have e4 := den_len p
  have h1 : (q + p).num.natAbs ≤ q.num.natAbs * p.den + p.num.natAbs * q.den := by
    have h := sum_num q p
    have hs : (sumNum q p).natAbs ≤ q.num.natAbs * p.den + p.num.natAbs * q.den := by
      unfold sumNum
      refine Nat.le_trans (Int.natAbs_add_le _ _) ?_
      rw [Int.natAbs_mul, Int.natAbs_mul, Int.natAbs_natCast, Int.natAbs_natCast]
      exact Nat.add_le_add (Nat.mul_le_mul_left _ (Nat.div_le_self _ _)) (Nat.mul_le_mul_left _ (Nat.div_le_self _ _))
    rw [h, Int.natAbs_mul, Int.natAbs_natCast] at hs
    have hg : 0 < sumGcd q p := Nat.gcd_pos_of_pos_right _ (Nat.gcd_pos_of_pos_right _ p.den_pos)
    exact Nat.le_trans (Nat.le_mul_of_pos_right _ hg) hs
  have h2 : (q + p).den ≤ q.den * p.den := by
    rw [sum_den]; exact Nat.mul_le_mul (Nat.div_le_self _ _) (Nat.div_le_self _ _)
  have l1 : (digs (q + p).num.natAbs).length ≤ lenQ q + lenQ p + 1 := by
    refine Nat.le_trans (len_digs_mono h1) (len_digs_add _ _ _ ?_ ?_)
    · exact Nat.le_trans (len_digs_mul _ _) (by omega)
    · exact Nat.le_trans (len_digs_mul _ _) (by omega)
  have l2 : (digs (q + p).den).length ≤ lenQ q + lenQ p := Nat.le_trans (len_digs_mono h2) (Nat.le_trans (len_digs_mul _ _) (by omega))
  have e : lenQ (q + p) = (digs (q + p).num.natAbs).length + (digs (q + p).den).length := rfl
  omega
theorem len_mul (q p : Rat) : lenQ (q * p) ≤ lenQ q + lenQ p := by
  have e1 : (digs (q * p).num.natAbs).length ≤ (digs q.num.natAbs).length + (digs p.num.natAbs).length := by
    rw [mul_num, Int.natAbs_mul]
    refine Nat.le_trans (len_digs_mul _ _) (Nat.add_le_add ?_ ?_)
    · exact len_digs_mono (natAbs_div_le _ _)
    · exact len_digs_mono (natAbs_div_le _ _)
  have e2 : (digs (q * p).den).length ≤ (digs q.den).length + (digs p.den).length := by
    rw [mul_den]
    refine Nat.le_trans (len_digs_mul _ _) (Nat.add_le_add ?_ ?_)
    · exact len_digs_mono (Nat.div_le_self _ _)
    · exact len_digs_mono (Nat.div_le_self _ _)
  unfold lenQ; omega

end Go.Proofs.YtlaphdlocchagaaGreat

/- What frac tells of fractions: order, sign, quotients; a fraction made. -/
namespace Go.Proofs.YtlaphdlocchagaaGreat
open Go.RowKit
attribute [local go_sem ↓] Go.wp_at_zero Go.wp_at_succ

theorem field_num (w : World) (a : Value) (b : Bool) (c : Value) : (Instr.field 93 (.agg #[a, .bool b, c]) 0).run Tryz.prog w = .ok (.agg #[a, .bool b]) w := by
  have h3 := inum
  cases hq : Tryz.prog.info? 91 with
  | none => simp [hq] at h3
  | some i =>
    have hsz : i.size = 2 := by simpa [hq] using h3
    simp [Instr.field, run_underlying Tryz.underlying93, asAgg, part, isAgg, run_underlying Tryz.underlying91, sizeOf, typeInfo, hq, hsz]

theorem results_row_tmp {P : Program} {fn : Func} {p u : Tmp} {ty : TypeId} (h : fn.results = #[.cell p ty, .tmp u]) (tmps : Array Value) (w : World) (g : Nat) (t : TypeId) (cs : Array Value) (fr : Nat × Nat) (d : TypeDesc)
    (hp : tmps.getD p undef = .pointer (some ⟨g, 0, none⟩)) (hg : w.heap[g]? = some (.cells cs t fr))
    (hu : P.underlying ty = some d) (hd : (match d with | .struct _ | .array _ _ => true | _ => false) = true) (hi : (P.info? ty).map (·.size) = some cs.size) :
    (results fn tmps).run P w = .ok (.tuple #[.agg cs, tmps.getD u undef]) w := by
  have hp' : tmps[p]?.getD undef = .pointer (some ⟨g, 0, none⟩) := by simpa using hp
  simp [results, h, hp', asAddr, run_loadVar_row w g t ty cs fr d hg hu hd hi]

set_option maxRecDepth 4000 in
set_option maxHeartbeats 1000000 in
theorem sign_q {w : World} {v : Value} {b : Bool} {l m : List Nat} (hv : RawF w v b l m) :
    Calls Tryz.prog 29 #[v] w fun e w' => e = .returned (.int .i64 (cmpQ (fixR b l m) 0)) ∧ Below w.heap.size w w' := by
  have HV := Lib.hid hv
  have HL1 : Hid (lenQ (fixR b l m) ≤ 4096) := Lib.hid (by obtain ⟨u, d, rfl, hu, hd⟩ := hv; exact fix_len hu.ws hd.ws)
  obtain ⟨u, d, rfl, hu, hd⟩ := hv
  obtain ⟨ua, un, uc, hue⟩ := hu.form
  subst hue
  obtain ⟨da, dn, dc, hde⟩ := hd.form
  subst hde
  clear hu hd
  obtain ⟨P, hP⟩ : ∃ P, P = fixR b l m := ⟨_, rfl⟩
  have HP := Lib.hid hP
  rw [← hP] at HL1
  rw [← hP]
  obtain ⟨sg, hsg⟩ : ∃ s, s = cmpQ P 0 := ⟨_, rfl⟩
  have HSG : Hid (sg = P.num.sign) := Lib.hid (by rw [hsg]; exact (sign_num P).symm)
  rw [← hsg]
  clear hsg hP
  obtain ⟨w1, hw1⟩ : ∃ w1, w1 = (w.alloc (Obj.cells #[Value.bool b, Value.slice ua un uc, Value.slice da dn dc] 47)) := ⟨_, rfl⟩
  have HB1 : Hid (Below w.heap.size w w1) := Lib.hid (by rw [hw1]; exact (Below.refl _ _).alloc (Nat.le_refl _) _)
  have HX : Hid (w1.heap[w.heap.size]? = some (.cells #[Value.bool b, Value.slice ua un uc, Value.slice da dn dc] 47 (0, 0))) := Lib.hid (by rw [hw1]; exact heap_alloc_new w _)
  have HW1 := Lib.hid hw1.symm
  clear hw1
  have R1 : Hid (∀ o v, (#[Value.bool b, Value.slice ua un uc, Value.slice da dn dc] : Array Value)[o]? = some v → ∀ w', Below w1.heap.size w1 w' → w'.cell? ⟨w.heap.size, o, none⟩ = some v) :=
    Lib.hid (fun o v h w' hb => by rw [cell_of_row _ _ _ _ _ _ ((hb.block _ (lt_of_block HX.out)).trans HX.out)]; exact h)
  have hz1 := Below.refl w1.heap.size w1
  have c0 := R1.out 0 _ rfl _ hz1
  have c1 := R1.out 1 _ rfl _ hz1
  have c2 := R1.out 2 _ rfl _ hz1
  go_enter Tryz.func29, Tryz.ntmps29
  go_wp2_with fail
  rw [HW1.out]
  have HC1 := Lib.hid (fun w' (hb : Below w1.heap.size w1 w') => read_w (w := w') (HV.out.below (below_trans HB1.out hb)))
  rw [← HP.out] at HC1
  refine (HC1.out _ hz1).mono ?_
  rintro en2 w2 ⟨⟨p2, rfl, h2⟩, hb2⟩
  have hz2 := below_trans hz1 hb2
  obtain ⟨u2, d2, rfl, hu2, hd2⟩ := h2
  obtain ⟨xa, xn, xc, hxe⟩ := hu2.form
  subst hxe
  obtain ⟨ya, yn, yc, hye⟩ := hd2.form
  subst hye
  have H2 := Lib.hid hu2
  obtain ⟨bs, hbs⟩ : ∃ x, x = decide (P.num < 0) := ⟨_, rfl⟩
  have HBS := Lib.hid hbs
  rw [← hbs]
  have hfn := field_num w2 (Value.slice xa xn xc) bs (Value.slice ya yn yc)
  clear c0 c1 c2 hu2 hd2 hbs
  go_wp2_with fail
  refine (sign_x H2.out HBS.out HSG.out).mono ?_
  rintro en3 w3 ⟨rfl, hb3⟩
  go_wp2_with fail
  go_ret
  exact ⟨rfl, below_trans HB1.out (below_trans hz2 hb3)⟩

set_option maxRecDepth 4000 in
set_option maxHeartbeats 2000000 in
theorem cmp_q {w : World} {v t : Value} {b c : Bool} {l m l2 m2 : List Nat} (hv : RawF w v b l m) (ht : RawF w t c l2 m2) :
    Calls Tryz.prog 24 #[v, t] w fun e w' => e = .returned (.int .i64 (cmpQ (fixR b l m) (fixR c l2 m2))) ∧ Below w.heap.size w w' := by
  have HV := Lib.hid hv
  have HL1 : Hid (lenQ (fixR b l m) ≤ 4096) := Lib.hid (by obtain ⟨u, d, rfl, hu, hd⟩ := hv; exact fix_len hu.ws hd.ws)
  have HT := Lib.hid ht
  have HL2 : Hid (lenQ (fixR c l2 m2) ≤ 4096) := Lib.hid (by obtain ⟨u, d, rfl, hu, hd⟩ := ht; exact fix_len hu.ws hd.ws)
  obtain ⟨u, d, rfl, hu, hd⟩ := hv
  obtain ⟨ua, un, uc, hue⟩ := hu.form
  subst hue
  obtain ⟨da, dn, dc, hde⟩ := hd.form
  subst hde
  clear hu hd
  obtain ⟨u2, d2, rfl, hu2, hd2⟩ := ht
  obtain ⟨va, vn, vc, hve⟩ := hu2.form
  subst hve
  obtain ⟨ea, en, ec, hee⟩ := hd2.form
  subst hee
  clear hu2 hd2
  obtain ⟨P, hP⟩ : ∃ P, P = fixR b l m := ⟨_, rfl⟩
  obtain ⟨S, hS⟩ : ∃ S, S = fixR c l2 m2 := ⟨_, rfl⟩
  have HS := Lib.hid hS
  have HP := Lib.hid hP
  rw [← hP] at HL1
  rw [← hS] at HL2
  rw [← hP, ← hS]
  obtain ⟨sg, hsg⟩ : ∃ s, s = cmpQ P S := ⟨_, rfl⟩
  have HSG := Lib.hid hsg
  rw [← hsg]
  clear hsg hP hS
  obtain ⟨w1, hw1⟩ : ∃ w1, w1 = ((w.alloc (Obj.cells #[Value.bool b, Value.slice ua un uc, Value.slice da dn dc] 47)).alloc (Obj.cells #[Value.bool c, Value.slice va vn vc, Value.slice ea en ec] 47)) := ⟨_, rfl⟩
  have HB1 : Hid (Below w.heap.size w w1) := Lib.hid (by rw [hw1]; exact ((Below.refl _ _).alloc (Nat.le_refl _) _).alloc (by simp) _)
  have HX : Hid (w1.heap[w.heap.size]? = some (.cells #[Value.bool b, Value.slice ua un uc, Value.slice da dn dc] 47 (0, 0))) := Lib.hid (by rw [hw1]; exact heap_alloc2_old w _ _)
  have HY : Hid (w1.heap[w.heap.size + 1]? = some (.cells #[Value.bool c, Value.slice va vn vc, Value.slice ea en ec] 47 (0, 0))) := Lib.hid (by rw [hw1]; exact heap_alloc2_new w _ _)
  have HW1 := Lib.hid hw1.symm
  clear hw1
  have R1 : Hid (∀ o v, (#[Value.bool b, Value.slice ua un uc, Value.slice da dn dc] : Array Value)[o]? = some v → ∀ w', Below w1.heap.size w1 w' → w'.cell? ⟨w.heap.size, o, none⟩ = some v) :=
    Lib.hid (fun o v h w' hb => by rw [cell_of_row _ _ _ _ _ _ ((hb.block _ (lt_of_block HX.out)).trans HX.out)]; exact h)
  have R2 : Hid (∀ o v, (#[Value.bool c, Value.slice va vn vc, Value.slice ea en ec] : Array Value)[o]? = some v → ∀ w', Below w1.heap.size w1 w' → w'.cell? ⟨w.heap.size + 1, o, none⟩ = some v) :=
    Lib.hid (fun o v h w' hb => by rw [cell_of_row _ _ _ _ _ _ ((hb.block _ (lt_of_block HY.out)).trans HY.out)]; exact h)
  have hz1 := Below.refl w1.heap.size w1
  have c0 := R1.out 0 _ rfl _ hz1
  have c1 := R1.out 1 _ rfl _ hz1
  have c2 := R1.out 2 _ rfl _ hz1
  have e0 := R2.out 0 _ rfl _ hz1
  have e1 := R2.out 1 _ rfl _ hz1
  have e2 := R2.out 2 _ rfl _ hz1
  go_enter Tryz.func24, Tryz.ntmps24
  go_wp2_with fail
  rw [HW1.out]
  have HC1 := Lib.hid (fun w' (hb : Below w1.heap.size w1 w') => read_w (w := w') (HV.out.below (below_trans HB1.out hb)))
  rw [← HP.out] at HC1
  have HC2 := Lib.hid (fun w' (hb : Below w1.heap.size w1 w') => read_w (w := w') (HT.out.below (below_trans HB1.out hb)))
  rw [← HS.out] at HC2
  have hz0 : Below w1.heap.size w1 w1.drew := below_drewN (Below.refl _ _) 1
  have HC3 := Lib.hid (fun w' x y (h : RatQ w' x P) (k : RatQ w' y S) => rcompare_q (w := w') (v := x) (d := y) h k (by have := HL1.out; have := HL2.out; omega))
  rw [← HSG.out] at HC3
  go_region_held3 (fun w' => w'.cell? ⟨w.heap.size, 0, none⟩ = some (.bool b) ∧ w'.cell? ⟨w.heap.size, 1, none⟩ = some (.slice ua un uc) ∧ w'.cell? ⟨w.heap.size, 2, none⟩ = some (.slice da dn dc) ∧ w'.cell? ⟨w.heap.size + 1, 0, none⟩ = some (.bool c) ∧ w'.cell? ⟨w.heap.size + 1, 1, none⟩ = some (.slice va vn vc) ∧ w'.cell? ⟨w.heap.size + 1, 2, none⟩ = some (.slice ea en ec))
    (((try dsimp only); refine ⟨?_, ?_, ?_, ?_, ?_, ?_⟩ <;> (first | exact R1.out _ _ rfl _ (by assumption) | exact R2.out _ _ rfl _ (by assumption) | (rw [World.cell?_setCell_far _ _ _ _ (by dsimp only; omega), World.cell?_setCell_far _ _ _ _ (by dsimp only; omega), World.cell?_setCell_far _ _ _ _ (by dsimp only; omega)]; first | exact R1.out _ _ rfl _ (by assumption) | exact R2.out _ _ rfl _ (by assumption)) | go_keep)))
    (first | (go_at_call_of 68 (Value.slice ua un uc); refine (HC1.out _ hz0).mono ?_; rintro en2 w2 ⟨⟨p2, rfl, h2⟩, hb2⟩; have hz2 := below_trans hz0 hb2) | (go_at_call 68; refine (HC2.out _ hz2).mono ?_; rintro en3 w3 ⟨⟨p3, rfl, h3⟩, hb3⟩; have hz3 := below_trans hz2 hb3) | (go_at_call 69; refine (HC3.out _ _ _ (h2.below hb3) h3).mono ?_; rintro en9 w9 ⟨rfl, hb9⟩; have hz9 := below_trans hz3 hb9))
  go_wp2_with fail
  go_ret
  exact ⟨rfl, below_trans HB1.out hz9⟩

/-- What a quotient tells. -/
def QuoPost (w : World) (z : Bool) (Q : Rat) (e : Ending) (w' : World) : Prop :=
  (if z then e = .returned (.tuple #[.agg #[.bool false, .slice none 0 0, .slice none 0 0], .int .i64 11]) else ∃ r, e = .returned (.tuple #[r, .int .i64 0]) ∧ FracV w' r Q ∧ NewF w r) ∧ Below w.heap.size w w'
theorem int_len (n : Int) (h1 : -9223372036854775808 ≤ n) (h2 : n ≤ 9223372036854775807) : (digs n.natAbs).length ≤ 2 := by
  have e : (4294967296 : Nat) ^ 2 = 18446744073709551616 := by decide
  refine len_digs_le.2 ?_
  rw [e]; omega
/-- What two whole numbers make. -/
def makeQ (p q : Int) : Rat := mkRat (if (decide (p < 0) != decide (q < 0)) = true then -(p.natAbs : Int) else p.natAbs) q.natAbs
set_option maxRecDepth 4000 in
set_option maxHeartbeats 2000000 in
theorem make_q {w : World} (p q : Int) (hp1 : -9223372036854775808 ≤ p) (hp2 : p ≤ 9223372036854775807) (hq1 : -9223372036854775808 ≤ q) (hq2 : q ≤ 9223372036854775807) :
    Calls Tryz.prog 142 #[.int .i64 p, .int .i64 q] w (QuoPost w (zerB q.natAbs) (makeQ p q)) := by
  have HP1 := Lib.hid hp1
  have HP2 := Lib.hid hp2
  have HQ1 := Lib.hid hq1
  have HQ2 := Lib.hid hq2
  clear hp1 hp2 hq1 hq2
  by_cases h0 : q = 0
  · have hd : ((q : Int) == 0) = true := by simp [h0]
    have HZ : Hid (zerB q.natAbs = true) := Lib.hid (by rw [h0]; rfl)
    rw [HZ.out]
    clear h0
    go_enter Tryz.func142, Tryz.ntmps142
    go_wp2_with fail
    exact bodyPost_ret (results_row_tmp rfl _ _ w.heap.size _ _ _ _ rfl (heap_alloc_new w _) Tryz.underlying47 rfl ifrac) rfl ⟨by rw [if_pos rfl]; rfl, (Below.refl _ _).alloc (Nat.le_refl _) _⟩
  · have hd : ((q : Int) == 0) = false := by simp [h0]
    have HZ : Hid (zerB q.natAbs = false) := Lib.hid (by simp [zerB, h0])
    rw [HZ.out]
    have H0 := Lib.hid h0
    clear h0
    obtain ⟨bp, hbp⟩ : ∃ x, x = decide (p < 0) := ⟨_, rfl⟩
    obtain ⟨bq, hbq⟩ : ∃ x, x = decide (q < 0) := ⟨_, rfl⟩
    have HBP := Lib.hid hbp
    have HBQ := Lib.hid hbq
    obtain ⟨w1, hw1⟩ : ∃ w1, w1 = w.alloc (Obj.cells #[Value.bool false, Value.slice none 0 0, Value.slice none 0 0] 47) := ⟨_, rfl⟩
    have HB1 : Hid (Below w.heap.size w w1) := Lib.hid (by rw [hw1]; exact (Below.refl _ _).alloc (Nat.le_refl _) _)
    have HR : Hid (w1.heap[w.heap.size]? = some (.cells #[Value.bool false, Value.slice none 0 0, Value.slice none 0 0] 47 (0, 0))) := Lib.hid (by rw [hw1]; exact heap_alloc_new w _)
    have HW1 := Lib.hid hw1.symm
    clear hw1
    have HC1 : Hid (∀ w', Calls Tryz.prog 161 #[.int .i64 p] w' fun e w'' => (∃ r, e = .returned (.agg #[r, .bool bp]) ∧ IsW w'' r (digs p.natAbs)) ∧ Below w'.heap.size w' w'') := Lib.hid (fun w' => by
      refine (fromInt_w p HP1.out HP2.out).mono ?_
      rintro e w'' ⟨⟨r, rfl, u, rfl, hu⟩, hb⟩
      exact ⟨⟨u, by rw [hbp], hu⟩, hb⟩)
    have HC2 : Hid (∀ w', Calls Tryz.prog 161 #[.int .i64 q] w' fun e w'' => (∃ r, e = .returned (.agg #[r, .bool bq]) ∧ IsW w'' r (digs q.natAbs)) ∧ Below w'.heap.size w' w'') := Lib.hid (fun w' => by
      refine (fromInt_w q HQ1.out HQ2.out).mono ?_
      rintro e w'' ⟨⟨r, rfl, u, rfl, hu⟩, hb⟩
      exact ⟨⟨u, by rw [hbq], hu⟩, hb⟩)
    clear hbp hbq
    go_enter Tryz.func142, Tryz.ntmps142
    go_wp2_with fail
    rw [HW1.out]
    refine (HC1.out _).mono ?_
    rintro en2 w2 ⟨⟨r2, rfl, h2⟩, hz2⟩
    obtain ⟨ua, un, uc, hue⟩ := h2.form
    subst hue
    have HU := Lib.hid h2
    clear h2
    go_wp2_with fail
    refine (HC2.out _).mono ?_
    rintro en3 w3 ⟨⟨r3, rfl, h3⟩, hb3⟩
    obtain ⟨va, vn, vc, hve⟩ := h3.form
    subst hve
    have HU3 := Lib.hid (HU.out.below hb3)
    have HV3 := Lib.hid h3
    have hz3 := below_trans hz2 hb3
    clear h3 hb3 hz2
    go_wp2_with fail
    obtain ⟨w4, hw4⟩ : ∃ w4, w4 = (w3.alloc (Obj.cells #[Value.slice ua un uc, Value.bool bp] 91)).alloc (Obj.cells #[Value.slice va vn vc, Value.bool bq] 91) := ⟨_, rfl⟩
    rw [← hw4]
    have hb4 : Below w3.heap.size w3 w4 := by rw [hw4]; exact ((Below.refl _ _).alloc (Nat.le_refl _) _).alloc (by simp) _
    have hz4 := below_trans hz3 hb4
    have HX : Hid (w4.heap[w3.heap.size]? = some (.cells #[Value.slice ua un uc, Value.bool bp] 91 (0, 0))) := Lib.hid (by rw [hw4]; exact heap_alloc2_old w3 _ _)
    have HY : Hid (w4.heap[w3.heap.size + 1]? = some (.cells #[Value.slice va vn vc, Value.bool bq] 91 (0, 0))) := Lib.hid (by rw [hw4]; exact heap_alloc2_new w3 _ _)
    have HU4 := Lib.hid (HU3.out.below hb4)
    have HV4 := Lib.hid (HV3.out.below hb4)
    have hs3 : w.heap.size + 1 ≤ w3.heap.size := by have h1 := hz3.size; have h2 := lt_of_block HR.out; omega
    clear hw4 hb4
    have R0 : Hid (∀ o v, (#[Value.bool false, Value.slice none 0 0, Value.slice none 0 0] : Array Value)[o]? = some v → ∀ w', Below w1.heap.size w1 w' → w'.cell? ⟨w.heap.size, o, none⟩ = some v ∧ w'.frozen? ⟨w.heap.size, o, none⟩ = false) :=
      Lib.hid (fun o v h w' hb => by
        have h9 : w'.heap[w.heap.size]? = some (.cells #[Value.bool false, Value.slice none 0 0, Value.slice none 0 0] 47 (0, 0)) := (hb.block _ (lt_of_block HR.out)).trans HR.out
        exact ⟨by rw [cell_of_row _ _ _ _ _ _ h9]; exact h, frozen_of_row _ _ _ _ _ h9⟩)
    have RX : Hid (∀ o v, (#[Value.slice ua un uc, Value.bool bp] : Array Value)[o]? = some v → ∀ w', Below w4.heap.size w4 w' → w'.cell? ⟨w3.heap.size, o, none⟩ = some v) :=
      Lib.hid (fun o v h w' hb => by rw [cell_of_row _ _ _ _ _ _ ((hb.block _ (lt_of_block HX.out)).trans HX.out)]; exact h)
    have RY : Hid (∀ o v, (#[Value.slice va vn vc, Value.bool bq] : Array Value)[o]? = some v → ∀ w', Below w4.heap.size w4 w' → w'.cell? ⟨w3.heap.size + 1, o, none⟩ = some v) :=
      Lib.hid (fun o v h w' hb => by rw [cell_of_row _ _ _ _ _ _ ((hb.block _ (lt_of_block HY.out)).trans HY.out)]; exact h)
    obtain ⟨fz, hfz⟩ : ∃ x : Int, x = if (bp != bq) = true then -(p.natAbs : Int) else p.natAbs := ⟨_, rfl⟩
    obtain ⟨fx, hfx⟩ : ∃ x, x = decide (fz < 0) := ⟨_, rfl⟩
    have HFZ := Lib.hid hfz
    have HFX := Lib.hid hfx
    have HFA : Hid (fz.natAbs = p.natAbs) := Lib.hid (signed_abs hfz)
    have HMQ : Hid (makeQ p q = mkRat fz q.natAbs) := Lib.hid (by unfold makeQ; rw [hfz, HBP.out, HBQ.out])
    have HLP := Lib.hid (int_len p HP1.out HP2.out)
    have HLQ := Lib.hid (int_len q HQ1.out HQ2.out)
    have HQ0 : Hid (0 < q.natAbs) := Lib.hid (by have := H0.out; omega)
    clear hfz hfx
    have HM1 := Lib.hid (fun w' (hb : Below w4.heap.size w4 w') => signed_x (w := w') (b := bp != bq) (HU4.out.below hb) HFZ.out HFX.out)
    have HM2 := Lib.hid (fun w' (hb : Below w4.heap.size w4 w') => lowest_w (w := w') (v := .agg #[Value.slice ua un uc, Value.bool fx]) (z := fz) ⟨_, by rw [HFX.out], by rw [HFA.out]; exact HU4.out.below hb⟩ (HV4.out.below hb) HQ0.out (by rw [HFA.out]; have := HLP.out; omega) (by have := HLQ.out; omega))
    have HLN : Hid (lenQ (makeQ p q) ≤ 4) := Lib.hid (by
      have h1 : (digs (makeQ p q).num.natAbs).length ≤ (digs p.natAbs).length := len_digs_mono (by rw [HMQ.out, mkRat_num (by have := HQ0.out; omega)]; refine Nat.le_trans (natAbs_div_le _ _) ?_; rw [HFA.out]; exact Nat.le_refl _)
      have h2 : (digs (makeQ p q).den).length ≤ (digs q.natAbs).length := len_digs_mono (by rw [HMQ.out, mkRat_den (by have := HQ0.out; omega)]; exact Nat.div_le_self _ _)
      have := HLP.out
      have := HLQ.out
      unfold lenQ; omega)
    obtain ⟨Q, hQ⟩ : ∃ Q, Q = makeQ p q := ⟨_, rfl⟩
    have HQQ := Lib.hid hQ
    have HCT := Lib.hid (fun w' x (h : RatQ w' x (mkRat fz q.natAbs)) => tell_w (w := w') (v := x) h (by rw [← HMQ.out]; have := HLN.out; omega))
    rw [← HMQ.out, cut_id (by have := HLN.out; omega), ← hQ] at HCT
    rw [← HMQ.out, ← hQ] at HM2
    clear hQ
    have hz0 : Below w1.heap.size w1 w4.drew := below_drewN hz4 1
    have hy0 : Below w4.heap.size w4 w4.drew := below_drewN (Below.refl _ _) 1
    have c0 := RX.out 0 _ rfl _ (Below.refl _ _)
    have c1 := RX.out 1 _ rfl _ (Below.refl _ _)
    have e0 := RY.out 0 _ rfl _ (Below.refl _ _)
    have e1 := RY.out 1 _ rfl _ (Below.refl _ _)
    go_region_held3 (fun w' => w'.cell? ⟨w3.heap.size, 0, none⟩ = some (.slice ua un uc) ∧ w'.cell? ⟨w3.heap.size, 1, none⟩ = some (.bool bp) ∧ w'.cell? ⟨w3.heap.size + 1, 0, none⟩ = some (.slice va vn vc) ∧ w'.cell? ⟨w3.heap.size + 1, 1, none⟩ = some (.bool bq))
      (((try dsimp only); refine ⟨?_, ?_, ?_, ?_⟩ <;> (first | exact RX.out _ _ rfl _ (by assumption) | exact RY.out _ _ rfl _ (by assumption) | (rw [World.cell?_setCell_far _ _ _ _ (by dsimp only; omega), World.cell?_setCell_far _ _ _ _ (by dsimp only; omega), World.cell?_setCell_far _ _ _ _ (by dsimp only; omega)]; first | exact RX.out _ _ rfl _ (by assumption) | exact RY.out _ _ rfl _ (by assumption)) | go_keep)))
      (first | (go_at_call 141; refine (HM1.out _ hy0).mono ?_; rintro en5 w5 ⟨rfl, hb5⟩; have hz5 := below_trans hz0 hb5; have hy5 := below_trans hy0 hb5) | (go_at_call 162; refine (HM2.out _ hy5).mono ?_; rintro en9 w9 ⟨⟨p9, rfl, h9⟩, hb9⟩; have hz9 := below_trans hz5 hb9; have hy9 := below_trans hy5 hb9) | (go_at_call 87; refine (HCT.out _ _ h9).mono ?_; rintro ent wt ⟨⟨xt, rfl, hft, hnt⟩, hbt⟩; obtain ⟨xa, xn, xc, xi, xj, xk, hx⟩ := frac_form hft; subst hx; have hzt := below_trans hz9 hbt; have r0 := (R0.out 0 _ rfl _ hzt).1; have r1 := (R0.out 1 _ rfl _ hzt).1; have r2 := (R0.out 2 _ rfl _ hzt).1; have f0 := (R0.out 0 _ rfl _ hzt).2; have f1 := (R0.out 1 _ rfl _ hzt).2; have f2 := (R0.out 2 _ rfl _ hzt).2; have hyt := below_trans hy9 hbt))
    have HTE := Lib.hid (tell_end HB1.out hzt HR.out (Nat.le_refl _) hft (hnt.mono hz9.size))
    clear r0 r1 r2 f0 f1 f2
    have r0 := (R0.out 0 _ rfl _ hzt).1
    have r1 := (R0.out 1 _ rfl _ hzt).1
    have r2 := (R0.out 2 _ rfl _ hzt).1
    have f0 := (R0.out 0 _ rfl _ hzt).2
    have f1 := (R0.out 1 _ rfl _ hzt).2
    have f2 := (R0.out 2 _ rfl _ hzt).2
    have HRW : Hid (wt.heap[w.heap.size]? = some (.cells #[Value.bool false, Value.slice none 0 0, Value.slice none 0 0] 47 (0, 0))) := Lib.hid ((hzt.block _ (lt_of_block HR.out)).trans HR.out)
    go_wp2_with fail
    refine bodyPost_ret (results_row_tmp rfl _ _ w.heap.size _ _ _ _ rfl (frac3_heap HRW.out) Tryz.underlying47 rfl ifrac) rfl ?_
    obtain ⟨⟨rr, hr1, hr2, hr3⟩, hr4⟩ := HTE.out
    simp only [Ending.returned.injEq] at hr1
    exact ⟨⟨rr, by rw [← hr1]; rfl, by rw [← HQQ.out]; exact hr2, hr3⟩, hr4⟩
end Go.Proofs.YtlaphdlocchagaaGreat
