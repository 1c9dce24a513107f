/- What frac tells: made, fixed, computed, compared. -/
import Derived.Test.YtebgkfcglmjokaaRk
import Derived.Deep.DrawnRows
namespace Go.Proofs.Ytebgkfcglmjokaa
open Go.RowKit
attribute [local go_sem ↓] Go.wp_at_zero Go.wp_at_succ

theorem len_zero : lenQ 0 = 1 := by
  have e1 : digs (0 : Rat).num.natAbs = [] := by show digs 0 = []; exact digs_zero
  have e2 : digs (0 : Rat).den = [1] := by show digs 1 = [1]; unfold digs; simp [digs]
  unfold lenQ; rw [e1, e2]; simp
theorem len_cut (q : Rat) : lenQ (cutR q) ≤ 4096 := by
  unfold cutR
  split
  · assumption
  · rw [len_zero]; omega
theorem cut_id {q : Rat} (h : lenQ q ≤ 4096) : cutR q = q := by unfold cutR; rw [if_pos h]

/-- A told fraction. -/
def TellPost (w : World) (q : Rat) (e : Ending) (w' : World) : Prop := (∃ r, e = .returned r ∧ FracV w' r q ∧ NewF w r) ∧ Below w.heap.size w w'
theorem NewF.mono {w w' : World} {v : Value} (h : NewF w' v) (hs : w.heap.size ≤ w'.heap.size) : NewF w v := by
  obtain ⟨b, u, d, rfl, h1, h2⟩ := h
  exact ⟨b, u, d, rfl, fun x e => Nat.le_trans hs (h1 x e), fun x e => Nat.le_trans hs (h2 x e)⟩

theorem len_neg (q : Rat) : lenQ (-q) = lenQ q := by unfold lenQ; rw [Rat.neg_num, Rat.neg_den, Int.natAbs_neg]
theorem len_floor (q : Rat) : lenQ (q.floor : Rat) ≤ lenQ q + 1 := by
  unfold lenQ
  rw [int_num, int_den]
  have h1 : q.floor.natAbs = upN q := signed_abs (b := decide (q.num < 0)) (floor_up q).symm
  have h2 : digs 1 = [1] := by unfold digs; simp [digs]
  have h3 : 1 ≤ (digs q.den).length := by
    have := digs_pos q.den_nz
    rw [this]; simp
  have h4 : upN q ≤ q.num.natAbs + 1 := by
    have := Nat.div_le_self q.num.natAbs q.den
    unfold upN; split <;> omega
  have h5 : (digs (upN q)).length ≤ (digs q.num.natAbs).length + 1 := by
    by_cases h0 : q.num.natAbs = 0
    · have : (digs (upN q)).length ≤ (digs 1).length := len_digs_mono (by omega)
      rw [h2] at this; simp at this; omega
    · refine Nat.le_trans (len_digs_mono h4) (len_digs_add _ _ _ (Nat.le_refl _) ?_)
      rw [h2]
      rw [digs_pos h0]; simp
  rw [h1, h2]
  simp
  omega

/-- The end of a function that tells: the told fraction laid into the result's block. -/
theorem tell_end {w w1 wk : World} {R : Nat} {Q : Rat} {u d : Value} {t : TypeId} (hB1 : Below w.heap.size w w1) (hz : Below w1.heap.size w1 wk) (hR : w1.heap[R]? = some (.cells #[Value.bool false, Value.slice none 0 0, Value.slice none 0 0] t (0, 0))) (hRw : w.heap.size ≤ R)
    (hf : FracV wk (.agg #[.bool (decide (Q.num < 0)), u, d]) Q) (hn : NewF w1 (.agg #[.bool (decide (Q.num < 0)), u, d])) :
    TellPost w Q (.returned (.agg #[.bool (decide (Q.num < 0)), u, d])) (frac3 wk R (decide (Q.num < 0)) u d) := by
  have hR' : wk.heap[R]? = _ := (hz.block _ (lt_of_block hR)).trans hR
  obtain ⟨u', d', he, hu, hd⟩ := hf
  simp only [Value.agg.injEq, Array.mk.injEq, List.cons.injEq, and_true, true_and] at he
  obtain ⟨rfl, rfl⟩ := he
  refine ⟨⟨_, rfl, frac3_q hR' hu hd, ?_⟩, below_only (below_trans hB1 hz) (frac3_only _ _ _ _ _) hRw⟩
  exact hn.mono hB1.size

theorem frac_form {w : World} {r : Value} {Q : Rat} (h : FracV w r Q) : ∃ a n c i j k, r = .agg #[.bool (decide (Q.num < 0)), .slice a n c, .slice i j k] := by
  obtain ⟨u, d, rfl, hu, hd⟩ := h
  obtain ⟨a, n, c, rfl⟩ := hu.form
  obtain ⟨i, j, k, rfl⟩ := hd.form
  exact ⟨a, n, c, i, j, k, rfl⟩

set_option maxHeartbeats 2000000 in
theorem fix_w {w : World} {v : Value} {b : Bool} {l m : List Nat} (hv : RawF w v b l m) :
    Calls Try.prog 17 #[v] w (TellPost w (fixR b l m)) := by
  have HV := Lib.hid hv
  have HL1 : Hid (lenQ (fixR b l m) ≤ 4096) := Lib.hid (by obtain ⟨u, d, rfl, hu, hd⟩ := hv; exact fix_len hu.ws hd.ws)
  obtain ⟨u, d, rfl, hu, hd⟩ := hv
  obtain ⟨ua, un, uc, hue⟩ := hu.form
  subst hue
  obtain ⟨da, dn, dc, hde⟩ := hd.form
  subst hde
  clear hu hd
  obtain ⟨P, hP⟩ : ∃ P, P = fixR b l m := ⟨_, rfl⟩
  have HP := Lib.hid hP
  rw [← hP] at HL1
  rw [← hP]
  obtain ⟨Q, hQ⟩ : ∃ Q, Q = P := ⟨_, rfl⟩
  have HQ := Lib.hid hQ
  rw [← hQ]
  clear hP hQ
  obtain ⟨w1, hw1⟩ : ∃ w1, w1 = (w.alloc (Obj.cells #[Value.bool b, Value.slice ua un uc, Value.slice da dn dc] 24)).alloc (Obj.cells #[Value.bool false, Value.slice none 0 0, Value.slice none 0 0] 24) := ⟨_, rfl⟩
  have HB1 : Hid (Below w.heap.size w w1) := Lib.hid (by rw [hw1]; exact ((Below.refl _ _).alloc (Nat.le_refl _) _).alloc (by simp) _)
  have HX : Hid (w1.heap[w.heap.size]? = some (.cells #[Value.bool b, Value.slice ua un uc, Value.slice da dn dc] 24 (0, 0))) := Lib.hid (by rw [hw1]; exact heap_alloc2_old w _ _)
  have HR : Hid (w1.heap[w.heap.size + 1]? = some (.cells #[Value.bool false, Value.slice none 0 0, Value.slice none 0 0] 24 (0, 0))) := Lib.hid (by rw [hw1]; exact heap_alloc2_new w _ _)
  have HW1 := Lib.hid hw1.symm
  clear hw1
  have R0 : Hid (∀ o v, (#[Value.bool false, Value.slice none 0 0, Value.slice none 0 0] : Array Value)[o]? = some v → ∀ w', Below w1.heap.size w1 w' → w'.cell? ⟨w.heap.size + 1, o, none⟩ = some v ∧ w'.frozen? ⟨w.heap.size + 1, o, none⟩ = false) :=
    Lib.hid (fun o v h w' hb => by
      have h9 : w'.heap[w.heap.size + 1]? = some (.cells #[Value.bool false, Value.slice none 0 0, Value.slice none 0 0] 24 (0, 0)) := (hb.block _ (lt_of_block HR.out)).trans HR.out
      exact ⟨by rw [cell_of_row _ _ _ _ _ _ h9]; exact h, frozen_of_row _ _ _ _ _ h9⟩)
  have R1 : Hid (∀ o v, (#[Value.bool b, Value.slice ua un uc, Value.slice da dn dc] : Array Value)[o]? = some v → ∀ w', Below w1.heap.size w1 w' → w'.cell? ⟨w.heap.size, o, none⟩ = some v) :=
    Lib.hid (fun o v h w' hb => by rw [cell_of_row _ _ _ _ _ _ ((hb.block _ (lt_of_block HX.out)).trans HX.out)]; exact h)
  have hz1 := Below.refl w1.heap.size w1
  have c0 := R1.out 0 _ rfl _ hz1
  have c1 := R1.out 1 _ rfl _ hz1
  have c2 := R1.out 2 _ rfl _ hz1
  go_enter Try.func17, Try.ntmps17
  go_wp2_with fail
  rw [HW1.out]
  have HC1 := Lib.hid (fun w' (hb : Below w1.heap.size w1 w') => read_w (w := w') (HV.out.below (below_trans HB1.out hb)))
  rw [← HP.out] at HC1
  refine (HC1.out _ hz1).mono ?_
  rintro en2 w2 ⟨⟨p2, rfl, h2⟩, hb2⟩
  have hz2 := below_trans hz1 hb2
  have H2 := Lib.hid h2
  clear c0 c1 c2 h2
  go_wp2_with fail
  have HCT := Lib.hid (tell_w H2.out (by have := HL1.out; omega))
  rw [cut_id HL1.out, ← HQ.out] at HCT
  refine HCT.out.mono ?_
  rintro en3 w3 ⟨⟨x3, rfl, hf3, hn3⟩, hb3⟩
  obtain ⟨xa, xn, xc, xi, xj, xk, hx⟩ := frac_form hf3
  subst hx
  have hz3 := below_trans hz2 hb3
  have r0 := (R0.out 0 _ rfl _ hz3).1
  have r1 := (R0.out 1 _ rfl _ hz3).1
  have r2 := (R0.out 2 _ rfl _ hz3).1
  have f0 := (R0.out 0 _ rfl _ hz3).2
  have f1 := (R0.out 1 _ rfl _ hz3).2
  have f2 := (R0.out 2 _ rfl _ hz3).2
  have HTE := Lib.hid (tell_end HB1.out hz3 HR.out (by omega) hf3 (hn3.mono hz2.size))
  clear r0 r1 r2 f0 f1 f2
  have r0 := (R0.out 0 _ rfl _ hz3).1
  have r1 := (R0.out 1 _ rfl _ hz3).1
  have r2 := (R0.out 2 _ rfl _ hz3).1
  have f0 := (R0.out 0 _ rfl _ hz3).2
  have f1 := (R0.out 1 _ rfl _ hz3).2
  have f2 := (R0.out 2 _ rfl _ hz3).2
  have HRW : Hid (w3.heap[w.heap.size + 1]? = some (.cells #[Value.bool false, Value.slice none 0 0, Value.slice none 0 0] 24 (0, 0))) := Lib.hid ((hz3.block _ (lt_of_block HR.out)).trans HR.out)
  go_wp2_with fail
  exact bodyPost_ret (results_cell_row rfl _ _ (w.heap.size + 1) _ _ _ _ rfl (frac3_heap HRW.out) Try.underlying24 rfl ifrac) rfl HTE.out

set_option maxHeartbeats 2000000 in
theorem neg_q {w : World} {v : Value} {b : Bool} {l m : List Nat} (hv : RawF w v b l m) :
    Calls Try.prog 30 #[v] w (TellPost w (-fixR b l m)) := by
  have HV := Lib.hid hv
  have HL1 : Hid (lenQ (fixR b l m) ≤ 4096) := Lib.hid (by obtain ⟨u, d, rfl, hu, hd⟩ := hv; exact fix_len hu.ws hd.ws)
  obtain ⟨u, d, rfl, hu, hd⟩ := hv
  obtain ⟨ua, un, uc, hue⟩ := hu.form
  subst hue
  obtain ⟨da, dn, dc, hde⟩ := hd.form
  subst hde
  clear hu hd
  obtain ⟨P, hP⟩ : ∃ P, P = fixR b l m := ⟨_, rfl⟩
  have HP := Lib.hid hP
  rw [← hP] at HL1
  rw [← hP]
  obtain ⟨Q, hQ⟩ : ∃ Q, Q = -P := ⟨_, rfl⟩
  have HQ := Lib.hid hQ
  rw [← hQ]
  clear hP hQ
  obtain ⟨w1, hw1⟩ : ∃ w1, w1 = (w.alloc (Obj.cells #[Value.bool b, Value.slice ua un uc, Value.slice da dn dc] 24)).alloc (Obj.cells #[Value.bool false, Value.slice none 0 0, Value.slice none 0 0] 24) := ⟨_, rfl⟩
  have HB1 : Hid (Below w.heap.size w w1) := Lib.hid (by rw [hw1]; exact ((Below.refl _ _).alloc (Nat.le_refl _) _).alloc (by simp) _)
  have HX : Hid (w1.heap[w.heap.size]? = some (.cells #[Value.bool b, Value.slice ua un uc, Value.slice da dn dc] 24 (0, 0))) := Lib.hid (by rw [hw1]; exact heap_alloc2_old w _ _)
  have HR : Hid (w1.heap[w.heap.size + 1]? = some (.cells #[Value.bool false, Value.slice none 0 0, Value.slice none 0 0] 24 (0, 0))) := Lib.hid (by rw [hw1]; exact heap_alloc2_new w _ _)
  have HW1 := Lib.hid hw1.symm
  clear hw1
  have R0 : Hid (∀ o v, (#[Value.bool false, Value.slice none 0 0, Value.slice none 0 0] : Array Value)[o]? = some v → ∀ w', Below w1.heap.size w1 w' → w'.cell? ⟨w.heap.size + 1, o, none⟩ = some v ∧ w'.frozen? ⟨w.heap.size + 1, o, none⟩ = false) :=
    Lib.hid (fun o v h w' hb => by
      have h9 : w'.heap[w.heap.size + 1]? = some (.cells #[Value.bool false, Value.slice none 0 0, Value.slice none 0 0] 24 (0, 0)) := (hb.block _ (lt_of_block HR.out)).trans HR.out
      exact ⟨by rw [cell_of_row _ _ _ _ _ _ h9]; exact h, frozen_of_row _ _ _ _ _ h9⟩)
  have R1 : Hid (∀ o v, (#[Value.bool b, Value.slice ua un uc, Value.slice da dn dc] : Array Value)[o]? = some v → ∀ w', Below w1.heap.size w1 w' → w'.cell? ⟨w.heap.size, o, none⟩ = some v) :=
    Lib.hid (fun o v h w' hb => by rw [cell_of_row _ _ _ _ _ _ ((hb.block _ (lt_of_block HX.out)).trans HX.out)]; exact h)
  have hz1 := Below.refl w1.heap.size w1
  have c0 := R1.out 0 _ rfl _ hz1
  have c1 := R1.out 1 _ rfl _ hz1
  have c2 := R1.out 2 _ rfl _ hz1
  go_enter Try.func30, Try.ntmps30
  go_wp2_with fail
  rw [HW1.out]
  have HC1 := Lib.hid (fun w' (hb : Below w1.heap.size w1 w') => read_w (w := w') (HV.out.below (below_trans HB1.out hb)))
  rw [← HP.out] at HC1
  refine (HC1.out _ hz1).mono ?_
  rintro en2 w2 ⟨⟨p2, rfl, h2⟩, hb2⟩
  have hz2 := below_trans hz1 hb2
  have H2 := Lib.hid h2
  clear c0 c1 c2 h2
  go_wp2_with fail
  refine (rneg_w H2.out).mono ?_
  rintro en3 w3 ⟨⟨p3, rfl, h3⟩, hb3⟩
  have hz3 := below_trans hz2 hb3
  have H3 := Lib.hid h3
  clear h3
  go_wp2_with fail
  have HCT := Lib.hid (tell_w H3.out (by have h9 : lenQ (-P) = lenQ P := len_neg P; have := HL1.out; omega))
  rw [cut_id (show lenQ (-P) ≤ 4096 by have h9 : lenQ (-P) = lenQ P := len_neg P; have := HL1.out; omega), ← HQ.out] at HCT
  refine HCT.out.mono ?_
  rintro en4 w4 ⟨⟨x4, rfl, hf4, hn4⟩, hb4⟩
  obtain ⟨xa, xn, xc, xi, xj, xk, hx⟩ := frac_form hf4
  subst hx
  have hz4 := below_trans hz3 hb4
  have r0 := (R0.out 0 _ rfl _ hz4).1
  have r1 := (R0.out 1 _ rfl _ hz4).1
  have r2 := (R0.out 2 _ rfl _ hz4).1
  have f0 := (R0.out 0 _ rfl _ hz4).2
  have f1 := (R0.out 1 _ rfl _ hz4).2
  have f2 := (R0.out 2 _ rfl _ hz4).2
  have HTE := Lib.hid (tell_end HB1.out hz4 HR.out (by omega) hf4 (hn4.mono hz3.size))
  clear r0 r1 r2 f0 f1 f2
  have r0 := (R0.out 0 _ rfl _ hz4).1
  have r1 := (R0.out 1 _ rfl _ hz4).1
  have r2 := (R0.out 2 _ rfl _ hz4).1
  have f0 := (R0.out 0 _ rfl _ hz4).2
  have f1 := (R0.out 1 _ rfl _ hz4).2
  have f2 := (R0.out 2 _ rfl _ hz4).2
  have HRW : Hid (w4.heap[w.heap.size + 1]? = some (.cells #[Value.bool false, Value.slice none 0 0, Value.slice none 0 0] 24 (0, 0))) := Lib.hid ((hz4.block _ (lt_of_block HR.out)).trans HR.out)
  go_wp2_with fail
  exact bodyPost_ret (results_cell_row rfl _ _ (w.heap.size + 1) _ _ _ _ rfl (frac3_heap HRW.out) Try.underlying24 rfl ifrac) rfl HTE.out

set_option maxHeartbeats 2000000 in
theorem floor_q {w : World} {v : Value} {b : Bool} {l m : List Nat} (hv : RawF w v b l m) :
    Calls Try.prog 32 #[v] w (TellPost w (cutR ((fixR b l m).floor : Rat))) := by
  have HV := Lib.hid hv
  have HL1 : Hid (lenQ (fixR b l m) ≤ 4096) := Lib.hid (by obtain ⟨u, d, rfl, hu, hd⟩ := hv; exact fix_len hu.ws hd.ws)
  obtain ⟨u, d, rfl, hu, hd⟩ := hv
  obtain ⟨ua, un, uc, hue⟩ := hu.form
  subst hue
  obtain ⟨da, dn, dc, hde⟩ := hd.form
  subst hde
  clear hu hd
  obtain ⟨P, hP⟩ : ∃ P, P = fixR b l m := ⟨_, rfl⟩
  have HP := Lib.hid hP
  rw [← hP] at HL1
  rw [← hP]
  obtain ⟨Q, hQ⟩ : ∃ Q, Q = cutR ((P).floor : Rat) := ⟨_, rfl⟩
  have HQ := Lib.hid hQ
  rw [← hQ]
  clear hP hQ
  obtain ⟨w1, hw1⟩ : ∃ w1, w1 = (w.alloc (Obj.cells #[Value.bool b, Value.slice ua un uc, Value.slice da dn dc] 24)).alloc (Obj.cells #[Value.bool false, Value.slice none 0 0, Value.slice none 0 0] 24) := ⟨_, rfl⟩
  have HB1 : Hid (Below w.heap.size w w1) := Lib.hid (by rw [hw1]; exact ((Below.refl _ _).alloc (Nat.le_refl _) _).alloc (by simp) _)
  have HX : Hid (w1.heap[w.heap.size]? = some (.cells #[Value.bool b, Value.slice ua un uc, Value.slice da dn dc] 24 (0, 0))) := Lib.hid (by rw [hw1]; exact heap_alloc2_old w _ _)
  have HR : Hid (w1.heap[w.heap.size + 1]? = some (.cells #[Value.bool false, Value.slice none 0 0, Value.slice none 0 0] 24 (0, 0))) := Lib.hid (by rw [hw1]; exact heap_alloc2_new w _ _)
  have HW1 := Lib.hid hw1.symm
  clear hw1
  have R0 : Hid (∀ o v, (#[Value.bool false, Value.slice none 0 0, Value.slice none 0 0] : Array Value)[o]? = some v → ∀ w', Below w1.heap.size w1 w' → w'.cell? ⟨w.heap.size + 1, o, none⟩ = some v ∧ w'.frozen? ⟨w.heap.size + 1, o, none⟩ = false) :=
    Lib.hid (fun o v h w' hb => by
      have h9 : w'.heap[w.heap.size + 1]? = some (.cells #[Value.bool false, Value.slice none 0 0, Value.slice none 0 0] 24 (0, 0)) := (hb.block _ (lt_of_block HR.out)).trans HR.out
      exact ⟨by rw [cell_of_row _ _ _ _ _ _ h9]; exact h, frozen_of_row _ _ _ _ _ h9⟩)
  have R1 : Hid (∀ o v, (#[Value.bool b, Value.slice ua un uc, Value.slice da dn dc] : Array Value)[o]? = some v → ∀ w', Below w1.heap.size w1 w' → w'.cell? ⟨w.heap.size, o, none⟩ = some v) :=
    Lib.hid (fun o v h w' hb => by rw [cell_of_row _ _ _ _ _ _ ((hb.block _ (lt_of_block HX.out)).trans HX.out)]; exact h)
  have hz1 := Below.refl w1.heap.size w1
  have c0 := R1.out 0 _ rfl _ hz1
  have c1 := R1.out 1 _ rfl _ hz1
  have c2 := R1.out 2 _ rfl _ hz1
  go_enter Try.func32, Try.ntmps32
  go_wp2_with fail
  rw [HW1.out]
  have HC1 := Lib.hid (fun w' (hb : Below w1.heap.size w1 w') => read_w (w := w') (HV.out.below (below_trans HB1.out hb)))
  rw [← HP.out] at HC1
  refine (HC1.out _ hz1).mono ?_
  rintro en2 w2 ⟨⟨p2, rfl, h2⟩, hb2⟩
  have hz2 := below_trans hz1 hb2
  have H2 := Lib.hid h2
  clear c0 c1 c2 h2
  go_wp2_with fail
  refine (rfloor_q H2.out (by have := HL1.out; omega)).mono ?_
  rintro en3 w3 ⟨⟨p3, rfl, h3⟩, hb3⟩
  have hz3 := below_trans hz2 hb3
  have H3 := Lib.hid h3
  clear h3
  go_wp2_with fail
  have HCT := Lib.hid (tell_w H3.out (by have h9 := len_floor P; have := HL1.out; omega))
  rw [← HQ.out] at HCT
  refine HCT.out.mono ?_
  rintro en4 w4 ⟨⟨x4, rfl, hf4, hn4⟩, hb4⟩
  obtain ⟨xa, xn, xc, xi, xj, xk, hx⟩ := frac_form hf4
  subst hx
  have hz4 := below_trans hz3 hb4
  have r0 := (R0.out 0 _ rfl _ hz4).1
  have r1 := (R0.out 1 _ rfl _ hz4).1
  have r2 := (R0.out 2 _ rfl _ hz4).1
  have f0 := (R0.out 0 _ rfl _ hz4).2
  have f1 := (R0.out 1 _ rfl _ hz4).2
  have f2 := (R0.out 2 _ rfl _ hz4).2
  have HTE := Lib.hid (tell_end HB1.out hz4 HR.out (by omega) hf4 (hn4.mono hz3.size))
  clear r0 r1 r2 f0 f1 f2
  have r0 := (R0.out 0 _ rfl _ hz4).1
  have r1 := (R0.out 1 _ rfl _ hz4).1
  have r2 := (R0.out 2 _ rfl _ hz4).1
  have f0 := (R0.out 0 _ rfl _ hz4).2
  have f1 := (R0.out 1 _ rfl _ hz4).2
  have f2 := (R0.out 2 _ rfl _ hz4).2
  have HRW : Hid (w4.heap[w.heap.size + 1]? = some (.cells #[Value.bool false, Value.slice none 0 0, Value.slice none 0 0] 24 (0, 0))) := Lib.hid ((hz4.block _ (lt_of_block HR.out)).trans HR.out)
  go_wp2_with fail
  exact bodyPost_ret (results_cell_row rfl _ _ (w.heap.size + 1) _ _ _ _ rfl (frac3_heap HRW.out) Try.underlying24 rfl ifrac) rfl HTE.out
end Go.Proofs.Ytebgkfcglmjokaa
