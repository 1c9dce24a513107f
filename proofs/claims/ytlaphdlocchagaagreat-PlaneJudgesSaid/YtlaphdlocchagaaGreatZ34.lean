/- Several texts in one: K5. -/
import Derived.Test.YtlaphdlocchagaaGreatZ33
import Derived.Deep.RegionHeld3
import Derived.Deep.DrawnRows
/- worth of the reference; lists of zeros; small certificates. -/
namespace Go.Proofs.YtlaphdlocchagaaGreat
open Go.RowKit
attribute [local go_sem ↓] Go.wp_at_zero Go.wp_at_succ

set_option maxRecDepth 100000 in
set_option maxHeartbeats 8000000 in
theorem rworth_w {N : Nat} {w : World} {v x : Value} {P : Pm} {ys : List Rat} (h : ProgF N w v P) (hy : ListF N w x ys) (hrb : rightB2 P = true) (hyl : ys.length = P.rows.length) (hN : N ≤ 50) (hr100 : P.rows.length ≤ 100) (hv100 : P.vars ≤ 100) (hNn : N * P.rows.length ≤ 1000) :
    Calls Tryz.prog 36 #[v, x] w (RTell w (sideQ P ys)) := by
  have HP := Lib.hid h
  have HY := Lib.hid hy

  have HRB := Lib.hid hrb
  obtain ⟨fa, fc, ga, gc, ra, rc, rfl, hz1, hz2, hB, -, hR⟩ := h
  have HBO := Lib.hid hB
  have HR := Lib.hid hR
  obtain ⟨ya, yc, rfl, -⟩ := hy
  obtain ⟨n, hn⟩ : ∃ n, n = P.free.length := ⟨_, rfl⟩
  obtain ⟨rn, hrn⟩ : ∃ n, n = P.rows.length := ⟨_, rfl⟩
  obtain ⟨yn, hyn⟩ : ∃ n, n = ys.length := ⟨_, rfl⟩
  obtain ⟨gn, hgn⟩ : ∃ n, n = P.goal.length := ⟨_, rfl⟩
  have hv : P.vars = (n : Int) := (by have := (right_goal hrb).2.1; omega)
  have hfl : P.free.length = n := by have := (right_goal hrb).2.1; omega
  have hn100 : n ≤ 100 := by omega
  rw [hv, hfl, ← hgn, ← hrn] at HP ⊢
  rw [← hyn] at HY ⊢
  rw [← hrn] at hr100
  have HNN : Hid (N * rn ≤ 1000) := Lib.hid (by rw [hrn]; exact hNn)
  have HEQ := Lib.hid (And.intro hrn (And.intro hyn (And.intro hn (And.intro hv hfl))))
  have HYR : Hid (yn = rn) := Lib.hid (by omega)
  obtain ⟨w1, hw1⟩ : ∃ w1, w1 = (w.alloc (Obj.cells #[Value.int .i64 (n : Int), Value.slice fa n fc, Value.slice ga gn gc, Value.slice ra rn rc] 26)).alloc (Obj.cells #[Value.bool false, Value.slice none 0 0, Value.slice none 0 0] 47) := ⟨_, rfl⟩
  have HB1 : Hid (Below w.heap.size w w1) := Lib.hid (by rw [hw1]; exact ((Below.refl _ _).alloc (Nat.le_refl _) _).alloc (by simp) _)
  have HX1 : Hid (w1.heap[w.heap.size]? = some (.cells #[Value.int .i64 (n : Int), Value.slice fa n fc, Value.slice ga gn gc, Value.slice ra rn rc] 26 (0, 0))) := Lib.hid (by rw [hw1]; exact heap_alloc2_old w _ _)
  have HW1 := Lib.hid hw1.symm
  have HRES : Hid (w1.heap[w.heap.size + 1]? = some (.cells #[Value.bool false, Value.slice none 0 0, Value.slice none 0 0] 47 (0, 0))) := Lib.hid (by rw [hw1]; exact heap_alloc2_new w _ _)
  clear hw1 hB hR hNn hrb hyl hv hfl hn hrn hyn hgn hz1 hz2 hv100
  have RX := Lib.hid (cells_later HX1.out)
  have hb1 := Below.refl w1.heap.size w1
  have x0 := RX.out 0 _ rfl _ hb1
  have x1 := RX.out 1 _ rfl _ hb1
  have x2 := RX.out 2 _ rfl _ hb1
  have x3 := RX.out 3 _ rfl _ hb1
  obtain ⟨U0, hU0⟩ : ∃ U0, U0 = (0 : Rat) := ⟨_, rfl⟩
  have HU0 := Lib.hid hU0
  clear hU0
  obtain ⟨g, hg9⟩ : ∃ g : Nat → Rat, g = fun i => nthQ ys i * bQ P i := ⟨_, rfl⟩
  have HGG : Hid (∀ i, g i = nthQ ys i * bQ P i) := Lib.hid (fun i => by rw [hg9])
  have HGT : Hid (∀ i q qa, nthQ ys i = q → bQ P i = qa → g i = q * qa) := Lib.hid (fun i q qa h1 h2 => by rw [HGG.out, h1, h2])
  have HSZ : Hid (∀ i, i ≤ rn → lenQ (sumR g 0 i) ≤ 4002) := Lib.hid (fun i hi => len_sum9 (N := N) (fun x hx => by
    rw [HGG.out]
    exact sz_mul (sz_nth HY.out (by have := HYR.out; have := HEQ.out; omega)) (sz_bQ HP.out (by have := HEQ.out; omega))) (by omega) (Nat.le_trans (Nat.mul_le_mul_left N hi) HNN.out))
  have HZPRE := Lib.hid hb1
  clear hg9
  go_enter Tryz.func36, Tryz.ntmps36
  go_wp2_with fail
  rw [HW1.out]
  refine (whole0_w).mono ?_
  rintro en2 w2 ⟨⟨v2, rfl, f2⟩, hb2⟩
  have f2' : FracV w2 v2 U0 := by rw [HU0.out]; exact f2
  obtain ⟨a2', n2', c2', i2, j2, k2', hq2⟩ := frac_form f2'
  subst hq2
  have HF2 := Lib.hid f2'
  have HZ2 := Lib.hid (below_trans HZPRE.out hb2)
  clear f2 f2' hb2
  go_wp2_with ((with_reducible refine at_store ?_); refine wpList_store_var rfl _ _ _ rfl w2.heap.size rfl _ rfl _ _ (heap_alloc_new _ _) ifrac rfl frac_one ?_; intro w3 h3 hon3; refine halt ?_)
  have hb3 : Below w2.heap.size w2 w3 := below_only ((Below.refl _ _).alloc (Nat.le_refl _) _) hon3 (Nat.le_refl _)
  obtain ⟨Ba, hBa⟩ : ∃ B, B = w2.heap.size := ⟨_, rfl⟩
  have hBw1 : w1.heap.size ≤ Ba := by have h9 := HZ2.out.size; omega
  have HROW3 : Hid (w3.heap[Ba]? = some (.cells #[Value.bool (decide (U0.num < 0)), Value.slice a2' n2' c2', Value.slice i2 j2 k2'] 47 (0, 0))) := Lib.hid (by rw [hBa]; exact h3)
  have HF3 : Hid (FracV w3 (.agg #[Value.bool (decide (U0.num < 0)), Value.slice a2' n2' c2', Value.slice i2 j2 k2']) (sumR g 0 0)) := Lib.hid (by
    have h7 := HF2.out.below hb3
    rw [HU0.out] at h7 ⊢
    exact h7)
  have HZ3 := Lib.hid (below_trans HZ2.out hb3)
  rw [← hBa]
  clear h3 hon3 hb3 hBa
  refine go_on ?_
  have x0 := RX.out 0 _ rfl _ HZ3.out
  have x3 := RX.out 3 _ rfl _ HZ3.out
  go_wp2_with fail
  go_loopw [12] (fun iv wr => ∃ (i : Nat) (ra' : Bool) (ab : Option Addr) (an ac : Nat) (ai : Option Addr) (aj ak : Nat), i ≤ rn ∧ iv = .int .i64 i ∧ Hid (wr.heap[Ba]? = some (.cells #[Value.bool ra', Value.slice ab an ac, Value.slice ai aj ak] 47 (0, 0))) ∧ Hid (FracV wr (.agg #[Value.bool ra', Value.slice ab an ac, Value.slice ai aj ak]) (sumR g 0 i)) ∧ Hid (Below w1.heap.size w1 wr)) (fun iv _ => rn - (intOf iv).toNat)
  case atStart => exact ⟨0, _, _, _, _, _, _, _, Nat.zero_le _, rfl, HROW3, HF3, HZ3⟩
  case round =>
    obtain ⟨i, ra', ab, an, ac, ai, aj, ak, hi, rfl, hrow, hfa, hZ⟩ := hrel
    obtain ⟨wo, rfl⟩ : ∃ wo : World, wo = wr := ⟨_, rfl⟩
    by_cases hin : i < rn
    · have t5 : decide ((i : Int) < (rn : Int)) = true := by simp; omega
      obtain ⟨r, B, off, a1, c1, b, a2, n2, c2, a3, n3, c3, hr, ha, hlr, hfr, hs3, hs4, hcr⟩ := HR.out.at (i := i) (by have := HEQ.out; omega)
      subst ha
      obtain ⟨f0, f1, f2, f3, f4⟩ := hcr wo (below_trans HB1.out hZ.out)
      have HRI := Lib.hid hr
      obtain ⟨q, B', off', b', a4, n4, c4, a5, n5, c5, hq, ha', hc, hf⟩ := HY.out.at (i := i) (by have := HYR.out; omega)
      subst ha'
      have HQ := Lib.hid (nthQ_of hq)
      have HFY := Lib.hid hf
      have hin2 : i < yn := by have := HYR.out; omega
      have HC := Lib.hid (fun w' (hb : Below wo.heap.size wo w') => hc w' (below_trans (below_trans HB1.out hZ.out) hb))
      have hrl0 := row_len HRB.out hr
      obtain ⟨rl, hrl⟩ : ∃ n, n = r.1.length := ⟨_, rfl⟩
      have hrln : rl = n := by have := HEQ.out; omega
      rw [← hrl] at f0 hlr
      subst hrln
      have qa9 : ∃ qa, qa = r.2.2 := ⟨_, rfl⟩
      obtain ⟨qa, hqa⟩ := qa9
      have HEL : Hid (bQ P i = qa) := Lib.hid (by rw [bQ_of hr, hqa])
      rw [← hqa] at hfr
      have HFE := Lib.hid hfr
      clear hqa
      have HW := Lib.hid (below_trans HB1.out hZ.out)
      clear hcr hr hrl hlr hfr hf hq hc hs3 hs4 hrl0
      go_wp2_with ((with_reducible refine at_store ?_); refine wpList_store_var rfl _ _ _ rfl wo.heap.size rfl _ rfl _ _ (heap_alloc_new _ _) irow rfl row_one ?_; intro w4 h4 hon4; refine halt ?_)
      have hb4 : Below wo.heap.size wo w4 := below_only ((Below.refl _ _).alloc (Nat.le_refl _) _) hon4 (Nat.le_refl _)
      have HO4 := Lib.hid hb4
      have HW4 := Lib.hid (below_trans HW.out hb4)
      have RY := Lib.hid (cells_later h4)
      have hb5 := Below.refl w4.heap.size w4
      have y0 := RY.out 0 _ rfl _ hb5
      have y1 := RY.out 1 _ rfl _ hb5
      have y2 := RY.out 2 _ rfl _ hb5
      have y3 := RY.out 3 _ rfl _ hb5
      have y4 := RY.out 4 _ rfl _ hb5
      obtain ⟨k0, k1, k2⟩ := HC.out _ hb4
      have HROW4 : Hid (w4.heap[Ba]? = some (.cells #[Value.bool ra', Value.slice ab an ac, Value.slice ai aj ak] 47 (0, 0))) := Lib.hid ((hb4.block _ (lt_of_block hrow.out)).trans hrow.out)
      have RA := Lib.hid (cells_later HROW4.out)
      have FA := Lib.hid (frozen_at HROW4.out)
      have s0 := RA.out 0 _ rfl _ hb5
      have s1 := RA.out 1 _ rfl _ hb5
      have s2 := RA.out 2 _ rfl _ hb5
      have HFA4 := Lib.hid (hfa.out.below hb4)
      have HZ4 := Lib.hid (below_trans hZ.out hb4)
      have HNX : Hid (sumR g 0 i + g i = sumR g 0 (i + 1)) := Lib.hid (sumR_next g i)
      obtain ⟨Q, hQ⟩ : ∃ Q, Q = sumR g 0 (i + 1) := ⟨_, rfl⟩
      have HQ9 := Lib.hid hQ
      have HLQ : Hid (lenQ Q ≤ 4096) := Lib.hid (by rw [hQ]; have := HSZ.out (i + 1) (by omega); omega)
      have HLP : Hid (lenQ (sumR g 0 i) ≤ 4096) := Lib.hid (by have := HSZ.out i (by omega); omega)
      obtain ⟨M, hM⟩ : ∃ M, q * qa = M := ⟨_, rfl⟩
      have HLM : Hid (lenQ M ≤ 4096) := Lib.hid (by rw [← hM]; have h9 := len_mul q qa; have := HFY.out.len; have := HFE.out.len; omega)
      have HGQ : Hid (g i = M) := Lib.hid (by rw [← hM]; exact HGT.out i q qa HQ.out HEL.out)
      have K1 := Lib.hid (fun w' (hb : Below w4.heap.size w4 w') => rmul_f (w := w') (HFY.out.below (below_trans HW4.out hb)) (HFE.out.below (below_trans HW4.out hb)) (by omega) hM)
      have K2 := Lib.hid (fun w' y (hb : Below w4.heap.size w4 w') (hy : FracV w' y M) => radd_v (w := w') (Q := Q) (HFA4.out.below hb) hy HLP.out HLM.out HLQ.out (by rw [← HGQ.out, HNX.out, HQ9.out]))

      clear h4 hon4 hb4 f0 f1 f2 f3 f4 hQ hM
      have hz0 : Below w4.heap.size w4 w4.drew := below_drewN hb5 1
      refine go_on ?_
      go_wp2_with fail
      go_region_with (first | (go_at_call 78; refine (K1.out _ hz0).mono ?_; rintro en6 w6 ⟨⟨r6, rfl, f6⟩, hb6⟩; obtain ⟨a6, n6, c6, i6, j6, k6, hq6⟩ := frac_form f6; subst hq6; have hz6 := below_trans hz0 hb6; have s0 := RA.out 0 _ rfl _ hz6; have s1 := RA.out 1 _ rfl _ hz6; have s2 := RA.out 2 _ rfl _ hz6) | (go_at_call 77; refine (K2.out _ _ hz6 f6).mono ?_; rintro en7 w7 ⟨⟨r7, rfl, f7⟩, hb7⟩; obtain ⟨a7, n7, c7, i7, j7, k7, hq7⟩ := frac_form f7; subst hq7; have hz7 := below_trans hz6 hb7; have s0 := RA.out 0 _ rfl _ hz7; have s1 := RA.out 1 _ rfl _ hz7; have s2 := RA.out 2 _ rfl _ hz7; have g0 := FA.out 0 _ hz7; have g1 := FA.out 1 _ hz7; have g2 := FA.out 2 _ hz7))
      all_goals
        have HROW7 : Hid (w7.heap[Ba]? = some (.cells #[Value.bool ra', Value.slice ab an ac, Value.slice ai aj ak] 47 (0, 0))) := Lib.hid ((hz7.block _ (lt_of_block HROW4.out)).trans HROW4.out)
        have HON : Hid (Only Ba w7 (frac3 w7 Ba (decide (Q.num < 0)) (Value.slice a7 n7 c7) (Value.slice i7 j7 k7))) := Lib.hid (frac3_only _ _ _ _ _)
        have HROW8 : Hid ((frac3 w7 Ba (decide (Q.num < 0)) (Value.slice a7 n7 c7) (Value.slice i7 j7 k7)).heap[Ba]? = some (.cells #[Value.bool (decide (Q.num < 0)), Value.slice a7 n7 c7, Value.slice i7 j7 k7] 47 (0, 0))) := Lib.hid (frac_row HROW7.out)
        have HF8 : Hid (FracV (frac3 w7 Ba (decide (Q.num < 0)) (Value.slice a7 n7 c7) (Value.slice i7 j7 k7)) (.agg #[Value.bool (decide (Q.num < 0)), Value.slice a7 n7 c7, Value.slice i7 j7 k7]) (sumR g 0 (i + 1))) := Lib.hid (by rw [← HQ9.out]; exact f7.other HROW7.out HON.out)
        have HZ8 := Lib.hid (below_only (below_trans HZ4.out hz7) HON.out hBw1)
        go_wp2_with fail
        go_roundw
      all_goals first
        | exact ⟨i + 1, _, _, _, _, _, _, _, by omega, by go_num, HROW8, HF8, HZ8⟩
        | (simp [intOf]; omega)
    · have t5 : decide ((i : Int) < (rn : Int)) = false := by simp; omega
      obtain rfl : i = rn := by omega
      have HS : Hid (sumR g 0 i = sideQ P ys) := Lib.hid (by
        unfold sideQ
        rw [← HEQ.out.2.1, HYR.out]
        exact sumR_congr fun x hx => by rw [HGG.out, Rat.mul_comm])
      have s0 := cells_later hrow.out 0 _ rfl _ (Below.refl _ _)
      have s1 := cells_later hrow.out 1 _ rfl _ (Below.refl _ _)
      have s2 := cells_later hrow.out 2 _ rfl _ (Below.refl _ _)
      have HR9 : Hid (wo.heap[w.heap.size + 1]? = some (.cells #[Value.bool false, Value.slice none 0 0, Value.slice none 0 0] 47 (0, 0))) := Lib.hid ((hZ.out.block _ (lt_of_block HRES.out)).trans HRES.out)
      have HF9 := Lib.hid (hfa.out.other HR9.out (frac3_only _ _ ra' (Value.slice ab an ac) (Value.slice ai aj ak)))
      have HB9 := Lib.hid (below_trans HB1.out hZ.out)
      have r0 := cells_later HR9.out 0 _ rfl _ (Below.refl _ _)
      have r1 := cells_later HR9.out 1 _ rfl _ (Below.refl _ _)
      have r2 := cells_later HR9.out 2 _ rfl _ (Below.refl _ _)
      have z0 := frozen_of_row _ _ 0 _ _ HR9.out
      have z1 := frozen_of_row _ _ 1 _ _ HR9.out
      have z2 := frozen_of_row _ _ 2 _ _ HR9.out
      go_wp2_with fail
      exact bodyPost_ret (results_cell_row rfl _ _ (w.heap.size + 1) _ _ _ _ rfl (frac3_heap HR9.out) Tryz.underlying47 rfl ifrac) rfl ⟨⟨_, rfl, by rw [← HS.out]; exact HF9.out⟩, below_only HB9.out (frac3_only _ _ _ _ _) (by omega)⟩

set_option maxRecDepth 8000 in
theorem zeros1_w {w : World} {i : Int} : Calls Tryz.prog 73 #[.int .i64 i] w fun e w' => e = .returned (.agg #[.bool false, .slice none 0 0, .slice none 0 0]) ∧ Below w.heap.size w w' := by
  go_enter Tryz.func73, Tryz.ntmps73
  go_wp2_with fail
  exact bodyPost_ret (results_cell_row rfl _ _ w.heap.size _ _ _ _ rfl (heap_alloc_new w _) Tryz.underlying47 rfl ifrac) rfl ⟨rfl, (Below.refl _ _).alloc (Nat.le_refl _) _⟩
theorem nofix9 : fixR false [] [] = 0 := by unfold fixR; rw [rightB_nil rfl]; rfl
theorem len_zero9 : (digs (0 : Rat).num.natAbs).length ≤ 1 ∧ (digs (0 : Rat).den).length ≤ 1 ∧ lenQ (0 : Rat) ≤ 4096 := by
  have h := len_zero
  have h1 : lenQ (0 : Rat) = (digs (0 : Rat).num.natAbs).length + (digs (0 : Rat).den).length := rfl
  omega
theorem nth_rep {n i : Nat} : nthQ (List.replicate n (0 : Rat)) i = 0 := by
  unfold nthQ
  rw [List.getElem?_replicate]
  split <;> rfl

set_option maxRecDepth 8000 in
set_option maxHeartbeats 4000000 in
theorem readz_w {w : World} {n : Nat} (hn : n ≤ 1000) :
    Calls Tryz.prog 42 #[.int .i64 (n : Nat), .func (.func 73) #[] #[]] w fun e w' => (∃ r, e = .returned r ∧ ListF 1 w' r (List.replicate n 0)) ∧ Below w.heap.size w w' := by
  have KZ := Lib.hid (fun w' i => zeros1_w (w := w') (i := i))
  have KF : Hid (∀ w', Calls Tryz.prog 84 #[.agg #[Value.bool false, Value.slice none 0 0, Value.slice none 0 0]] w' (TellPost w' 0)) := Lib.hid (fun w' => by
    rw [← nofix9]; exact fix_w ⟨_, _, rfl, IsW.nil w', IsW.nil w'⟩)
  obtain ⟨U0, hU0⟩ : ∃ U0, U0 = (0 : Rat) := ⟨_, rfl⟩
  have HU0 := Lib.hid hU0
  rw [← hU0] at KF
  clear hU0
  go_enter Tryz.func42, Tryz.ntmps42
  go_wp2_with (at_make; refine wpList_make_three rfl _ _ _ 47 rfl Tryz.underlying23 _ _ _ _ info_frac9 n rfl rfl (by omega) (by omega) ?_; intro w1 hr1 hb1 hs1; refine halt ?_)
  refine go_on ?_
  have HB1 := Lib.hid hb1
  have HR0 : Hid (FracsTo w1 w.heap.size n 0 (fun _ => U0)) := Lib.hid ⟨_, hr1, fun i _ => ⟨none, 0, 0, false, none, 0, 0, rfl, fun h => absurd h (Nat.not_lt_zero _)⟩⟩
  clear hr1 hb1 hs1
  go_wp2_with fail
  go_loopw [10] (fun iv wr => ∃ i : Nat, i ≤ n ∧ iv = .int .i64 i ∧ Hid (FracsTo wr w.heap.size n i (fun _ => U0)) ∧ Hid (Below w.heap.size w wr)) (fun iv _ => n - (intOf iv).toNat)
  case atStart => exact ⟨0, Nat.zero_le _, rfl, HR0, HB1⟩
  case round =>
    obtain ⟨i, hi, rfl, hR, hB⟩ := hrel
    obtain ⟨wo, rfl⟩ : ∃ wo : World, wo = wr := ⟨_, rfl⟩
    by_cases hin : i < n
    · have t0 : decide ((i : Int) < (n : Int)) = true := by simp; omega
      go_wp2_with fail
      refine (KZ.out _ _).mono ?_
      rintro en2 w2 ⟨rfl, hb2⟩
      go_wp2_with fail
      refine (KF.out _).mono ?_
      rintro en3 w3 ⟨⟨v3, rfl, f3, -⟩, hb3⟩
      obtain ⟨a3, n3, c3, i3, j3, k3, hq3⟩ := frac_form f3
      subst hq3
      have hz3 := below_trans hb2 hb3
      have HF3 := Lib.hid f3
      have HB3 := Lib.hid (below_trans hB.out hz3)
      obtain ⟨f, hr4, he4⟩ := hR.out.below hz3
      have HR4 := Lib.hid hr4
      have HE4 := Lib.hid he4
      obtain ⟨bq, hbq⟩ : ∃ bq, bq = decide (U0.num < 0) := ⟨_, rfl⟩
      rw [← hbq] at HF3
      rw [← hbq]
      clear f3 hb2 hb3 hz3 hr4 he4 hbq
      go_wp2_with ((with_reducible refine at_store ?_); refine wpList_store_three rfl _ _ _ rfl w.heap.size n i rfl _ _ _ rfl _ f HR4.out hin rfl frac_one ?_; intro w5 hr5 hon5; refine halt ?_)
      refine go_on ?_
      have HR5 := Lib.hid (FracsTo.store HR4.out HE4.out HF3.out hr5 hon5)
      have HB5 := Lib.hid (below_only HB3.out hon5 (Nat.le_refl _))
      clear hr5 hon5
      go_wp2_with fail
      go_roundw
      case rel => exact ⟨i + 1, by omega, by go_num, HR5, HB5⟩
      case measure => simp [intOf]; omega
    · have t0 : decide ((i : Int) < (n : Int)) = false := by simp; omega
      obtain rfl : i = n := by omega
      have HE : Hid (ListF 1 wo (.slice (some ⟨w.heap.size, 0, none⟩) i i) (List.replicate i 0)) := Lib.hid (by
        have h9 := hR.out
        have e9 : (fun _ => U0 : Nat → Rat) = nthQ (List.replicate i 0) := by funext x; rw [nth_rep, HU0.out]
        rw [e9] at h9
        exact h9.list (by simp) (fun x _ => by rw [nth_rep]; exact len_zero9))
      go_wp2_with fail
      go_ret
      exact ⟨⟨_, rfl, HE.out⟩, hB.out⟩
set_option maxRecDepth 8000 in
theorem zeros_w {w : World} {n : Nat} (hn : n ≤ 1000) :
    Calls Tryz.prog 28 #[.int .i64 (n : Nat)] w fun e w' => (∃ r, e = .returned r ∧ ListF 1 w' r (List.replicate n 0)) ∧ Below w.heap.size w w' := by
  have K := Lib.hid (readz_w (w := w) hn)
  go_enter Tryz.func28, Tryz.ntmps28
  go_wp2_with fail
  refine K.out.mono ?_
  rintro en2 w2 ⟨⟨r2, rfl, h2⟩, hb2⟩
  go_wp2_with fail
  go_ret
  exact ⟨⟨_, rfl, h2⟩, hb2⟩

/-- A certificate as it came in. -/
def CertI (w : World) (v : Value) (k : Int) (xa : Option Addr) (xn xc : Nat) (ya : Option Addr) (yn yc : Nat) (za : Option Addr) (zn zc : Nat) : Prop :=
  v = .agg #[.int .i64 k, .slice xa xn xc, .slice ya yn yc, .slice za zn zc] ∧ -9223372036854775808 ≤ k ∧ k ≤ 9223372036854775807 ∧ ListI w (.slice xa xn xc) xa xn xc ∧ ListI w (.slice ya yn yc) ya yn yc ∧ ListI w (.slice za zn zc) za zn zc
theorem CertI.below {w w' : World} {v : Value} {k : Int} {xa : Option Addr} {xn xc : Nat} {ya : Option Addr} {yn yc : Nat} {za : Option Addr} {zn zc : Nat} (h : CertI w v k xa xn xc ya yn yc za zn zc) (hb : Below w.heap.size w w') : CertI w' v k xa xn xc ya yn yc za zn zc :=
  ⟨h.1, h.2.1, h.2.2.1, h.2.2.2.1.below hb, h.2.2.2.2.1.below hb, h.2.2.2.2.2.below hb⟩
set_option maxRecDepth 8000 in
theorem cells_cert : Tryz.prog.cellsOf 28 = 4 := by kernel_rfl
set_option maxRecDepth 8000 in
theorem cert_in {H : Type} {enc : TypeId × Value → H} {W : World} {v : Value} {d : DataW H} {p : List MemPlace}
    (hv : Value.okWide Tryz.prog W .any 0 28 v) (h : DataW.Trod enc Tryz.prog W 0 (fun _ => true) true 28 v d p) :
    ∃ k xa xn xc ya yn yc za zn zc, CertI W v k xa xn xc ya yn yc za zn zc := by
  obtain ⟨v0, v1, v2, v3, y0, y1, y2, y3, m, rfl, rfl, rfl, h0, h1, h2, h3⟩ := Go.Joins.open_agg4 Tryz.underlying28 (by kernel_rfl) cells_cert hv h
  obtain ⟨z, rfl, hz1, hz2⟩ := int_trod h0
  obtain ⟨xa, xn, xc, hX⟩ := list_trod h1
  obtain rfl := hX.1
  obtain ⟨ya, yn, yc, hY⟩ := list_trod h2
  obtain rfl := hY.1
  obtain ⟨za, zn, zc, hZ⟩ := list_trod h3
  obtain rfl := hZ.1
  exact ⟨z, xa, xn, xc, ya, yn, yc, za, zn, zc, rfl, hz1, hz2, hX, hY, hZ⟩
def SmallC (w : World) (M : Nat) (xa : Option Addr) (xn : Nat) (ya : Option Addr) (yn : Nat) (za : Option Addr) (zn : Nat) : Prop :=
  (xn ≤ M ∧ yn ≤ M ∧ zn ≤ M) ∧ fewB 12 xn (cellLen w xa 1) (cellLen w xa 2) = true ∧ fewB 12 yn (cellLen w ya 1) (cellLen w ya 2) = true ∧ fewB 12 zn (cellLen w za 1) (cellLen w za 2) = true

set_option maxRecDepth 100000 in
set_option maxHeartbeats 4000000 in
theorem certs_w {w : World} {v : Value} {k : Int} {xa : Option Addr} {xn xc : Nat} {ya : Option Addr} {yn yc : Nat} {za : Option Addr} {zn zc M : Nat} (h : CertI w v k xa xn xc ya yn yc za zn zc) (hM : M ≤ 1000) :
    Calls Tryz.prog 7 #[v, .int .i64 M] w fun e w' => (∃ bb, e = .returned (.bool bb) ∧ (bb = true → SmallC w M xa xn ya yn za zn)) ∧ Below w.heap.size w w' := by
  have HP := Lib.hid h
  obtain ⟨rfl, -, -, -⟩ := h
  obtain ⟨w1, hw1⟩ : ∃ w1, w1 = w.alloc (Obj.cells #[Value.int .i64 k, Value.slice xa xn xc, Value.slice ya yn yc, Value.slice za zn zc] 28) := ⟨_, rfl⟩
  have HB1 : Hid (Below w.heap.size w w1) := Lib.hid (by rw [hw1]; exact (Below.refl _ _).alloc (Nat.le_refl _) _)
  have HX : Hid (w1.heap[w.heap.size]? = some (.cells #[Value.int .i64 k, Value.slice xa xn xc, Value.slice ya yn yc, Value.slice za zn zc] 28 (0, 0))) := Lib.hid (by rw [hw1]; exact heap_alloc_new w _)
  have HW1 := Lib.hid hw1.symm
  clear hw1
  have RX := Lib.hid (cells_later HX.out)
  have hb1 := Below.refl w1.heap.size w1
  have x1 := RX.out 1 _ rfl _ hb1
  have x2 := RX.out 2 _ rfl _ hb1
  have x3 := RX.out 3 _ rfl _ hb1
  by_cases h1 : xn ≤ M
  case neg =>
    have t1 : decide (xn ≤ M) = false := by simpa using h1
    clear h1
    go_enter Tryz.func7, Tryz.ntmps7
    go_wp2_with fail
    rw [HW1.out]
    go_ret
    exact ⟨⟨_, rfl, fun h => by cases h⟩, HB1.out⟩
  have t1 : decide (xn ≤ M) = true := by simpa using h1
  by_cases h2 : yn ≤ M
  case neg =>
    have t2 : decide (yn ≤ M) = false := by simpa using h2
    clear h1 h2
    go_enter Tryz.func7, Tryz.ntmps7
    go_wp2_with fail
    rw [HW1.out]
    go_ret
    exact ⟨⟨_, rfl, fun h => by cases h⟩, HB1.out⟩
  have t2 : decide (yn ≤ M) = true := by simpa using h2
  by_cases h3 : zn ≤ M
  case neg =>
    have t3 : decide (zn ≤ M) = false := by simpa using h3
    clear h1 h2 h3
    go_enter Tryz.func7, Tryz.ntmps7
    go_wp2_with fail
    rw [HW1.out]
    go_ret
    exact ⟨⟨_, rfl, fun h => by cases h⟩, HB1.out⟩
  have t3 : decide (zn ≤ M) = true := by simpa using h3
  have HLE : Hid (xn ≤ M ∧ yn ≤ M ∧ zn ≤ M) := Lib.hid ⟨by omega, by omega, by omega⟩
  have K1 := Lib.hid (fun w' (hb : Below w.heap.size w w') (hn : xn ≤ 1000) => words_w (w := w') (N := 12) (HP.out.2.2.2.1.below hb) hn)
  have K2 := Lib.hid (fun w' (hb : Below w.heap.size w w') (hn : yn ≤ 1000) => words_w (w := w') (N := 12) (HP.out.2.2.2.2.1.below hb) hn)
  have K3 := Lib.hid (fun w' (hb : Below w.heap.size w w') (hn : zn ≤ 1000) => words_w (w := w') (N := 12) (HP.out.2.2.2.2.2.below hb) hn)
  clear h1 h2 h3
  go_enter Tryz.func7, Tryz.ntmps7
  go_wp2_with fail
  rw [HW1.out]
  refine (K1.out _ HB1.out (by have := HLE.out; omega)).mono ?_
  rintro en2 w2 ⟨⟨bb2, rfl, hg2⟩, hb2⟩
  have HZ2 := Lib.hid hb2
  cases bb2 with
  | false =>
    clear hg2
    go_wp2_with fail
    go_ret
    exact ⟨⟨_, rfl, fun h => by cases h⟩, below_trans HB1.out HZ2.out⟩
  | true =>
  have HG2 := Lib.hid (HP.out.2.2.2.1.few_back HB1.out (hg2 rfl))
  have x1 := RX.out 1 _ rfl _ hb2
  have x2 := RX.out 2 _ rfl _ hb2
  have x3 := RX.out 3 _ rfl _ hb2
  clear hg2 hb2
  go_wp2_with fail
  refine (K2.out _ (below_trans HB1.out HZ2.out) (by have := HLE.out; omega)).mono ?_
  rintro en3 w3 ⟨⟨bb3, rfl, hg3⟩, hb3⟩
  have HZ3 := Lib.hid (below_trans HZ2.out hb3)
  cases bb3 with
  | false =>
    clear hg3
    go_wp2_with fail
    go_ret
    exact ⟨⟨_, rfl, fun h => by cases h⟩, below_trans HB1.out HZ3.out⟩
  | true =>
  have HG3 := Lib.hid (HP.out.2.2.2.2.1.few_back (below_trans HB1.out HZ2.out) (hg3 rfl))
  have x1 := RX.out 1 _ rfl _ HZ3.out
  have x2 := RX.out 2 _ rfl _ HZ3.out
  have x3 := RX.out 3 _ rfl _ HZ3.out
  clear hg3 hb3
  go_wp2_with fail
  refine (K3.out _ (below_trans HB1.out HZ3.out) (by have := HLE.out; omega)).mono ?_
  rintro en4 w4 ⟨⟨bb4, rfl, hg4⟩, hb4⟩
  have HZ4 := Lib.hid (below_trans HZ3.out hb4)
  cases bb4 with
  | false =>
    clear hg4
    go_wp2_with fail
    go_ret
    exact ⟨⟨_, rfl, fun h => by cases h⟩, below_trans HB1.out HZ4.out⟩
  | true =>
  have HG4 := Lib.hid (HP.out.2.2.2.2.2.few_back (below_trans HB1.out HZ3.out) (hg4 rfl))
  clear hg4 hb4
  go_wp2_with fail
  go_ret
  exact ⟨⟨_, rfl, fun _ => ⟨HLE.out, HG2.out, HG3.out, HG4.out⟩⟩, below_trans HB1.out HZ4.out⟩
end Go.Proofs.YtlaphdlocchagaaGreat
