/- FracOps answers true at every input, and what it is handed reads behind the call as it read before: sum, difference, product, quotient, what is below zero turned, order, sign and floor of any two fractions of at most 12 words a number are those of the reference. No conditions. -/
/- FracOps: the walk. -/
import Derived.Test.YtebgkfcglmjokaaU
import Derived.Deep.DrawnRows
namespace Go.Proofs.Ytebgkfcglmjokaa
open Go.RowKit
attribute [local go_sem ↓] Go.wp_at_zero Go.wp_at_succ

set_option maxRecDepth 100000 in
set_option maxHeartbeats 8000000 in
theorem ops_walk {w : World} {x y : Value} {b1 b2 : Bool} {p1 p2 q1 q2 : Option Addr} {n1 c1 n2 c2 m1 d1 m2 d2 : Nat}
    (hx : FracI w x b1 p1 n1 c1 p2 n2 c2) (hy : FracI w y b2 q1 m1 d1 q2 m2 d2) :
    Calls Try.prog 5 #[x, y] w fun e w' => e = .returned (.bool true) ∧ Below w.heap.size w w' := by
  have HX := Lib.hid hx
  have HY := Lib.hid hy
  obtain ⟨rfl, -, -⟩ := hx
  obtain ⟨rfl, -, -⟩ := hy
  obtain ⟨w1, hw1⟩ : ∃ w1, w1 = (((w.alloc (Obj.cells #[Value.bool b1, Value.slice p1 n1 c1, Value.slice p2 n2 c2] 24)).alloc (Obj.cells #[Value.bool b2, Value.slice q1 m1 d1, Value.slice q2 m2 d2] 24)).alloc (Obj.cells #[Value.bool b1, Value.slice p1 n1 c1, Value.slice p2 n2 c2, Value.bool b2, Value.slice q1 m1 d1, Value.slice q2 m2 d2] 24)) := ⟨_, rfl⟩
  have HB1 : Hid (Below w.heap.size w w1) := Lib.hid (by rw [hw1]; exact (((Below.refl _ _).alloc (Nat.le_refl _) _).alloc (by simp) _).alloc (by simp; omega) _)
  have HXB : Hid (w1.heap[w.heap.size]? = some (.cells #[Value.bool b1, Value.slice p1 n1 c1, Value.slice p2 n2 c2] 24 (0, 0))) := Lib.hid (by rw [hw1]; exact alloc3_0 w _ _ _)
  have HYB : Hid (w1.heap[w.heap.size + 1]? = some (.cells #[Value.bool b2, Value.slice q1 m1 d1, Value.slice q2 m2 d2] 24 (0, 0))) := Lib.hid (by rw [hw1]; exact alloc3_1 w _ _ _)
  have HLB : Hid (w1.heap[w.heap.size + 1 + 1]? = some (.cells #[Value.bool b1, Value.slice p1 n1 c1, Value.slice p2 n2 c2, Value.bool b2, Value.slice q1 m1 d1, Value.slice q2 m2 d2] 24 (0, 0))) := Lib.hid (by rw [hw1]; exact alloc3_new w _ _ _)
  have HW1 := Lib.hid hw1.symm
  clear hw1
  have RX := Lib.hid (cells_later HXB.out)
  have RY := Lib.hid (cells_later HYB.out)
  have RL := Lib.hid (cells_later HLB.out)
  have HF : Hid (Calls Try.prog 12 #[.int .i64 12, .slice (some ⟨w.heap.size + 1 + 1, 0, none⟩) 2 2] w1 fun e w' => e = .returned (.bool (fewB 12 2 (at3 n1 m1 0) (at3 n2 m2 0))) ∧ w1 = w') := Lib.hid (by
    refine few_w (n := 12) (k := 2) (by omega) fun _ => ⟨_, _, rfl, fun i hi => ?_⟩
    have hz := Below.refl w1.heap.size w1
    match i, hi with
    | 0, _ => exact ⟨_, _, _, _, RL.out 1 _ rfl _ hz, RL.out 2 _ rfl _ hz⟩
    | 1, _ => exact ⟨_, _, _, _, RL.out 4 _ rfl _ hz, RL.out 5 _ rfl _ hz⟩)
  by_cases hf : fewB 12 2 (at3 n1 m1 0) (at3 n2 m2 0) = true
  · rw [hf] at HF
    have hf' : ∀ i, i < 2 → at3 n1 m1 0 i ≤ 12 ∧ at3 n2 m2 0 i ≤ 12 := by simpa [fewB] using hf
    obtain ⟨A, hA⟩ := HX.out.few (n := 12) (by omega) (hf' 0 (by omega)).1 (hf' 0 (by omega)).2
    obtain ⟨B, hB⟩ := HY.out.few (n := 12) (by omega) (hf' 1 (by omega)).1 (hf' 1 (by omega)).2
    clear hf hf'
    have HA := Lib.hid (hA.below HB1.out)
    have HBq := Lib.hid (hB.below HB1.out)
    have LA := Lib.hid hA.len
    have LB := Lib.hid hB.len
    clear hA hB
    have KC1 := Lib.hid (fun w' (hb : Below w1.heap.size w1 w') => rcopy_f (w := w') (HA.out.below hb) (by omega))
    have KC2 := Lib.hid (fun w' (hb : Below w1.heap.size w1 w') => rcopy_f (w := w') (HBq.out.below hb) (by omega))
    have hz1 := Below.refl w1.heap.size w1
    have x0 := RX.out 0 _ rfl _ hz1
    have x1 := RX.out 1 _ rfl _ hz1
    have x2 := RX.out 2 _ rfl _ hz1
    have y0 := RY.out 0 _ rfl _ hz1
    have y1 := RY.out 1 _ rfl _ hz1
    have y2 := RY.out 2 _ rfl _ hz1
    go_enter Try.func5, Try.ntmps5
    go_wp2_with fail
    rw [HW1.out]
    refine HF.out.mono ?_
    rintro en0 w0 ⟨rfl, rfl⟩
    go_wp2_with fail
    refine (KC1.out _ hz1).mono ?_
    rintro en2 w2 ⟨⟨v2, rfl, f2⟩, hb2⟩
    obtain ⟨bA, a2, n2', c2', i2, j2, k2, hq2⟩ := f2.form
    subst hq2
    go_wp2_with ((with_reducible refine at_store ?_); refine wpList_store_var rfl _ _ _ rfl w2.heap.size rfl _ rfl _ _ (heap_alloc_new _ _) ifrac rfl frac_one ?_; intro w3 h3 hon3; refine halt ?_)
    have hb3 : Below w2.heap.size w2 w3 := below_only ((Below.refl _ _).alloc (Nat.le_refl _) _) hon3 (Nat.le_refl _)
    have hz3 := below_trans hb2 hb3
    have RS := Lib.hid (cells_later h3)
    have HS3 := Lib.hid (f2.below hb3)
    clear h3 hon3 hb3 hb2 f2 x0 x1 x2 y0 y1 y2
    have x0 := RX.out 0 _ rfl _ hz3
    have x1 := RX.out 1 _ rfl _ hz3
    have x2 := RX.out 2 _ rfl _ hz3
    have y0 := RY.out 0 _ rfl _ hz3
    have y1 := RY.out 1 _ rfl _ hz3
    have y2 := RY.out 2 _ rfl _ hz3
    refine go_on ?_
    go_wp2_with fail
    refine (KC2.out _ hz3).mono ?_
    rintro en4 w4 ⟨⟨v4, rfl, f4⟩, hb4⟩
    obtain ⟨bB, a4, n4', c4', i4, j4, k4, hq4⟩ := f4.form
    subst hq4
    go_wp2_with ((with_reducible refine at_store ?_); refine wpList_store_var rfl _ _ _ rfl w4.heap.size rfl _ rfl _ _ (heap_alloc_new _ _) ifrac rfl frac_one ?_; intro w5 h5 hon5; refine halt ?_)
    have hb5 : Below w4.heap.size w4 w5 := below_only ((Below.refl _ _).alloc (Nat.le_refl _) _) hon5 (Nat.le_refl _)
    have hz5 := below_trans hz3 (below_trans hb4 hb5)
    have QX := Lib.hid (fun o v (h : (#[Value.bool b1, Value.slice p1 n1 c1, Value.slice p2 n2 c2] : Array Value)[o]? = some v) w' (hb : Below w5.heap.size w5 w') => RX.out o v h w' (below_trans hz5 hb))
    have QY := Lib.hid (fun o v (h : (#[Value.bool b2, Value.slice q1 m1 d1, Value.slice q2 m2 d2] : Array Value)[o]? = some v) w' (hb : Below w5.heap.size w5 w') => RY.out o v h w' (below_trans hz5 hb))
    have hy5 := below_trans hb4 hb5
    have QS := Lib.hid (fun o v (h : (#[Value.bool bA, Value.slice a2 n2' c2', Value.slice i2 j2 k2] : Array Value)[o]? = some v) w' (hb : Below w5.heap.size w5 w') => RS.out o v h w' (below_trans hy5 hb))
    have QT := Lib.hid (cells_later h5)
    have HS5 := Lib.hid (HS3.out.below hy5)
    have HT5 := Lib.hid (f4.below hb5)
    have HA5 := Lib.hid (HA.out.below hz5)
    have HB5 := Lib.hid (HBq.out.below hz5)
    have HW5 := Lib.hid (below_trans HB1.out hz5)
    clear h5 hon5 hb5 hb4 f4 hy5 hz5 hz3 HS3 HA HBq KC1 KC2 x0 x1 x2 y0 y1 y2
    have KD1 := Lib.hid (fun w' (hb : Below w5.heap.size w5 w') => div_u (w := w') (HS5.out.below hb) (HT5.out.below hb))
    have KD2 := Lib.hid (fun w' (hb : Below w5.heap.size w5 w') => rdiv_u (w := w') (HA5.out.below hb) (HB5.out.below hb))
    obtain ⟨ez, hez⟩ : ∃ e, e = errZ B := ⟨_, rfl⟩
    have HEZ := Lib.hid hez
    obtain ⟨QQ, hQQ⟩ : ∃ q, A * B⁻¹ = q := ⟨_, rfl⟩
    have LQ : Hid (B ≠ 0 → lenQ QQ ≤ 4096) := Lib.hid (fun h => by
      have h1 := len_mul A B⁻¹
      rw [hQQ, inv_len (fun e => h (Rat.num_eq_zero.1 e))] at h1
      have := LA.out; have := LB.out; omega)
    unfold QuoU at KD1 KD2
    rw [← hez, hQQ] at KD1 KD2
    clear hez hQQ
    obtain ⟨Sm, hSm⟩ : ∃ q, A + B = q := ⟨_, rfl⟩
    obtain ⟨Df, hDf⟩ : ∃ q, A - B = q := ⟨_, rfl⟩
    obtain ⟨Pr, hPr⟩ : ∃ q, A * B = q := ⟨_, rfl⟩
    obtain ⟨Ng, hNg⟩ : ∃ q, -A = q := ⟨_, rfl⟩
    obtain ⟨Fl, hFl⟩ : ∃ q, (A.floor : Rat) = q := ⟨_, rfl⟩
    have LSum : Hid (lenQ Sm ≤ 4096) := Lib.hid (by rw [← hSm]; have := len_add A B; have := LA.out; have := LB.out; omega)
    have LSub : Hid (lenQ Df ≤ 4096) := Lib.hid (by rw [← hDf, Rat.sub_eq_add_neg]; have := len_add A (-B); rw [len_neg9] at this; have := LA.out; have := LB.out; omega)
    have LMul : Hid (lenQ Pr ≤ 4096) := Lib.hid (by rw [← hPr]; have := len_mul A B; have := LA.out; have := LB.out; omega)
    have LNeg : Hid (lenQ Ng ≤ 4096) := Lib.hid (by rw [← hNg, len_neg9]; have := LA.out; omega)
    have LFlo : Hid (lenQ Fl ≤ 4096) := Lib.hid (by rw [← hFl]; have := len_flo (P := A) (by have := LA.out; omega); omega)
    have KA1 := Lib.hid (fun w' (hb : Below w5.heap.size w5 w') => add_e (w := w') (HS5.out.below hb).inF (HT5.out.below hb).inF (by have := LA.out; have := LB.out; omega) hSm)
    have KA2 := Lib.hid (fun w' (hb : Below w5.heap.size w5 w') => radd_f (w := w') (HA5.out.below hb) (HB5.out.below hb) (by omega) hSm)
    have KS1 := Lib.hid (fun w' (hb : Below w5.heap.size w5 w') => sub_e (w := w') (HS5.out.below hb).inF (HT5.out.below hb).inF (by have := LA.out; have := LB.out; omega) hDf)
    have KS2 := Lib.hid (fun w' (hb : Below w5.heap.size w5 w') => rsub_f (w := w') (HA5.out.below hb) (HB5.out.below hb) (by omega) hDf)
    have KM1 := Lib.hid (fun w' (hb : Below w5.heap.size w5 w') => mul_e (w := w') (HS5.out.below hb).inF (HT5.out.below hb).inF (by have := LA.out; have := LB.out; omega) hPr)
    have KM2 := Lib.hid (fun w' (hb : Below w5.heap.size w5 w') => rmul_f (w := w') (HA5.out.below hb) (HB5.out.below hb) (by omega) hPr)
    have KN1 := Lib.hid (fun w' (hb : Below w5.heap.size w5 w') => neg_e (w := w') (HS5.out.below hb).inF hNg)
    have KN2 := Lib.hid (fun w' (hb : Below w5.heap.size w5 w') => rneg_f (w := w') (HA5.out.below hb) (by omega) hNg)
    have KF1 := Lib.hid (fun w' (hb : Below w5.heap.size w5 w') => floor_f (w := w') (HS5.out.below hb).inF (by have := LA.out; omega))
    rw [hFl] at KF1
    have KF2 := Lib.hid (fun w' (hb : Below w5.heap.size w5 w') => rfloor_f (w := w') (HA5.out.below hb) (by omega) hFl)
    have KC1 := Lib.hid (fun w' (hb : Below w5.heap.size w5 w') => cmp_f (w := w') (HS5.out.below hb).inF (HT5.out.below hb).inF)
    have KC2 := Lib.hid (fun w' (hb : Below w5.heap.size w5 w') => rcmp_f (w := w') (HA5.out.below hb) (HB5.out.below hb) (by omega))
    have KG1 := Lib.hid (fun w' (hb : Below w5.heap.size w5 w') => sign_f (w := w') (HS5.out.below hb).inF)
    have KG2 := Lib.hid (fun w' (hb : Below w5.heap.size w5 w') => rsign_f (w := w') (HA5.out.below hb) (by omega))
    obtain ⟨oc, hoc⟩ : ∃ o, o = cmpQ A B := ⟨_, rfl⟩
    obtain ⟨og, hog⟩ : ∃ o, o = cmpQ A 0 := ⟨_, rfl⟩
    rw [← hoc] at KC1 KC2
    rw [← hog] at KG1 KG2
    clear hSm hDf hPr hNg hFl hoc hog
    have hy1 := Below.refl w5.heap.size w5
    have x0 := QX.out 0 _ rfl _ hy1
    have x1 := QX.out 1 _ rfl _ hy1
    have x2 := QX.out 2 _ rfl _ hy1
    have y0 := QY.out 0 _ rfl _ hy1
    have y1 := QY.out 1 _ rfl _ hy1
    have y2 := QY.out 2 _ rfl _ hy1
    have s0 := QS.out 0 _ rfl _ hy1
    have s1 := QS.out 1 _ rfl _ hy1
    have s2 := QS.out 2 _ rfl _ hy1
    have t0 := QT.out 0 _ rfl _ hy1
    have t1 := QT.out 1 _ rfl _ hy1
    have t2 := QT.out 2 _ rfl _ hy1
    refine go_on ?_
    go_wp2_with fail
    refine (KD1.out _ hy1).mono ?_
    rintro en6 w6 ⟨⟨bb6, a6, n6, c6, i6, j6, k6, rfl, f6⟩, hb6⟩
    go_wp2_with ((with_reducible refine at_store ?_); refine wpList_store_var rfl _ _ _ rfl w6.heap.size rfl _ rfl _ _ (heap_alloc_new _ _) ifrac rfl frac_one ?_; intro w7 h7 hon7; refine halt ?_)
    have hb7 : Below w6.heap.size w6 w7 := below_only ((Below.refl _ _).alloc (Nat.le_refl _) _) hon7 (Nat.le_refl _)
    have hz7 := below_trans hb6 hb7
    have RQ1 := Lib.hid (cells_later h7)
    have HQ7 : Hid (B ≠ 0 → FracV w7 (.agg #[.bool bb6, .slice a6 n6 c6, .slice i6 j6 k6]) QQ) := Lib.hid (fun h => (f6.out h).below hb7)
    clear h7 hon7 hb7 hb6 f6 hy1 x0 x1 x2 y0 y1 y2 s0 s1 s2 t0 t1 t2
    have x0 := QX.out 0 _ rfl _ hz7
    have x1 := QX.out 1 _ rfl _ hz7
    have x2 := QX.out 2 _ rfl _ hz7
    have y0 := QY.out 0 _ rfl _ hz7
    have y1 := QY.out 1 _ rfl _ hz7
    have y2 := QY.out 2 _ rfl _ hz7
    have s0 := QS.out 0 _ rfl _ hz7
    have s1 := QS.out 1 _ rfl _ hz7
    have s2 := QS.out 2 _ rfl _ hz7
    have t0 := QT.out 0 _ rfl _ hz7
    have t1 := QT.out 1 _ rfl _ hz7
    have t2 := QT.out 2 _ rfl _ hz7
    refine go_on ?_
    go_wp2_with fail
    refine (KD2.out _ hz7).mono ?_
    rintro en8 w8 ⟨⟨bb8, a8, n8, c8, i8, j8, k8, rfl, f8⟩, hb8⟩
    go_wp2_with ((with_reducible refine at_store ?_); refine wpList_store_var rfl _ _ _ rfl w8.heap.size rfl _ rfl _ _ (heap_alloc_new _ _) ifrac rfl frac_one ?_; intro w9 h9 hon9; refine halt ?_)
    have hb9 : Below w8.heap.size w8 w9 := below_only ((Below.refl _ _).alloc (Nat.le_refl _) _) hon9 (Nat.le_refl _)
    have hy9 := below_trans hb8 hb9
    have hz9 := below_trans hz7 hy9
    have HQ9 : Hid (B ≠ 0 → FracV w9 (.agg #[.bool bb6, .slice a6 n6 c6, .slice i6 j6 k6]) QQ) := Lib.hid (fun h => (HQ7.out h).below hy9)
    have HR9 : Hid (B ≠ 0 → FracV w9 (.agg #[.bool bb8, .slice a8 n8 c8, .slice i8 j8 k8]) QQ) := Lib.hid (fun h => (f8.out h).below hb9)
    have u0 := RQ1.out 0 _ rfl _ hy9
    have u1 := RQ1.out 1 _ rfl _ hy9
    have u2 := RQ1.out 2 _ rfl _ hy9
    have v0 := cells_later h9 0 _ rfl _ (Below.refl _ _)
    have v1 := cells_later h9 1 _ rfl _ (Below.refl _ _)
    have v2 := cells_later h9 2 _ rfl _ (Below.refl _ _)
    clear h9 hon9 hb9 hb8 f8 x0 x1 x2 y0 y1 y2 s0 s1 s2 t0 t1 t2
    refine go_on ?_
    have te : (ez == ez) = true := by simp
    have te2 : (ez != ez) = false := by simp
    go_upto_region 7 with fail
    go_cut [46] (fun cv wr => cv = .bool false ∧ Hid (Below w9.heap.size w9 wr))
    case first =>
      by_cases hB0 : B = 0
      · have hz : ez = 11 := by rw [HEZ.out, errZ, if_pos hB0]
        subst hz
        clear hB0
        go_wp2_with fail
        go_meet
        exact ⟨rfl, Lib.hid (Below.refl _ _)⟩
      · have hz : ez = 0 := by rw [HEZ.out, errZ, if_neg hB0]
        have H1 := Lib.hid (HQ9.out hB0)
        have H2 := Lib.hid (HR9.out hB0)
        have H3 := Lib.hid (LQ.out hB0)
        subst hz
        clear hB0
        go_wp2_with fail
        refine (same_w H1.out H2.out H3.out).mono ?_
        rintro en10 w10 ⟨rfl, hb10⟩
        go_wp2_with fail
        go_meet
        exact ⟨rfl, Lib.hid hb10⟩
    case rest =>
      obtain ⟨w10, rfl⟩ : ∃ w8 : World, w8 = wc := ⟨_, rfl⟩
      obtain ⟨rfl, HB10⟩ := hcut
      have hz10 := below_trans hz9 HB10.out
      clear u0 u1 u2 v0 v1 v2 te te2 hz9 hy9 hz7
      have x0 := QX.out 0 _ rfl _ hz10
      have x1 := QX.out 1 _ rfl _ hz10
      have x2 := QX.out 2 _ rfl _ hz10
      have y0 := QY.out 0 _ rfl _ hz10
      have y1 := QY.out 1 _ rfl _ hz10
      have y2 := QY.out 2 _ rfl _ hz10
      have s0 := QS.out 0 _ rfl _ hz10
      have s1 := QS.out 1 _ rfl _ hz10
      have s2 := QS.out 2 _ rfl _ hz10
      have t0 := QT.out 0 _ rfl _ hz10
      have t1 := QT.out 1 _ rfl _ hz10
      have t2 := QT.out 2 _ rfl _ hz10
      go_wp2_with fail
      have hz0 : Below w5.heap.size w5 w10.drew := below_drewN hz10 1
      go_region_held3 (fun w' => w'.cell? ⟨w.heap.size, 0, none⟩ = some (.bool b1) ∧ w'.cell? ⟨w.heap.size, 1, none⟩ = some (.slice p1 n1 c1) ∧ w'.cell? ⟨w.heap.size, 2, none⟩ = some (.slice p2 n2 c2) ∧ w'.cell? ⟨w.heap.size + 1, 0, none⟩ = some (.bool b2) ∧ w'.cell? ⟨w.heap.size + 1, 1, none⟩ = some (.slice q1 m1 d1) ∧ w'.cell? ⟨w.heap.size + 1, 2, none⟩ = some (.slice q2 m2 d2) ∧ w'.cell? ⟨w2.heap.size, 0, none⟩ = some (.bool bA) ∧ w'.cell? ⟨w2.heap.size, 1, none⟩ = some (.slice a2 n2' c2') ∧ w'.cell? ⟨w2.heap.size, 2, none⟩ = some (.slice i2 j2 k2) ∧ w'.cell? ⟨w4.heap.size, 0, none⟩ = some (.bool bB) ∧ w'.cell? ⟨w4.heap.size, 1, none⟩ = some (.slice a4 n4' c4') ∧ w'.cell? ⟨w4.heap.size, 2, none⟩ = some (.slice i4 j4 k4))
        (((try dsimp only); refine ⟨?_, ?_, ?_, ?_, ?_, ?_, ?_, ?_, ?_, ?_, ?_, ?_⟩ <;> (first | exact QX.out _ _ rfl _ (by assumption) | exact QY.out _ _ rfl _ (by assumption) | exact QS.out _ _ rfl _ (by assumption) | exact QT.out _ _ rfl _ (by assumption) | go_keep)))
        (first | (go_at_call 24; refine (KA1.out _ hz0).mono ?_; rintro en51 w51 ⟨⟨v51, rfl, f51, g51⟩, hb51⟩; obtain ⟨a51, n51, c51, i51, j51, k51, hq51⟩ := frac_form f51; subst hq51; have hz51 := below_trans hz0 hb51) | (go_at_call 25; refine (KA2.out _ hz51).mono ?_; rintro en52 w52 ⟨⟨v52, rfl, f52⟩, hb52⟩; obtain ⟨a52, n52, c52, i52, j52, k52, hq52⟩ := frac_form f52; subst hq52; have hz52 := below_trans hz51 hb52) | (go_at_call_of 16 (Value.slice a51 n51 c51); refine (same_w (f51.below hb52) f52 LSum.out).mono ?_; rintro en53 w53 ⟨rfl, hb53⟩; have hz53 := below_trans hz52 hb53) | (go_at_call 26; refine (KS1.out _ hz53).mono ?_; rintro en54 w54 ⟨⟨v54, rfl, f54, g54⟩, hb54⟩; obtain ⟨a54, n54, c54, i54, j54, k54, hq54⟩ := frac_form f54; subst hq54; have hz54 := below_trans hz53 hb54) | (go_at_call 27; refine (KS2.out _ hz54).mono ?_; rintro en55 w55 ⟨⟨v55, rfl, f55⟩, hb55⟩; obtain ⟨a55, n55, c55, i55, j55, k55, hq55⟩ := frac_form f55; subst hq55; have hz55 := below_trans hz54 hb55) | (go_at_call_of 16 (Value.slice a54 n54 c54); refine (same_w (f54.below hb55) f55 LSub.out).mono ?_; rintro en56 w56 ⟨rfl, hb56⟩; have hz56 := below_trans hz55 hb56) | (go_at_call 28; refine (KM1.out _ hz56).mono ?_; rintro en57 w57 ⟨⟨v57, rfl, f57, g57⟩, hb57⟩; obtain ⟨a57, n57, c57, i57, j57, k57, hq57⟩ := frac_form f57; subst hq57; have hz57 := below_trans hz56 hb57) | (go_at_call 29; refine (KM2.out _ hz57).mono ?_; rintro en58 w58 ⟨⟨v58, rfl, f58⟩, hb58⟩; obtain ⟨a58, n58, c58, i58, j58, k58, hq58⟩ := frac_form f58; subst hq58; have hz58 := below_trans hz57 hb58) | (go_at_call 16; refine (same_w (f57.below hb58) f58 LMul.out).mono ?_; rintro en59 w59 ⟨rfl, hb59⟩; have hz59 := below_trans hz58 hb59))
      clear x0 x1 x2 y0 y1 y2 s0 s1 s2 t0 t1 t2
      have x0 := QX.out 0 _ rfl _ hz59
      have x1 := QX.out 1 _ rfl _ hz59
      have x2 := QX.out 2 _ rfl _ hz59
      have y0 := QY.out 0 _ rfl _ hz59
      have y1 := QY.out 1 _ rfl _ hz59
      have y2 := QY.out 2 _ rfl _ hz59
      have s0 := QS.out 0 _ rfl _ hz59
      have s1 := QS.out 1 _ rfl _ hz59
      have s2 := QS.out 2 _ rfl _ hz59
      have t0 := QT.out 0 _ rfl _ hz59
      have t1 := QT.out 1 _ rfl _ hz59
      have t2 := QT.out 2 _ rfl _ hz59
      go_wp2_with fail
      have hy0 : Below w5.heap.size w5 w59.drew := below_drewN hz59 1
      go_region_held3 (fun w' => w'.cell? ⟨w.heap.size, 0, none⟩ = some (.bool b1) ∧ w'.cell? ⟨w.heap.size, 1, none⟩ = some (.slice p1 n1 c1) ∧ w'.cell? ⟨w.heap.size, 2, none⟩ = some (.slice p2 n2 c2) ∧ w'.cell? ⟨w2.heap.size, 0, none⟩ = some (.bool bA) ∧ w'.cell? ⟨w2.heap.size, 1, none⟩ = some (.slice a2 n2' c2') ∧ w'.cell? ⟨w2.heap.size, 2, none⟩ = some (.slice i2 j2 k2))
        (((try dsimp only); refine ⟨?_, ?_, ?_, ?_, ?_, ?_⟩ <;> (first | exact QX.out _ _ rfl _ (by assumption) | exact QS.out _ _ rfl _ (by assumption) | go_keep)))
        (first | (go_at_call 30; refine (KN1.out _ hy0).mono ?_; rintro en61 w61 ⟨⟨v61, rfl, f61, g61⟩, hb61⟩; obtain ⟨a61, n61, c61, i61, j61, k61, hq61⟩ := frac_form f61; subst hq61; have hz61 := below_trans hy0 hb61) | (go_at_call 31; refine (KN2.out _ hz61).mono ?_; rintro en62 w62 ⟨⟨v62, rfl, f62⟩, hb62⟩; obtain ⟨a62, n62, c62, i62, j62, k62, hq62⟩ := frac_form f62; subst hq62; have hz62 := below_trans hz61 hb62) | (go_at_call_of 16 (Value.slice a61 n61 c61); refine (same_w (f61.below hb62) f62 LNeg.out).mono ?_; rintro en63 w63 ⟨rfl, hb63⟩; have hz63 := below_trans hz62 hb63) | (go_at_call 32; refine (KF1.out _ hz63).mono ?_; rintro en64 w64 ⟨⟨v64, rfl, f64, g64⟩, hb64⟩; obtain ⟨a64, n64, c64, i64, j64, k64, hq64⟩ := frac_form f64; subst hq64; have hz64 := below_trans hz63 hb64) | (go_at_call 33; refine (KF2.out _ hz64).mono ?_; rintro en65 w65 ⟨⟨v65, rfl, f65⟩, hb65⟩; obtain ⟨a65, n65, c65, i65, j65, k65, hq65⟩ := frac_form f65; subst hq65; have hz65 := below_trans hz64 hb65) | (go_at_call 16; refine (same_w (f64.below hb65) f65 LFlo.out).mono ?_; rintro en66 w66 ⟨rfl, hb66⟩; have hz66 := below_trans hz65 hb66))
      clear x0 x1 x2 y0 y1 y2 s0 s1 s2 t0 t1 t2
      have x0 := QX.out 0 _ rfl _ hz66
      have x1 := QX.out 1 _ rfl _ hz66
      have x2 := QX.out 2 _ rfl _ hz66
      have y0 := QY.out 0 _ rfl _ hz66
      have y1 := QY.out 1 _ rfl _ hz66
      have y2 := QY.out 2 _ rfl _ hz66
      have s0 := QS.out 0 _ rfl _ hz66
      have s1 := QS.out 1 _ rfl _ hz66
      have s2 := QS.out 2 _ rfl _ hz66
      have t0 := QT.out 0 _ rfl _ hz66
      have t1 := QT.out 1 _ rfl _ hz66
      have t2 := QT.out 2 _ rfl _ hz66
      go_wp2_with fail
      have hx0 : Below w5.heap.size w5 w66.drew := below_drewN hz66 1
      go_region_held3 (fun w' => w'.cell? ⟨w.heap.size, 0, none⟩ = some (.bool b1) ∧ w'.cell? ⟨w.heap.size, 1, none⟩ = some (.slice p1 n1 c1) ∧ w'.cell? ⟨w.heap.size, 2, none⟩ = some (.slice p2 n2 c2) ∧ w'.cell? ⟨w.heap.size + 1, 0, none⟩ = some (.bool b2) ∧ w'.cell? ⟨w.heap.size + 1, 1, none⟩ = some (.slice q1 m1 d1) ∧ w'.cell? ⟨w.heap.size + 1, 2, none⟩ = some (.slice q2 m2 d2) ∧ w'.cell? ⟨w2.heap.size, 0, none⟩ = some (.bool bA) ∧ w'.cell? ⟨w2.heap.size, 1, none⟩ = some (.slice a2 n2' c2') ∧ w'.cell? ⟨w2.heap.size, 2, none⟩ = some (.slice i2 j2 k2) ∧ w'.cell? ⟨w4.heap.size, 0, none⟩ = some (.bool bB) ∧ w'.cell? ⟨w4.heap.size, 1, none⟩ = some (.slice a4 n4' c4') ∧ w'.cell? ⟨w4.heap.size, 2, none⟩ = some (.slice i4 j4 k4))
        (((try dsimp only); refine ⟨?_, ?_, ?_, ?_, ?_, ?_, ?_, ?_, ?_, ?_, ?_, ?_⟩ <;> (first | exact QX.out _ _ rfl _ (by assumption) | exact QY.out _ _ rfl _ (by assumption) | exact QS.out _ _ rfl _ (by assumption) | exact QT.out _ _ rfl _ (by assumption) | go_keep)))
        (first | (go_at_call 34; refine (KC1.out _ hx0).mono ?_; rintro en71 w71 ⟨rfl, hb71⟩; have hz71 := below_trans hx0 hb71) | (go_at_call 35; refine (KC2.out _ hz71).mono ?_; rintro en72 w72 ⟨rfl, hb72⟩; have hz72 := below_trans hz71 hb72) | (go_at_call 36; refine (KG1.out _ hz72).mono ?_; rintro en73 w73 ⟨rfl, hb73⟩; have hz73 := below_trans hz72 hb73) | (go_at_call 37; refine (KG2.out _ hz73).mono ?_; rintro en74 w74 ⟨rfl, hb74⟩; have hz74 := below_trans hz73 hb74))
      go_wp2_with fail
      go_ret
      exact ⟨rfl, below_trans HW5.out hz74⟩
  · have hf' : fewB 12 2 (at3 n1 m1 0) (at3 n2 m2 0) = false := by simpa using hf
    rw [hf'] at HF
    clear hf hf'
    have hz1 := Below.refl w1.heap.size w1
    have x0 := RX.out 0 _ rfl _ hz1
    have x1 := RX.out 1 _ rfl _ hz1
    have x2 := RX.out 2 _ rfl _ hz1
    have y0 := RY.out 0 _ rfl _ hz1
    have y1 := RY.out 1 _ rfl _ hz1
    have y2 := RY.out 2 _ rfl _ hz1
    go_enter Try.func5, Try.ntmps5
    go_wp2_with fail
    rw [HW1.out]
    refine HF.out.mono ?_
    rintro en0 w0 ⟨rfl, rfl⟩
    go_wp2_with fail
    go_ret
    exact ⟨rfl, HB1.out⟩
end Go.Proofs.Ytebgkfcglmjokaa

/- FracOps answers true at every input, and what it is handed reads behind the call as it read before: sum, difference, product, quotient, what is below zero turned, order, sign and floor of any two fractions of at most 12 words a number are those of the reference. No conditions. -/
namespace Go.Proofs.Ytebgkfcglmjokaa
open Go.ChangeShapes Go.WideShapes Go.ChangeAt Go.RowKit

set_option maxRecDepth 100000 in
theorem ops_lifted (os : Os) (started : os.Started) (H : Type) (enc : TypeId × Value → H) :
    ReturnsInHanded {} Try.checked os 5 .any (Rows.fracOpsSpec.pre6 enc Try.prog Try.f5 Rows.fracOpsRow.domain false) (Rows.fracOpsSpec.post enc Try.prog Try.f5 false true false false) := by
  refine returnsInHanded_of_change (C := Try.checked) own_knob started (by kernel_rfl) Try.func5
    (ChangeSpec.witness6 (enc := enc) (C := Try.checked) false ⟨#[], #[.agg #[.bool false, .slice none 0 0, .slice none 0 0], .agg #[.bool false, .slice none 0 0, .slice none 0 0]], []⟩ 8 (by kernel_rfl) (by kernel_rfl) (by kernel_rfl) (by kernel_rfl)) ?_
  intro W base args ds gs before hval0 hW hcnd _
  have hval : ∀ (j : Nat) t v, Try.f5.params[j]? = some t → args[j]? = some v → Value.okWide Try.prog W .any base t v := hval0
  have hW' := hW
  obtain ⟨p, q, hA0, hV, rfl, hfz, hnd⟩ := hW
  have hA : DataW.TrodAll enc Try.prog W 0 (fun _ => true) true Try.f5.params.toList args.toList ds p := hA0
  rw [Try.params5] at hA hval
  obtain ⟨v0, vs0, d0, ds0, p0, q0, hargs, rfl, rfl, h0, r0⟩ := trodAll_cons hA
  obtain ⟨v1, vs1, d1, ds1, p1, q1, rfl, rfl, rfl, h1, r1⟩ := trodAll_cons r0
  obtain ⟨rfl, rfl, rfl⟩ := trodAll_nil r1
  obtain rfl : args = #[v0, v1] := by cases args; simp_all
  obtain ⟨rfl, rfl⟩ := trodVars_none hV
  have k0 := h0
  have k1 := h1
  have lt0 : ∀ x ∈ p0, x.block < W.heap.size := by obtain ⟨m, hm⟩ := k0; exact DataW.trod_lt m _ _ _ hm
  have lt1 : ∀ x ∈ p1, x.block < W.heap.size := by obtain ⟨m, hm⟩ := k1; exact DataW.trod_lt m _ _ _ hm
  obtain ⟨b0, a01, n01, c01, a02, n02, c02, w0⟩ := frac_in (hval 0 24 v0 rfl rfl) h0
  obtain ⟨b1, a11, n11, c11, a12, n12, c12, w1⟩ := frac_in (hval 1 24 v1 rfl rfl) h1
  clear hA0 hval0
  refine (ops_walk w0 w1).mono fun e W' ⟨he, bel⟩ => ?_
  subst he
  exact ⟨_, rfl, _, _, _, [], _, [], hW', trodAll_mk1 (shut_bool Try.underlying4 _), (trodAll_cons_mk (Below.trod laid_out (by kernel_rfl) (of_decide_eq_true (by kernel_rfl)) k0 bel lt0) (trodAll_cons_mk (Below.trod laid_out (by kernel_rfl) (of_decide_eq_true (by kernel_rfl)) k1 bel lt1) trodAll_mk0)), rfl, bel.frame _, fun h => by cases h⟩

theorem ops_holds : Rows.FracOpsSaid :=
  OpenClaim.holds_of_wide 5 Try.f5 rfl rfl rfl rfl rfl rfl rfl ⟨rfl, rfl, rfl, rfl, rfl⟩ rfl rfl rfl rfl rfl (by kernel_rfl) Try.func5 (by kernel_rfl)
    (of_decide_eq_true (by kernel_rfl)) (by unfold Func.isWrapper; first | (rw [if_pos (by decide +kernel)]; kernel_rfl) | (rw [if_neg (by decide +kernel)]; exact ⟨rfl, rfl⟩))
    (fun os started H enc _ => ops_lifted os started H enc)
end Go.Proofs.Ytebgkfcglmjokaa
