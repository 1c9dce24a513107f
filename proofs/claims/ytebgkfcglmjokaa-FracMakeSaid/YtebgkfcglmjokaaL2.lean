/- FracMake answers true at every input, and what it is handed reads behind the call as it read before: the quotient of any two whole numbers is told as the reference tells it. No conditions. -/
import Derived.Test.YtebgkfcglmjokaaU2
import Derived.Test.YtebgkfcglmjokaaS1
namespace Go.Proofs.Ytebgkfcglmjokaa
open Go.RowKit
attribute [local go_sem ↓] Go.wp_at_zero Go.wp_at_succ

set_option maxRecDepth 100000 in
set_option maxHeartbeats 4000000 in
theorem make_walk {w : World} (p q : Int) (hp1 : -9223372036854775808 ≤ p) (hp2 : p ≤ 9223372036854775807) (hq1 : -9223372036854775808 ≤ q) (hq2 : q ≤ 9223372036854775807) :
    Calls Try.prog 4 #[.int .i64 p, .int .i64 q] w fun e w' => e = .returned (.bool true) ∧ Below w.heap.size w w' := by
  have K1 := Lib.hid (fun w' => make_q (w := w') p q hp1 hp2 hq1 hq2)
  have K2 := Lib.hid (fun w' => rmake_w (w := w') p q hp1 hp2 hq1 hq2)
  by_cases h0 : q = 0
  · have HZ : zerB q.natAbs = true := by rw [h0]; rfl
    rw [HZ] at K1 K2
    clear HZ h0 hp1 hp2 hq1 hq2
    go_enter Try.func4, Try.ntmps4
    go_wp2_with fail
    refine (K1.out _).mono ?_
    rintro en2 w2 ⟨he2, hb2⟩
    obtain rfl : en2 = _ := by simpa using he2
    go_wp2_with ((with_reducible refine at_store ?_); refine wpList_store_var rfl _ _ _ rfl w2.heap.size rfl _ rfl _ _ (heap_alloc_new _ _) ifrac rfl frac_one ?_; intro w3 h3 hon3; refine halt ?_)
    have hb3 : Below w2.heap.size w2 w3 := below_only ((Below.refl _ _).alloc (Nat.le_refl _) _) hon3 (Nat.le_refl _)
    have hz3 := below_trans hb2 hb3
    have RC := Lib.hid (cells_later h3)
    clear h3 hon3 hb3 hb2 he2
    refine go_on ?_
    go_wp2_with fail
    refine (K2.out _).mono ?_
    rintro en4 w4 ⟨he4, hb4⟩
    obtain rfl : en4 = _ := by simpa using he4
    go_wp2_with ((with_reducible refine at_store ?_); refine wpList_store_var rfl _ _ _ rfl w4.heap.size rfl _ rfl _ _ (heap_alloc_new _ _) ifrac rfl frac_one ?_; intro w5 h5 hon5; refine halt ?_)
    have hb5 : Below w4.heap.size w4 w5 := below_only ((Below.refl _ _).alloc (Nat.le_refl _) _) hon5 (Nat.le_refl _)
    have hy5 := below_trans hb4 hb5
    have hz5 := below_trans hz3 hy5
    have x1 := RC.out 1 _ rfl _ hy5
    have x2 := RC.out 2 _ rfl _ hy5
    clear h5 hon5 hb5 hb4 he4
    refine go_on ?_
    go_wp2_with fail
    refine half_w.mono ?_
    rintro en6 w6 ⟨rfl, hb6⟩
    go_wp2_with fail
    go_ret
    exact ⟨rfl, below_trans hz5 hb6⟩
  · have HZ : zerB q.natAbs = false := zerB_false (by omega)
    rw [HZ] at K1 K2
    have HL : Hid (lenQ (makeQ p q) ≤ 4096) := Lib.hid (by rw [makeQ_eq p q h0]; have := len_make p q hp1 hp2 hq1 hq2 h0; omega)
    obtain ⟨Q, hQ⟩ : ∃ Q, Q = makeQ p q := ⟨_, rfl⟩
    rw [← hQ] at K1 K2 HL
    clear HZ h0 hp1 hp2 hq1 hq2 hQ
    go_enter Try.func4, Try.ntmps4
    go_wp2_with fail
    refine (K1.out _).mono ?_
    rintro en2 w2 ⟨he2, hb2⟩
    obtain ⟨v2, rfl, f2, -⟩ : ∃ r, en2 = .returned (.tuple #[r, .int .i64 0]) ∧ FracV w2 r Q ∧ NewF w r := by simpa using he2
    obtain ⟨a2, n2, c2, i2, j2, k2, hq2⟩ := frac_form f2
    subst hq2
    go_wp2_with ((with_reducible refine at_store ?_); refine wpList_store_var rfl _ _ _ rfl w2.heap.size rfl _ rfl _ _ (heap_alloc_new _ _) ifrac rfl frac_one ?_; intro w3 h3 hon3; refine halt ?_)
    have hb3 : Below w2.heap.size w2 w3 := below_only ((Below.refl _ _).alloc (Nat.le_refl _) _) hon3 (Nat.le_refl _)
    have hz3 := below_trans hb2 hb3
    have RC := Lib.hid (cells_later h3)
    have HF3 := Lib.hid (f2.below hb3)
    clear h3 hon3 hb3 hb2 he2 f2
    refine go_on ?_
    go_wp2_with fail
    refine (K2.out _).mono ?_
    rintro en4 w4 ⟨he4, hb4⟩
    obtain ⟨v4, rfl, f4⟩ : ∃ r, en4 = .returned (.tuple #[r, .int .i64 0]) ∧ FracV w4 r Q := by simpa using he4
    obtain ⟨a4, n4, c4, i4, j4, k4, hq4⟩ := frac_form f4
    subst hq4
    go_wp2_with ((with_reducible refine at_store ?_); refine wpList_store_var rfl _ _ _ rfl w4.heap.size rfl _ rfl _ _ (heap_alloc_new _ _) ifrac rfl frac_one ?_; intro w5 h5 hon5; refine halt ?_)
    have hb5 : Below w4.heap.size w4 w5 := below_only ((Below.refl _ _).alloc (Nat.le_refl _) _) hon5 (Nat.le_refl _)
    have hy5 := below_trans hb4 hb5
    have hz5 := below_trans hz3 hy5
    have x0 := RC.out 0 _ rfl _ hy5
    have x1 := RC.out 1 _ rfl _ hy5
    have x2 := RC.out 2 _ rfl _ hy5
    have y0 := cells_later h5 0 _ rfl _ (Below.refl _ _)
    have y1 := cells_later h5 1 _ rfl _ (Below.refl _ _)
    have y2 := cells_later h5 2 _ rfl _ (Below.refl _ _)
    have HF4 := Lib.hid (f4.below hb5)
    have HF5 := Lib.hid (HF3.out.below hy5)
    clear h5 hon5 hb5 hb4 he4 f4
    refine go_on ?_
    go_wp2_with fail
    refine (same_w HF5.out HF4.out HL.out).mono ?_
    rintro en6 w6 ⟨rfl, hb6⟩
    go_wp2_with fail
    go_ret
    exact ⟨rfl, below_trans hz5 hb6⟩
end Go.Proofs.Ytebgkfcglmjokaa

/- FracMake answers true at every input, and what it is handed reads behind the call as it read before: the quotient of any two whole numbers is told as the reference tells it. No conditions. -/
namespace Go.Proofs.Ytebgkfcglmjokaa
open Go.ChangeShapes Go.WideShapes Go.ChangeAt Go.RowKit

theorem i64_bounds {n : Int} (h : (Lit.int .i64 n).wf = true) : -9223372036854775808 ≤ n ∧ n ≤ 9223372036854775807 := by
  have m1 : IntKind.i64.min = -9223372036854775808 := by decide
  have m2 : IntKind.i64.max = 9223372036854775807 := by decide
  simpa only [Lit.wf, m1, m2, Bool.and_eq_true, decide_eq_true_eq] using h

set_option maxRecDepth 100000 in
theorem make_lifted (os : Os) (started : os.Started) (H : Type) (enc : TypeId × Value → H) :
    ReturnsInHanded {} Try.checked os 4 .any (Rows.fracMakeSpec.pre6 enc Try.prog Try.f4 Rows.fracMakeRow.domain false) (Rows.fracMakeSpec.post enc Try.prog Try.f4 false true false false) := by
  refine returnsInHanded_of_change (C := Try.checked) own_knob started (by kernel_rfl) Try.func4
    (ChangeSpec.witness6 (enc := enc) (C := Try.checked) false ⟨#[], #[.int .i64 0, .int .i64 0], []⟩ 8 (by kernel_rfl) (by kernel_rfl) (by kernel_rfl) (by kernel_rfl)) ?_
  intro W base args ds gs before hval0 hW hcnd _
  have hval : ∀ (j : Nat) t v, Try.f4.params[j]? = some t → args[j]? = some v → Value.okWide Try.prog W .any base t v := hval0
  have hW' := hW
  obtain ⟨p, q, hA0, hV, rfl, hfz, hnd⟩ := hW
  have hA : DataW.TrodAll enc Try.prog W 0 (fun _ => true) true Try.f4.params.toList args.toList ds p := hA0
  rw [Try.params4] at hA hval
  obtain ⟨v0, vs0, d0, ds0, p0, q0, hargs, rfl, rfl, h0, r0⟩ := trodAll_cons hA
  obtain ⟨v1, vs1, d1, ds1, p1, q1, rfl, rfl, rfl, h1, r1⟩ := trodAll_cons r0
  obtain ⟨rfl, rfl, rfl⟩ := trodAll_nil r1
  obtain rfl : args = #[v0, v1] := by cases args; simp_all
  obtain ⟨rfl, rfl⟩ := trodVars_none hV
  have k0 := h0
  have k1 := h1
  have lt0 : ∀ x ∈ p0, x.block < W.heap.size := by obtain ⟨m, hm⟩ := k0; exact DataW.trod_lt m _ _ _ hm
  have lt1 : ∀ x ∈ p1, x.block < W.heap.size := by obtain ⟨m, hm⟩ := k1; exact DataW.trod_lt m _ _ _ hm
  obtain ⟨n0, rfl, -, -, w0⟩ := open_int Try.underlying3 (hval 0 3 v0 rfl rfl) h0
  obtain ⟨n1, rfl, -, -, w1⟩ := open_int Try.underlying3 (hval 1 3 v1 rfl rfl) h1
  clear hA0 hval0
  refine (make_walk n0 n1 (i64_bounds w0).1 (i64_bounds w0).2 (i64_bounds w1).1 (i64_bounds w1).2).mono fun e W' ⟨he, bel⟩ => ?_
  subst he
  exact ⟨_, rfl, _, _, _, [], _, [], hW', trodAll_mk1 (shut_bool Try.underlying4 _), (trodAll_cons_mk (Below.trod laid_out (by kernel_rfl) (of_decide_eq_true (by kernel_rfl)) k0 bel lt0) (trodAll_cons_mk (Below.trod laid_out (by kernel_rfl) (of_decide_eq_true (by kernel_rfl)) k1 bel lt1) trodAll_mk0)), rfl, bel.frame _, fun h => by cases h⟩

theorem make_holds : Rows.FracMakeSaid :=
  OpenClaim.holds_of_wide 4 Try.f4 rfl rfl rfl rfl rfl rfl rfl ⟨rfl, rfl, rfl, rfl, rfl⟩ rfl rfl rfl rfl rfl (by kernel_rfl) Try.func4 (by kernel_rfl)
    (of_decide_eq_true (by kernel_rfl)) (by unfold Func.isWrapper; first | (rw [if_pos (by decide +kernel)]; kernel_rfl) | (rw [if_neg (by decide +kernel)]; exact ⟨rfl, rfl⟩))
    (fun os started H enc _ => make_lifted os started H enc)
end Go.Proofs.Ytebgkfcglmjokaa
