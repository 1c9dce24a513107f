/- FracPrint answers true at every input, and what it is handed reads behind the call as it read before: any words of at most 12 a number are written as the reference writes them, and read again as the reference reads them. No conditions. -/
import Derived.Test.YtebgkfcglmjokaaN
import Derived.Deep.DrawnRows
namespace Go.Proofs.Ytebgkfcglmjokaa
open Go.RowKit
attribute [local go_sem ↓] Go.wp_at_zero Go.wp_at_succ

set_option maxRecDepth 100000 in
set_option maxHeartbeats 4000000 in
theorem print_walk {w : World} {x : Value} {b1 : Bool} {p1 p2 : Option Addr} {n1 c1 n2 c2 : Nat} (hx : FracI w x b1 p1 n1 c1 p2 n2 c2) :
    Calls Try.prog 9 #[x] w fun e w' => e = .returned (.bool true) ∧ Below w.heap.size w w' := by
  have HX := Lib.hid hx
  obtain ⟨rfl, -, -⟩ := hx
  obtain ⟨w1, hw1⟩ : ∃ w1, w1 = (w.alloc (Obj.cells #[Value.bool b1, Value.slice p1 n1 c1, Value.slice p2 n2 c2] 24)).alloc (Obj.cells #[Value.bool b1, Value.slice p1 n1 c1, Value.slice p2 n2 c2] 24) := ⟨_, rfl⟩
  have HB1 : Hid (Below w.heap.size w w1) := Lib.hid (by rw [hw1]; exact ((Below.refl _ _).alloc (Nat.le_refl _) _).alloc (by simp) _)
  have HXB : Hid (w1.heap[w.heap.size]? = some (.cells #[Value.bool b1, Value.slice p1 n1 c1, Value.slice p2 n2 c2] 24 (0, 0))) := Lib.hid (by rw [hw1]; exact heap_alloc2_old w _ _)
  have HLB : Hid (w1.heap[w.heap.size + 1]? = some (.cells #[Value.bool b1, Value.slice p1 n1 c1, Value.slice p2 n2 c2] 24 (0, 0))) := Lib.hid (by rw [hw1]; exact heap_alloc2_new w _ _)
  have HW1 := Lib.hid hw1.symm
  clear hw1
  have RX := Lib.hid (cells_later HXB.out)
  have RL := Lib.hid (cells_later HLB.out)
  have HF : Hid (Calls Try.prog 12 #[.int .i64 12, .slice (some ⟨w.heap.size + 1, 0, none⟩) 1 1] w1 fun e w' => e = .returned (.bool (fewB 12 1 (at3 n1 0 0) (at3 n2 0 0))) ∧ w1 = w') := Lib.hid (by
    refine few_w (n := 12) (k := 1) (by omega) fun _ => ⟨_, _, rfl, fun i hi => ?_⟩
    have hz := Below.refl w1.heap.size w1
    match i, hi with
    | 0, _ => exact ⟨_, _, _, _, RL.out 1 _ rfl _ hz, RL.out 2 _ rfl _ hz⟩)
  by_cases hf : fewB 12 1 (at3 n1 0 0) (at3 n2 0 0) = true
  · rw [hf] at HF
    have hf' : ∀ i, i < 1 → at3 n1 0 0 i ≤ 12 ∧ at3 n2 0 0 i ≤ 12 := by simpa [fewB] using hf
    obtain ⟨A0, hA0⟩ := HX.out.few (n := 12) (by omega) (hf' 0 (by omega)).1 (hf' 0 (by omega)).2
    have hl0 := hA0.len
    obtain ⟨b, l, m, hA, hAe, hl, hm⟩ := hA0
    clear hf hf'
    have HA := Lib.hid (hA.below HB1.out)
    have HL := Lib.hid hl
    have HM := Lib.hid hm
    rw [hAe] at hl0
    have KC := Lib.hid (rcopy_w HA.out (by have := HL.out; omega) (by have := HM.out; omega))
    have KP1 := Lib.hid (fun w' x (h : RawF w' x b l m) => print_w (w := w') h)
    have KP2 := Lib.hid (fun w' (hb : Below w1.heap.size w1 w') => rprint_w (w := w') (HA.out.below hb) (by have := HL.out; have := HM.out; omega))
    have KF := Lib.hid (fun w' (hb : Below w1.heap.size w1 w') => rfix_w (w := w') (HA.out.below hb) (by have := HL.out; have := HM.out; omega))
    obtain ⟨Q, hQ⟩ : ∃ Q, Q = fixR b l m := ⟨_, rfl⟩
    rw [← hQ] at KP1 KP2 KF hl0
    have HPL := Lib.hid (print_len hl0)
    have K1 := Lib.hid (fun w' => parse_w (w := w') (print_bytes Q) (by have := HPL.out; omega))
    have K2 := Lib.hid (fun w' => rparse_w (w := w') (print_bytes Q) (by have := HPL.out; omega))
    rw [parse_print (by omega)] at K1 K2
    have HQL : Hid (lenQ Q ≤ 4096) := Lib.hid (by omega)
    obtain ⟨s, hs⟩ : ∃ s, s = strL (printL Q) := ⟨_, rfl⟩
    rw [← hs] at KP1 KP2 K1 K2
    obtain ⟨ok, hok⟩ : ∃ ok, ok = parseOK (printL Q) := ⟨_, rfl⟩
    rw [← hok] at K1 K2
    have hss : (s.toList == s.toList) = true := by simp
    clear hA hAe hl hm hl0 hQ hs hok HPL
    have hz1 := Below.refl w1.heap.size w1
    have x0 := RX.out 0 _ rfl _ hz1
    have x1 := RX.out 1 _ rfl _ hz1
    have x2 := RX.out 2 _ rfl _ hz1
    go_enter Try.func9, Try.ntmps9
    go_wp2_with fail
    rw [HW1.out]
    refine HF.out.mono ?_
    rintro en0 w0 ⟨rfl, rfl⟩
    go_wp2_with fail
    refine KC.out.mono ?_
    rintro en2 w2 ⟨⟨v2, rfl, f2⟩, hb2⟩
    obtain ⟨a2, n2', c2', i2, j2, k2, hq2⟩ := raw_form f2
    subst hq2
    go_wp2_with ((with_reducible refine at_store ?_); refine wpList_store_var rfl _ _ _ rfl w2.heap.size rfl _ rfl _ _ (heap_alloc_new _ _) ifrac rfl frac_one ?_; intro w3 h3 hon3; refine halt ?_)
    have hb3 : Below w2.heap.size w2 w3 := below_only ((Below.refl _ _).alloc (Nat.le_refl _) _) hon3 (Nat.le_refl _)
    have hz3 := below_trans hb2 hb3
    have RC := Lib.hid (cells_later h3)
    have HF3 := Lib.hid (f2.below hb3)
    clear h3 hon3 hb3 hb2 f2 x0 x1 x2
    refine go_on ?_
    have t0 := RC.out 0 _ rfl _ (Below.refl _ _)
    have t1 := RC.out 1 _ rfl _ (Below.refl _ _)
    have t2 := RC.out 2 _ rfl _ (Below.refl _ _)
    go_wp2_with fail
    refine (KP1.out _ _ HF3.out).mono ?_
    rintro en4 w4 ⟨rfl, hb4⟩
    have hz4 := below_trans hz3 hb4
    clear t0 t1 t2
    have x0 := RX.out 0 _ rfl _ hz4
    have x1 := RX.out 1 _ rfl _ hz4
    have x2 := RX.out 2 _ rfl _ hz4
    go_wp2_with fail
    refine (KP2.out _ hz4).mono ?_
    rintro en5 w5 ⟨rfl, hb5⟩
    have hz5 := below_trans hz4 hb5
    clear x0 x1 x2
    cases ok with
    | false =>
      go_wp2_with fail
      refine (K1.out _).mono ?_
      rintro en6 w6 ⟨he6, hb6⟩
      obtain rfl : en6 = _ := by simpa using he6
      go_wp2_with ((with_reducible refine at_store ?_); refine wpList_store_var rfl _ _ _ rfl w6.heap.size rfl _ rfl _ _ (heap_alloc_new _ _) ifrac rfl frac_one ?_; intro w7 h7 hon7; refine halt ?_)
      have hb7 : Below w6.heap.size w6 w7 := below_only ((Below.refl _ _).alloc (Nat.le_refl _) _) hon7 (Nat.le_refl _)
      have hz7 := below_trans hz5 (below_trans hb6 hb7)
      have RF := Lib.hid (cells_later h7)
      clear h7 hon7 hb7 hb6 he6
      refine go_on ?_
      go_wp2_with fail
      refine (K2.out _).mono ?_
      rintro en8 w8 ⟨he8, hb8⟩
      obtain rfl : en8 = _ := by simpa using he8
      go_wp2_with ((with_reducible refine at_store ?_); refine wpList_store_var rfl _ _ _ rfl w8.heap.size rfl _ rfl _ _ (heap_alloc_new _ _) ifrac rfl frac_one ?_; intro w9 h9 hon9; refine halt ?_)
      have hb9 : Below w8.heap.size w8 w9 := below_only ((Below.refl _ _).alloc (Nat.le_refl _) _) hon9 (Nat.le_refl _)
      have hz9 := below_trans hz7 (below_trans hb8 hb9)
      clear h9 hon9 hb9 hb8 he8
      refine go_on ?_
      go_wp2_with fail
      go_quiet (fail)
      go_wp2_with fail
      go_ret
      exact ⟨rfl, below_drewN (below_trans HB1.out hz9) _⟩
    | true =>
      go_wp2_with fail
      refine (K1.out _).mono ?_
      rintro en6 w6 ⟨he6, hb6⟩
      obtain ⟨v6, rfl, f6⟩ : ∃ r, en6 = .returned (.tuple #[r, .int .i64 0]) ∧ FracV w6 r Q := by simpa using he6
      obtain ⟨a6, n6, c6, i6, j6, k6, hq6⟩ := frac_form f6
      subst hq6
      go_wp2_with ((with_reducible refine at_store ?_); refine wpList_store_var rfl _ _ _ rfl w6.heap.size rfl _ rfl _ _ (heap_alloc_new _ _) ifrac rfl frac_one ?_; intro w7 h7 hon7; refine halt ?_)
      have hb7 : Below w6.heap.size w6 w7 := below_only ((Below.refl _ _).alloc (Nat.le_refl _) _) hon7 (Nat.le_refl _)
      have hz7 := below_trans hz5 (below_trans hb6 hb7)
      have RF := Lib.hid (cells_later h7)
      have HF7 := Lib.hid (f6.below hb7)
      clear h7 hon7 hb7 hb6 he6 f6
      refine go_on ?_
      go_wp2_with fail
      refine (K2.out _).mono ?_
      rintro en8 w8 ⟨he8, hb8⟩
      obtain ⟨v8, rfl, f8⟩ : ∃ r, en8 = .returned (.tuple #[r, .int .i64 0]) ∧ FracV w8 r Q := by simpa using he8
      obtain ⟨a8, n8, c8, i8, j8, k8, hq8⟩ := frac_form f8
      subst hq8
      go_wp2_with ((with_reducible refine at_store ?_); refine wpList_store_var rfl _ _ _ rfl w8.heap.size rfl _ rfl _ _ (heap_alloc_new _ _) ifrac rfl frac_one ?_; intro w9 h9 hon9; refine halt ?_)
      have hb9 : Below w8.heap.size w8 w9 := below_only ((Below.refl _ _).alloc (Nat.le_refl _) _) hon9 (Nat.le_refl _)
      have hy9 := below_trans hb8 hb9
      have hz9 := below_trans hz7 hy9
      have QX := Lib.hid (fun o v (h : (#[Value.bool b1, Value.slice p1 n1 c1, Value.slice p2 n2 c2] : Array Value)[o]? = some v) w' (hb : Below w9.heap.size w9 w') => RX.out o v h w' (below_trans hz9 hb))
      have QF := Lib.hid (fun o v (h : (#[Value.bool (decide (Q.num < 0)), Value.slice a6 n6 c6, Value.slice i6 j6 k6] : Array Value)[o]? = some v) w' (hb : Below w9.heap.size w9 w') => RF.out o v h w' (below_trans hy9 hb))
      have HF9 := Lib.hid (HF7.out.below hy9)
      have HZ9 := Lib.hid (below_trans HB1.out hz9)
      have KF9 := Lib.hid (fun w' (hb : Below w9.heap.size w9 w') => KF.out w' (below_trans hz9 hb))
      clear h9 hon9 hb9 hb8 he8 f8
      have hw9 := Below.refl w9.heap.size w9
      have x0 := QX.out 0 _ rfl _ hw9
      have x1 := QX.out 1 _ rfl _ hw9
      have x2 := QX.out 2 _ rfl _ hw9
      have y0 := QF.out 0 _ rfl _ hw9
      have y1 := QF.out 1 _ rfl _ hw9
      have y2 := QF.out 2 _ rfl _ hw9
      refine go_on ?_
      go_wp2_with fail
      have hz0 : Below w9.heap.size w9 w9.drew := below_drewN hw9 1
      go_region_held3 (fun w' => w'.cell? ⟨w.heap.size, 0, none⟩ = some (.bool b1) ∧ w'.cell? ⟨w.heap.size, 1, none⟩ = some (.slice p1 n1 c1) ∧ w'.cell? ⟨w.heap.size, 2, none⟩ = some (.slice p2 n2 c2) ∧ w'.cell? ⟨w6.heap.size, 0, none⟩ = some (.bool (decide (Q.num < 0))) ∧ w'.cell? ⟨w6.heap.size, 1, none⟩ = some (.slice a6 n6 c6) ∧ w'.cell? ⟨w6.heap.size, 2, none⟩ = some (.slice i6 j6 k6))
        (((try dsimp only); refine ⟨?_, ?_, ?_, ?_, ?_, ?_⟩ <;> (first | exact QX.out _ _ rfl _ (by assumption) | exact QF.out _ _ rfl _ (by assumption) | go_keep)))
        (first | (go_at_call 18; refine (KF9.out _ hz0).mono ?_; rintro en10 w10 ⟨⟨v10, rfl, f10⟩, hb10⟩; obtain ⟨a10, n10, c10, i10, j10, k10, hq10⟩ := frac_form f10; subst hq10; have hz10 := below_trans hz0 hb10) | (go_at_call 16; refine (same_w (HF9.out.below hz10) f10 HQL.out).mono ?_; rintro en11 w11 ⟨rfl, hb11⟩; have hz11 := below_trans hz10 hb11))
      go_wp2_with fail
      go_ret
      exact ⟨rfl, below_trans HZ9.out hz11⟩
  · have hf' : fewB 12 1 (at3 n1 0 0) (at3 n2 0 0) = false := by simpa using hf
    rw [hf'] at HF
    clear hf hf'
    have hz1 := Below.refl w1.heap.size w1
    have x0 := RX.out 0 _ rfl _ hz1
    have x1 := RX.out 1 _ rfl _ hz1
    have x2 := RX.out 2 _ rfl _ hz1
    go_enter Try.func9, Try.ntmps9
    go_wp2_with fail
    rw [HW1.out]
    refine HF.out.mono ?_
    rintro en0 w0 ⟨rfl, rfl⟩
    go_wp2_with fail
    go_ret
    exact ⟨rfl, HB1.out⟩
end Go.Proofs.Ytebgkfcglmjokaa

/- FracPrint answers true at every input, and what it is handed reads behind the call as it read before: any words of at most 12 a number are written as the reference writes them, and read again as the reference reads them. No conditions. -/
namespace Go.Proofs.Ytebgkfcglmjokaa
open Go.ChangeShapes Go.WideShapes Go.ChangeAt Go.RowKit

set_option maxRecDepth 100000 in
theorem prints_lifted (os : Os) (started : os.Started) (H : Type) (enc : TypeId × Value → H) :
    ReturnsInHanded {} Try.checked os 9 .any (Rows.fracPrintSpec.pre6 enc Try.prog Try.f9 Rows.fracPrintRow.domain false) (Rows.fracPrintSpec.post enc Try.prog Try.f9 false true false false) := by
  refine returnsInHanded_of_change (C := Try.checked) own_knob started (by kernel_rfl) Try.func9
    (ChangeSpec.witness6 (enc := enc) (C := Try.checked) false ⟨#[], #[.agg #[.bool false, .slice none 0 0, .slice none 0 0]], []⟩ 8 (by kernel_rfl) (by kernel_rfl) (by kernel_rfl) (by kernel_rfl)) ?_
  intro W base args ds gs before hval0 hW hcnd _
  have hval : ∀ (j : Nat) t v, Try.f9.params[j]? = some t → args[j]? = some v → Value.okWide Try.prog W .any base t v := hval0
  have hW' := hW
  obtain ⟨p, q, hA0, hV, rfl, hfz, hnd⟩ := hW
  have hA : DataW.TrodAll enc Try.prog W 0 (fun _ => true) true Try.f9.params.toList args.toList ds p := hA0
  rw [Try.params9] at hA hval
  obtain ⟨v0, vs0, d0, ds0, p0, q0, hargs, rfl, rfl, h0, r0⟩ := trodAll_cons hA
  obtain ⟨rfl, rfl, rfl⟩ := trodAll_nil r0
  obtain rfl : args = #[v0] := by cases args; simp_all
  obtain ⟨rfl, rfl⟩ := trodVars_none hV
  have k0 := h0
  have lt0 : ∀ x ∈ p0, x.block < W.heap.size := by obtain ⟨m, hm⟩ := k0; exact DataW.trod_lt m _ _ _ hm
  obtain ⟨b0, a01, n01, c01, a02, n02, c02, w0⟩ := frac_in (hval 0 24 v0 rfl rfl) h0
  clear hA0 hval0
  refine (print_walk w0).mono fun e W' ⟨he, bel⟩ => ?_
  subst he
  exact ⟨_, rfl, _, _, _, [], _, [], hW', trodAll_mk1 (shut_bool Try.underlying4 _), (trodAll_cons_mk (Below.trod laid_out (by kernel_rfl) (of_decide_eq_true (by kernel_rfl)) k0 bel lt0) trodAll_mk0), rfl, bel.frame _, fun h => by cases h⟩

theorem prints_holds : Rows.FracPrintSaid :=
  OpenClaim.holds_of_wide 9 Try.f9 rfl rfl rfl rfl rfl rfl rfl ⟨rfl, rfl, rfl, rfl, rfl⟩ rfl rfl rfl rfl rfl (by kernel_rfl) Try.func9 (by kernel_rfl)
    (of_decide_eq_true (by kernel_rfl)) (by unfold Func.isWrapper; first | (rw [if_pos (by decide +kernel)]; kernel_rfl) | (rw [if_neg (by decide +kernel)]; exact ⟨rfl, rfl⟩))
    (fun os started H enc _ => prints_lifted os started H enc)
end Go.Proofs.Ytebgkfcglmjokaa
