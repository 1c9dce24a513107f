/- FracFix answers true at every input, and what it is handed reads behind the call as it read before: any words of at most 12 a number are told right or not, and fixed, as the reference does. No conditions. -/
/- FracFix: the walk. -/
import Derived.Test.YtebgkfcglmjokaaS1
import Derived.Test.YtebgkfcglmjokaaT2
import Derived.Deep.DrawnRows
namespace Go.Proofs.Ytebgkfcglmjokaa
open Go.RowKit
attribute [local go_sem ↓] Go.wp_at_zero Go.wp_at_succ

theorem raw_form {w : World} {r : Value} {b : Bool} {l m : List Nat} (h : RawF w r b l m) : ∃ a n c i j k, r = .agg #[.bool b, .slice a n c, .slice i j k] := by
  obtain ⟨u, d, rfl, hu, hd⟩ := h
  obtain ⟨a, n, c, rfl⟩ := hu.form
  obtain ⟨i, j, k, rfl⟩ := hd.form
  exact ⟨a, n, c, i, j, k, rfl⟩

set_option maxRecDepth 100000 in
set_option maxHeartbeats 4000000 in
theorem fix_walk {w : World} {x : Value} {b1 : Bool} {p1 p2 : Option Addr} {n1 c1 n2 c2 : Nat} (hx : FracI w x b1 p1 n1 c1 p2 n2 c2) :
    Calls Try.prog 3 #[x] w fun e w' => e = .returned (.bool true) ∧ Below w.heap.size w w' := by
  have HX := Lib.hid hx
  obtain ⟨rfl, -, -⟩ := hx
  obtain ⟨w1, hw1⟩ : ∃ w1, w1 = (w.alloc (Obj.cells #[Value.bool b1, Value.slice p1 n1 c1, Value.slice p2 n2 c2] 24)).alloc (Obj.cells #[Value.bool b1, Value.slice p1 n1 c1, Value.slice p2 n2 c2] 24) := ⟨_, rfl⟩
  have HB1 : Hid (Below w.heap.size w w1) := Lib.hid (by rw [hw1]; exact ((Below.refl _ _).alloc (Nat.le_refl _) _).alloc (by simp) _)
  have HXB : Hid (w1.heap[w.heap.size]? = some (.cells #[Value.bool b1, Value.slice p1 n1 c1, Value.slice p2 n2 c2] 24 (0, 0))) := Lib.hid (by rw [hw1]; exact heap_alloc2_old w _ _)
  have HLB : Hid (w1.heap[w.heap.size + 1]? = some (.cells #[Value.bool b1, Value.slice p1 n1 c1, Value.slice p2 n2 c2] 24 (0, 0))) := Lib.hid (by rw [hw1]; exact heap_alloc2_new w _ _)
  have HW1 := Lib.hid hw1.symm
  clear hw1
  have RX := Lib.hid (cells_later HXB.out)
  have RL := Lib.hid (cells_later HLB.out)
  have HF : Hid (Calls Try.prog 12 #[.int .i64 12, .slice (some ⟨w.heap.size + 1, 0, none⟩) 1 1] w1 fun e w' => e = .returned (.bool (fewB 12 1 (at3 n1 0 0) (at3 n2 0 0))) ∧ w1 = w') := Lib.hid (by
    refine few_w (n := 12) (k := 1) (by omega) fun _ => ⟨_, _, rfl, fun i hi => ?_⟩
    have hz := Below.refl w1.heap.size w1
    match i, hi with
    | 0, _ => exact ⟨_, _, _, _, RL.out 1 _ rfl _ hz, RL.out 2 _ rfl _ hz⟩)
  by_cases hf : fewB 12 1 (at3 n1 0 0) (at3 n2 0 0) = true
  · rw [hf] at HF
    have hf' : ∀ i, i < 1 → at3 n1 0 0 i ≤ 12 ∧ at3 n2 0 0 i ≤ 12 := by simpa [fewB] using hf
    obtain ⟨A, b, l, m, hA, -, hl, hm⟩ := HX.out.few (n := 12) (by omega) (hf' 0 (by omega)).1 (hf' 0 (by omega)).2
    clear hf hf'
    have HA := Lib.hid hA
    have HL := Lib.hid hl
    have HM := Lib.hid hm
    clear hA hl hm
    have KC := Lib.hid (rcopy_w (HA.out.below HB1.out) (by have := HL.out; omega) (by have := HM.out; omega))
    obtain ⟨R, hR⟩ : ∃ R, R = rightB b l m := ⟨_, rfl⟩
    obtain ⟨Q, hQ⟩ : ∃ Q, Q = fixR b l m := ⟨_, rfl⟩
    have HQL : Hid (lenQ Q ≤ 4096) := Lib.hid (by rw [hQ]; obtain ⟨u, d, _, hu, hd⟩ := HA.out; exact fix_len hu.ws hd.ws)
    have K14 := Lib.hid (fun w' (y : Value) (h : RawF w' y b l m) => right_w (w := w') h)
    rw [← hR] at K14
    have K15 := Lib.hid (fun w' (hb : Below w1.heap.size w1 w') => rright_w (w := w') (HA.out.below (below_trans HB1.out hb)) (by have := HL.out; have := HM.out; omega))
    rw [← hR] at K15
    have K17 := Lib.hid (fun w' (y : Value) (h : RawF w' y b l m) => fix_w (w := w') h)
    rw [← hQ] at K17
    have K18 := Lib.hid (fun w' (hb : Below w1.heap.size w1 w') => rfix_w (w := w') (HA.out.below (below_trans HB1.out hb)) (by have := HL.out; have := HM.out; omega))
    rw [← hQ] at K18
    clear hR hQ
    have hz1 := Below.refl w1.heap.size w1
    go_enter Try.func3, Try.ntmps3
    go_wp2_with fail
    rw [HW1.out]
    refine HF.out.mono ?_
    rintro en0 w0 ⟨rfl, rfl⟩
    have x0 := RX.out 0 _ rfl _ hz1
    have x1 := RX.out 1 _ rfl _ hz1
    have x2 := RX.out 2 _ rfl _ hz1
    go_wp2_with fail
    refine KC.out.mono ?_
    rintro en2 w2 ⟨⟨v2, rfl, f2⟩, hb2⟩
    have hz2 := below_trans hz1 hb2
    obtain ⟨a2, n2', c2', i2, j2, k2, hq2⟩ := raw_form f2
    subst hq2
    have HF2 := Lib.hid f2
    clear f2
    go_wp2_with ((with_reducible refine at_store ?_); refine wpList_store_var rfl _ _ _ rfl w2.heap.size rfl _ rfl _ _ (heap_alloc_new _ _) ifrac rfl frac_one ?_; intro w3 h3 hon3; refine halt ?_)
    have hb3 : Below w2.heap.size w2 w3 := below_only ((Below.refl _ _).alloc (Nat.le_refl _) _) hon3 (Nat.le_refl _)
    have hz3 := below_trans hz2 hb3
    have RC := Lib.hid (cells_later h3)
    have HF3 := Lib.hid (HF2.out.below hb3)
    clear h3 hon3 x0 x1 x2
    refine go_on ?_
    have hz0 : Below w1.heap.size w1 w3.drew := below_drewN hz3 1
    have hy0 : Below w3.heap.size w3 w3.drew := below_drewN (Below.refl _ _) 1
    have x0 := RX.out 0 _ rfl _ hz3
    have x1 := RX.out 1 _ rfl _ hz3
    have x2 := RX.out 2 _ rfl _ hz3
    have t0 := RC.out 0 _ rfl _ (Below.refl _ _)
    have t1 := RC.out 1 _ rfl _ (Below.refl _ _)
    have t2 := RC.out 2 _ rfl _ (Below.refl _ _)
    go_wp2_with fail
    go_region_held3 (fun w' => w'.cell? ⟨w.heap.size, 0, none⟩ = some (.bool b1) ∧ w'.cell? ⟨w.heap.size, 1, none⟩ = some (.slice p1 n1 c1) ∧ w'.cell? ⟨w.heap.size, 2, none⟩ = some (.slice p2 n2 c2) ∧ w'.cell? ⟨w2.heap.size, 0, none⟩ = some (.bool b) ∧ w'.cell? ⟨w2.heap.size, 1, none⟩ = some (.slice a2 n2' c2') ∧ w'.cell? ⟨w2.heap.size, 2, none⟩ = some (.slice i2 j2 k2))
      (((try dsimp only); refine ⟨?_, ?_, ?_, ?_, ?_, ?_⟩ <;> (first | exact RX.out _ _ rfl _ (by assumption) | exact RC.out _ _ rfl _ (by assumption) | go_keep)))
      (first | (go_at_call 14; refine (K14.out _ _ (HF3.out.below hy0)).mono ?_; rintro en14 w14 ⟨rfl, hb14⟩; have hz14 := below_trans hz0 hb14; have hy14 := below_trans hy0 hb14) | (go_at_call 15; refine (K15.out _ hz14).mono ?_; rintro en15 w15 ⟨rfl, hb15⟩; have hz15 := below_trans hz14 hb15; have hy15 := below_trans hy14 hb15) | (go_at_call 17; refine (K17.out _ _ (HF3.out.below hy15)).mono ?_; rintro en17 w17 ⟨⟨v17, rfl, f17, g17⟩, hb17⟩; obtain ⟨a17, n17, c17, i17, j17, k17, hq17⟩ := frac_form f17; subst hq17; have hz17 := below_trans hz15 hb17; have hy17 := below_trans hy15 hb17) | (go_at_call 18; refine (K18.out _ hz17).mono ?_; rintro en18 w18 ⟨⟨v18, rfl, f18⟩, hb18⟩; obtain ⟨a18, n18, c18, i18, j18, k18, hq18⟩ := frac_form f18; subst hq18; have hz18 := below_trans hz17 hb18; have hy18 := below_trans hy17 hb18) | (go_at_call 16; refine (same_w (f17.below hb18) f18 HQL.out).mono ?_; rintro en19 w19 ⟨rfl, hb19⟩; have hz19 := below_trans hz18 hb19; have hy19 := below_trans hy18 hb19) | (go_at_call 19; refine half_w.mono ?_; rintro en20 w20 ⟨rfl, hb20⟩; have hz20 := below_trans hz19 hb20; have hy20 := below_trans hy19 hb20))
    go_wp2_with fail
    go_ret
    exact ⟨rfl, below_trans HB1.out hz20⟩
  · have hf' : fewB 12 1 (at3 n1 0 0) (at3 n2 0 0) = false := by simpa using hf
    rw [hf'] at HF
    clear hf hf'
    go_enter Try.func3, Try.ntmps3
    go_wp2_with fail
    rw [HW1.out]
    refine HF.out.mono ?_
    rintro en0 w0 ⟨rfl, rfl⟩
    go_wp2_with fail
    go_ret
    exact ⟨rfl, HB1.out⟩
end Go.Proofs.Ytebgkfcglmjokaa

/- FracFix answers true at every input, and what it is handed reads behind the call as it read before: any words of at most 12 a number are told right or not, and fixed, as the reference does. No conditions. -/
namespace Go.Proofs.Ytebgkfcglmjokaa
open Go.ChangeShapes Go.WideShapes Go.ChangeAt Go.RowKit

set_option maxRecDepth 100000 in
theorem fixed_lifted (os : Os) (started : os.Started) (H : Type) (enc : TypeId × Value → H) :
    ReturnsInHanded {} Try.checked os 3 .any (Rows.fracFixSpec.pre6 enc Try.prog Try.f3 Rows.fracFixRow.domain false) (Rows.fracFixSpec.post enc Try.prog Try.f3 false true false false) := by
  refine returnsInHanded_of_change (C := Try.checked) own_knob started (by kernel_rfl) Try.func3
    (ChangeSpec.witness6 (enc := enc) (C := Try.checked) false ⟨#[], #[.agg #[.bool false, .slice none 0 0, .slice none 0 0]], []⟩ 8 (by kernel_rfl) (by kernel_rfl) (by kernel_rfl) (by kernel_rfl)) ?_
  intro W base args ds gs before hval0 hW hcnd _
  have hval : ∀ (j : Nat) t v, Try.f3.params[j]? = some t → args[j]? = some v → Value.okWide Try.prog W .any base t v := hval0
  have hW' := hW
  obtain ⟨p, q, hA0, hV, rfl, hfz, hnd⟩ := hW
  have hA : DataW.TrodAll enc Try.prog W 0 (fun _ => true) true Try.f3.params.toList args.toList ds p := hA0
  rw [Try.params3] at hA hval
  obtain ⟨v0, vs0, d0, ds0, p0, q0, hargs, rfl, rfl, h0, r0⟩ := trodAll_cons hA
  obtain ⟨rfl, rfl, rfl⟩ := trodAll_nil r0
  obtain rfl : args = #[v0] := by cases args; simp_all
  obtain ⟨rfl, rfl⟩ := trodVars_none hV
  have k0 := h0
  have lt0 : ∀ x ∈ p0, x.block < W.heap.size := by obtain ⟨m, hm⟩ := k0; exact DataW.trod_lt m _ _ _ hm
  obtain ⟨b0, a01, n01, c01, a02, n02, c02, w0⟩ := frac_in (hval 0 24 v0 rfl rfl) h0
  clear hA0 hval0
  refine (fix_walk w0).mono fun e W' ⟨he, bel⟩ => ?_
  subst he
  exact ⟨_, rfl, _, _, _, [], _, [], hW', trodAll_mk1 (shut_bool Try.underlying4 _), (trodAll_cons_mk (Below.trod laid_out (by kernel_rfl) (of_decide_eq_true (by kernel_rfl)) k0 bel lt0) trodAll_mk0), rfl, bel.frame _, fun h => by cases h⟩

theorem fixed_holds : Rows.FracFixSaid :=
  OpenClaim.holds_of_wide 3 Try.f3 rfl rfl rfl rfl rfl rfl rfl ⟨rfl, rfl, rfl, rfl, rfl⟩ rfl rfl rfl rfl rfl (by kernel_rfl) Try.func3 (by kernel_rfl)
    (of_decide_eq_true (by kernel_rfl)) (by unfold Func.isWrapper; first | (rw [if_pos (by decide +kernel)]; kernel_rfl) | (rw [if_neg (by decide +kernel)]; exact ⟨rfl, rfl⟩))
    (fun os started H enc _ => fixed_lifted os started H enc)
end Go.Proofs.Ytebgkfcglmjokaa
