/- PlaneJudges answers true at every input: of any program and certificate Judge tells what the reference tells. No conditions. -/
import Derived.Test.YtlaphdlocchagaaGreatZ41
import Derived.Test.YtlaphdlocchagaaGreatRows
import Derived.WalkKit
import Derived.ProofKit
namespace Go.Proofs.YtlaphdlocchagaaGreat
open Go.ChangeShapes Go.WideShapes Go.ChangeAt Go.RowKit
section
attribute [local go_sem ↓] Go.wp_at_zero Go.wp_at_succ
set_option maxRecDepth 100000 in
set_option maxHeartbeats 8000000 in
theorem judges_walk {w : World} {v c : Value} {z : Int} {fa : Option Addr} {fn fc : Nat} {ga : Option Addr} {gn gc : Nat} {ra : Option Addr} {rn rc : Nat} {k : Int} {xa : Option Addr} {xn xc : Nat} {ya : Option Addr} {yn yc : Nat} {za : Option Addr} {zn zc : Nat} (h : ProgI w v z fa fn fc ga gn gc ra rn rc) (hc : CertI w c k xa xn xc ya yn yc za zn zc) :
    Calls Tryz.prog 3 #[v, c] w fun e w' => e = .returned (.bool true) ∧ Below w.heap.size w w' := by
  have HP := Lib.hid h
  have HC := Lib.hid hc
  obtain ⟨rfl, hz1, hz2, -⟩ := h
  obtain ⟨rfl, -⟩ := hc
  obtain ⟨w1, hw1⟩ : ∃ w1, w1 = (w.alloc (Obj.cells #[Value.int .i64 z, Value.slice fa fn fc, Value.slice ga gn gc, Value.slice ra rn rc] 26)).alloc (Obj.cells #[Value.int .i64 k, Value.slice xa xn xc, Value.slice ya yn yc, Value.slice za zn zc] 28) := ⟨_, rfl⟩
  have HB1 : Hid (Below w.heap.size w w1) := Lib.hid (by rw [hw1]; exact ((Below.refl _ _).alloc (Nat.le_refl _) _).alloc (by simp) _)
  have HX1 : Hid (w1.heap[w.heap.size]? = some (.cells #[Value.int .i64 z, Value.slice fa fn fc, Value.slice ga gn gc, Value.slice ra rn rc] 26 (0, 0))) := Lib.hid (by rw [hw1]; exact heap_alloc2_old w _ _)
  have HC1 : Hid (w1.heap[w.heap.size + 1]? = some (.cells #[Value.int .i64 k, Value.slice xa xn xc, Value.slice ya yn yc, Value.slice za zn zc] 28 (0, 0))) := Lib.hid (by rw [hw1]; exact heap_alloc2_new w _ _)
  have HW1 := Lib.hid hw1.symm
  clear hw1
  have RX := Lib.hid (cells_later HX1.out)
  have RC := Lib.hid (cells_later HC1.out)
  have hb1 := Below.refl w1.heap.size w1
  have x0 := RX.out 0 _ rfl _ hb1
  have x1 := RX.out 1 _ rfl _ hb1
  have x2 := RX.out 2 _ rfl _ hb1
  have x3 := RX.out 3 _ rfl _ hb1
  have KW : Hid (Calls Tryz.prog 6 #[.agg #[.int .i64 z, .slice fa fn fc, .slice ga gn gc, .slice ra rn rc], .int .i64 20, .int .i64 30] w1 fun e w' => (∃ bb, e = .returned (.bool bb) ∧ (bb = true → Small w 6 20 30 z fn ga gn ra rn)) ∧ Below w1.heap.size w1 w') := Lib.hid (by
    have h9 := within_w (V := 20) (R := 30) (HP.out.below HB1.out) (by omega) (by omega)
    refine h9.mono fun e w' h => ?_
    obtain ⟨⟨bb, he, hs⟩, hb⟩ := h
    exact ⟨⟨bb, he, fun e9 => (hs e9).back HP.out HB1.out⟩, hb⟩)
  go_enter Tryz.func3, Tryz.ntmps3
  go_wp2_with fail
  rw [HW1.out]
  refine KW.out.mono ?_
  rintro en2 w2 ⟨⟨bb2, rfl, hs2⟩, hb2⟩
  have HZ2 := Lib.hid hb2
  clear hb2
  cases bb2 with
  | false =>
    clear hs2
    go_wp2_with fail
    go_ret
    exact ⟨rfl, below_trans HB1.out HZ2.out⟩
  | true =>
  have HSM := Lib.hid (hs2 rfl)
  clear hs2
  have c0 := RC.out 0 _ rfl _ HZ2.out
  have c1 := RC.out 1 _ rfl _ HZ2.out
  have c2 := RC.out 2 _ rfl _ HZ2.out
  have c3 := RC.out 3 _ rfl _ HZ2.out
  have HCI : Hid (CertI w2 _ k xa xn xc ya yn yc za zn zc) := Lib.hid (HC.out.below (below_trans HB1.out HZ2.out))
  have KX := Lib.hid (certs_w (M := 31) HCI.out (by omega))
  go_wp2_with fail
  refine KX.out.mono ?_
  rintro en3 w3 ⟨⟨bb3, rfl, hs3⟩, hb3⟩
  have HB3 := Lib.hid hb3
  have HZ3 := Lib.hid (below_trans HZ2.out hb3)
  clear hb3
  cases bb3 with
  | false =>
    clear hs3
    go_wp2_with fail
    go_ret
    exact ⟨rfl, below_trans HB1.out HZ3.out⟩
  | true =>
  have HWX := Lib.hid (hs3 rfl)
  clear hs3
  obtain ⟨P, hPF, hPz, hPf, hPg, hPr, -⟩ := HP.out.progF (by omega) HSM.out.2.2.2.2.1 HSM.out.2.2.2.2.2
  obtain ⟨xs, hxl, hXF⟩ := HCI.out.2.2.2.1.listF (by omega) HWX.out.2.1
  obtain ⟨ys, hyl, hYF⟩ := HCI.out.2.2.2.2.1.listF (by omega) HWX.out.2.2.1
  obtain ⟨zs, hzl, hZF⟩ := HCI.out.2.2.2.2.2.listF (by omega) HWX.out.2.2.2
  have HPF := Lib.hid ((hPF.below (below_trans HB1.out HZ2.out)).up (show 6 ≤ 12 by omega))
  have HCF : Hid (CertF 12 w2 (.agg #[.int .i64 k, .slice xa xn xc, .slice ya yn yc, .slice za zn zc]) k xs ys zs) := Lib.hid ⟨xa, xc, ya, yc, za, zc, by rw [hxl, hyl, hzl], by rw [← hxl]; exact hXF, by rw [← hyl]; exact hYF, by rw [← hzl]; exact hZF⟩
  have HFIT : Hid (Fit P) := Lib.hid (by obtain ⟨s1, s2, s3, s4, -, -⟩ := HSM.out; refine ⟨?_, ?_, ?_, ?_⟩ <;> omega)
  have HSZ : Hid (SizesC 12 P xs zs) := Lib.hid (by obtain ⟨s1, s2, s3, s4, -, -⟩ := HSM.out; obtain ⟨⟨m1, m2, m3⟩, -⟩ := HWX.out; refine ⟨HFIT.out, ?_, ?_, ?_, ?_, ?_, ?_, ⟨?_, ?_⟩, ?_, ?_⟩ <;> omega)
  have K1 := Lib.hid (fun w' (hb : Below w2.heap.size w2 w') => pjudge_w (HPF.out.below hb) (HCF.out.below hb) HSZ.out)
  have K2 := Lib.hid (fun w' (hb : Below w2.heap.size w2 w') => rjudge_w (HPF.out.below hb) (HCF.out.below hb) HSZ.out)
  obtain ⟨jb, hjb⟩ : ∃ jb, jb = judgeQ P k xs ys zs := ⟨_, rfl⟩
  rw [← hjb] at K1 K2
  have e2 : (jb == jb) = true := by simp
  clear hjb hPz hPf hPg hPr hxl hyl hzl hPF hXF hYF hZF c0 c1 c2 c3
  have hb30 : Below w2.heap.size w2 w3.drew := below_drewN HB3.out 1
  have hz0 : Below w1.heap.size w1 w3.drew := below_drewN HZ3.out 1
  have x0 := RX.out 0 _ rfl _ HZ3.out
  have x1 := RX.out 1 _ rfl _ HZ3.out
  have x2 := RX.out 2 _ rfl _ HZ3.out
  have x3 := RX.out 3 _ rfl _ HZ3.out
  have c0 := RC.out 0 _ rfl _ HZ3.out
  have c1 := RC.out 1 _ rfl _ HZ3.out
  have c2 := RC.out 2 _ rfl _ HZ3.out
  have c3 := RC.out 3 _ rfl _ HZ3.out
  go_wp2_with fail
  go_region_held3 (fun w' => w'.cell? ⟨w.heap.size, 0, none⟩ = some (.int .i64 z) ∧ w'.cell? ⟨w.heap.size, 1, none⟩ = some (.slice fa fn fc) ∧ w'.cell? ⟨w.heap.size, 2, none⟩ = some (.slice ga gn gc) ∧ w'.cell? ⟨w.heap.size, 3, none⟩ = some (.slice ra rn rc) ∧ w'.cell? ⟨w.heap.size + 1, 0, none⟩ = some (.int .i64 k) ∧ w'.cell? ⟨w.heap.size + 1, 1, none⟩ = some (.slice xa xn xc) ∧ w'.cell? ⟨w.heap.size + 1, 2, none⟩ = some (.slice ya yn yc) ∧ w'.cell? ⟨w.heap.size + 1, 3, none⟩ = some (.slice za zn zc))
    (((try dsimp only); refine ⟨?_, ?_, ?_, ?_, ?_, ?_, ?_, ?_⟩ <;> (first | exact RX.out 0 _ rfl _ (by assumption) | exact RX.out 1 _ rfl _ (by assumption) | exact RX.out 2 _ rfl _ (by assumption) | exact RX.out 3 _ rfl _ (by assumption) | exact RC.out 0 _ rfl _ (by assumption) | exact RC.out 1 _ rfl _ (by assumption) | exact RC.out 2 _ rfl _ (by assumption) | exact RC.out 3 _ rfl _ (by assumption))))
    (first | (go_at_call 8; refine (K1.out _ hb30).mono ?_; rintro en4 w4 ⟨rfl, hb4⟩; have hz4 := below_trans hz0 hb4; have hb40 := below_trans hb30 hb4) | (go_at_call 9; refine (K2.out _ hb40).mono ?_; rintro en5 w5 ⟨rfl, hb5⟩; have hz5 := below_trans hz4 hb5))
  all_goals
    have HZ5 := Lib.hid hz5
    clear hz0 hz4 hz5 hb30 hb40
    go_wp2_with fail
    go_ret
    exact ⟨rfl, below_trans HB1.out HZ5.out⟩
end

set_option maxRecDepth 100000 in
theorem judges_lifted (os : Os) (started : os.Started) (H : Type) (enc : TypeId × Value → H) :
    ReturnsInHanded {} Tryz.checked os 3 .any (Rows.planeJudgesSpec.pre6 enc Tryz.prog Tryz.f3 Rows.planeJudgesRow.domain false) (Rows.planeJudgesSpec.post enc Tryz.prog Tryz.f3 false true false false) := by
  refine returnsInHanded_of_change (C := Tryz.checked) own_knob started (by kernel_rfl) Tryz.func3
    (ChangeSpec.witness6 (enc := enc) (C := Tryz.checked) false ⟨#[], #[.agg #[.int .i64 0, .slice none 0 0, .slice none 0 0, .slice none 0 0], .agg #[.int .i64 0, .slice none 0 0, .slice none 0 0, .slice none 0 0]], []⟩ 8 (by kernel_rfl) (by kernel_rfl) (by kernel_rfl) (by kernel_rfl)) ?_
  intro W base args ds gs before hval0 hW hcnd _
  have hval : ∀ (j : Nat) t v, Tryz.f3.params[j]? = some t → args[j]? = some v → Value.okWide Tryz.prog W .any base t v := hval0
  have hW' := hW
  obtain ⟨p, q, hA0, hV, rfl, hfz, hnd⟩ := hW
  have hA : DataW.TrodAll enc Tryz.prog W 0 (fun _ => true) true Tryz.f3.params.toList args.toList ds p := hA0
  rw [Tryz.params3] at hA hval
  obtain ⟨v0, vs0, d0, ds0, p0, q0, hargs, rfl, rfl, h0, r0⟩ := trodAll_cons hA
  obtain ⟨v1, vs1, d1, ds1, p1, q1, rfl, rfl, rfl, h1, r1⟩ := trodAll_cons r0
  obtain ⟨rfl, rfl, rfl⟩ := trodAll_nil r1
  obtain rfl : args = #[v0, v1] := by cases args; simp_all
  obtain ⟨rfl, rfl⟩ := trodVars_none hV
  have k0 := h0
  have k1 := h1
  have lt0 : ∀ x ∈ p0, x.block < W.heap.size := by obtain ⟨m, hm⟩ := k0; exact DataW.trod_lt m _ _ _ hm
  have lt1 : ∀ x ∈ p1, x.block < W.heap.size := by obtain ⟨m, hm⟩ := k1; exact DataW.trod_lt m _ _ _ hm
  obtain ⟨z, fa, fn, fc, ga, gn, gc, ra, rn, rc, hx⟩ := prog_in (hval 0 26 v0 rfl rfl) h0
  obtain ⟨ck, xa, xn, xc, ya, yn, yc, za, zn, zc, hy⟩ := cert_in (hval 1 28 v1 rfl rfl) h1
  clear hA0 hval0
  refine (judges_walk hx hy).mono fun e W' ⟨he, bel⟩ => ?_
  subst he
  exact ⟨_, rfl, _, _, _, [], _, [], hW', trodAll_mk1 (shut_bool Tryz.underlying4 _), (trodAll_cons_mk (Below.trod laid_out (by kernel_rfl) (of_decide_eq_true (by kernel_rfl)) k0 bel lt0) (trodAll_cons_mk (Below.trod laid_out (by kernel_rfl) (of_decide_eq_true (by kernel_rfl)) k1 bel lt1) trodAll_mk0)), rfl, bel.frame _, fun h => by cases h⟩

theorem judges_holds : Rows.PlaneJudgesSaid :=
  OpenClaim.holds_of_wide 3 Tryz.f3 rfl rfl rfl rfl rfl rfl rfl ⟨rfl, rfl, rfl, rfl, rfl⟩ rfl rfl rfl rfl rfl (by kernel_rfl) Tryz.func3 (by kernel_rfl)
    (of_decide_eq_true (by kernel_rfl)) (by unfold Func.isWrapper; first | (rw [if_pos (by decide +kernel)]; kernel_rfl) | (rw [if_neg (by decide +kernel)]; exact ⟨rfl, rfl⟩))
    (fun os started H enc _ => judges_lifted os started H enc)
end Go.Proofs.YtlaphdlocchagaaGreat
