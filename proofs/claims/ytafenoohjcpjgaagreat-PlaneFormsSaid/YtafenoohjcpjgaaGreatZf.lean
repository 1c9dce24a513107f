/- PlaneForms answers true at every input: of any program and lists Normal, Dual and Fixed tell what the reference tells, and the dual of the dual is Normal. No conditions. -/
import Derived.Test.YtafenoohjcpjgaaGreatZ41
import Derived.Test.YtafenoohjcpjgaaGreatRows
import Derived.WalkKit
import Derived.ProofKit
namespace Go.Proofs.YtafenoohjcpjgaaGreat
open Go.ChangeShapes Go.WideShapes Go.ChangeAt Go.RowKit
theorem SmallP.dual {M : Nat} {n : Pm} (h : SmallP M n) (hr0 : rightB2 n = true) : SmallP M (dualN n) := by
  have hg := right_goal hr0
  refine ⟨fun i hi => ?_, fun j r hr => ?_⟩
  · have hi9 : i < (n.rows.map (fun r => -r.2.2)).length := hi
    rw [List.length_map] at hi9
    show lenQ (nthQ (n.rows.map (fun r => -r.2.2)) i) ≤ M
    rw [nth_sides hi9, len_negq, bQ_of (List.getElem?_eq_getElem hi9)]
    exact (h.2 i _ (List.getElem?_eq_getElem hi9)).2
  · obtain ⟨hj, rfl⟩ := dual_row hr
    refine ⟨fun i hi => ?_, ?_⟩
    · rw [dualR_len] at hi
      show lenQ (nthQ (n.rows.map (fun r => -(nthQ r.1 j))) i) ≤ M
      rw [nth_column hi, len_negq, aQ_of (List.getElem?_eq_getElem hi)]
      refine (h.2 i _ (List.getElem?_eq_getElem hi)).1 j ?_
      have := row_len hr0 (List.getElem?_eq_getElem hi)
      omega
    · show lenQ (-(nthQ n.goal j)) ≤ M
      rw [len_negq]
      exact h.1 j hj
theorem cells_int9 : Tryz.prog.cellsOf 3 = 1 := by kernel_rfl
theorem ints_in2 {H : Type} {enc : TypeId × Value → H} {W : World} {v : Value} {d : DataW H} {p : List MemPlace}
    (h : DataW.Trod enc Tryz.prog W 0 (fun _ => true) true 27 v d p) (hv : ∃ a n c, v = .slice a n c) : ∃ a c zs, v = .slice a zs.length c ∧ zs.length ≤ maxLen ∧ zs.length ≤ c ∧ IntsF W a zs := by
  obtain ⟨a, n, c, rfl⟩ := hv
  obtain ⟨fuel, hf⟩ := h
  rcases open_ints Tryz.underlying27 Tryz.underlying3 cells_int9 hf with ⟨hcs, _⟩ | ⟨y, len, cap, zs, hcs, _, hl, hm, hz, _, hcell, hw⟩
  · simp [Value.cells] at hcs
    obtain ⟨rfl, rfl, rfl⟩ := hcs
    exact ⟨none, 0, [], rfl, by simp [maxLen], by simp, fun i z h => by simp at h⟩
  · simp [Value.cells] at hcs
    obtain ⟨rfl, rfl, rfl⟩ := hcs
    have hz' : zs.length = c := by simpa using hz
    by_cases h0 : n = 0
    · subst h0
      exact ⟨some y, c, [], rfl, by simp [maxLen], by simp, fun i z h => by simp at h⟩
    have hcell0 : W.cell? y = _ := hcell 0 (by omega)
    obtain ⟨b, off, rfl, hlt⟩ := spot_here hcell0
    have hlen : (zs.take n).length = n := by simp; omega
    refine ⟨_, c, zs.take n, by rw [hlen], by rw [hlen]; omega, by rw [hlen]; omega, fun i z hi => ?_⟩
    have hin : i < n := by
      have := (List.getElem?_eq_some_iff.1 hi).1
      omega
    rw [List.getElem?_take_of_lt hin] at hi
    have hc := hcell i (by omega)
    rw [add_flat] at hc
    have e : zs.getD i 0 = z := by rw [List.getD_eq_getElem?_getD, hi]; rfl
    rw [e] at hc
    refine ⟨b, off, rfl, hc, ?_⟩
    have := hw z (List.mem_of_getElem? hi)
    have m1 : IntKind.i64.min = -9223372036854775808 := by decide
    have m2 : IntKind.i64.max = 9223372036854775807 := by decide
    simpa only [Lit.wf, m1, m2, Bool.and_eq_true, decide_eq_true_eq] using this
section
attribute [local go_sem ↓] Go.wp_at_zero Go.wp_at_succ
set_option maxRecDepth 100000 in
set_option maxHeartbeats 8000000 in
set_option linter.unusedSimpArgs false in
theorem forms_walk {w : World} {v : Value} {z : Int} {fa : Option Addr} {fn fc : Nat} {ga : Option Addr} {gn gc : Nat} {ra : Option Addr} {rn rc : Nat} {va ba : Option Addr} {m m2 vc bc : Nat} {l bs : List Int} (h : ProgI w v z fa fn fc ga gn gc ra rn rc) (hl : IntsF w va l) (hbs : IntsF w ba bs) (hm : m = l.length) (hm2 : m2 = bs.length) (hvc : m ≤ vc) (hmx : m ≤ maxLen) (hmx2 : m2 ≤ maxLen) :
    Calls Tryz.prog 3 #[v, .slice va m vc, .slice ba m2 bc] w fun e w' => e = .returned (.bool true) ∧ Below w.heap.size w w' := by
  have HP := Lib.hid h
  have HI := Lib.hid hl
  have HIB := Lib.hid hbs
  have HM : Hid (m = l.length ∧ m2 = bs.length ∧ m ≤ vc) := Lib.hid ⟨hm, hm2, hvc⟩
  have hmx9 : m ≤ 9223372036854775807 := by simp only [maxLen] at hmx; omega
  have hmx8 : m2 ≤ 9223372036854775807 := by simp only [maxLen] at hmx2; omega
  obtain ⟨rfl, hz1, hz2, -⟩ := h
  clear hl hbs hm hm2 hvc hmx hmx2
  obtain ⟨w1, hw1⟩ : ∃ w1, w1 = w.alloc (Obj.cells #[Value.int .i64 z, Value.slice fa fn fc, Value.slice ga gn gc, Value.slice ra rn rc] 26) := ⟨_, rfl⟩
  have HB1 : Hid (Below w.heap.size w w1) := Lib.hid (by rw [hw1]; exact (Below.refl _ _).alloc (Nat.le_refl _) _)
  have HX1 : Hid (w1.heap[w.heap.size]? = some (.cells #[Value.int .i64 z, Value.slice fa fn fc, Value.slice ga gn gc, Value.slice ra rn rc] 26 (0, 0))) := Lib.hid (by rw [hw1]; exact heap_alloc_new w _)
  have HW1 := Lib.hid hw1.symm
  clear hw1
  have RX := Lib.hid (cells_later HX1.out)
  have hb1 := Below.refl w1.heap.size w1
  have x0 := RX.out 0 _ rfl _ hb1
  have x1 := RX.out 1 _ rfl _ hb1
  have x2 := RX.out 2 _ rfl _ hb1
  have x3 := RX.out 3 _ rfl _ hb1
  have KW : Hid (Calls Tryz.prog 5 #[.agg #[.int .i64 z, .slice fa fn fc, .slice ga gn gc, .slice ra rn rc], .int .i64 12, .int .i64 16] w1 fun e w' => (∃ bb, e = .returned (.bool bb) ∧ (bb = true → Small w 6 12 16 z fn ga gn ra rn)) ∧ Below w1.heap.size w1 w') := Lib.hid (by
    have h9 := within_w (V := 12) (R := 16) (HP.out.below HB1.out) (by omega) (by omega)
    refine h9.mono fun e w' h => ?_
    obtain ⟨⟨bb, he, hs⟩, hb⟩ := h
    exact ⟨⟨bb, he, fun e9 => (hs e9).back HP.out HB1.out⟩, hb⟩)
  go_enter Tryz.func3, Tryz.ntmps3
  go_wp2_with fail
  rw [HW1.out]
  refine KW.out.mono ?_
  rintro en2 w2 ⟨⟨bb2, rfl, hs2⟩, hb2⟩
  have HZ0 := Lib.hid hb2
  have x0 := RX.out 0 _ rfl _ hb2
  have x1 := RX.out 1 _ rfl _ hb2
  have x2 := RX.out 2 _ rfl _ hb2
  have x3 := RX.out 3 _ rfl _ hb2
  clear hb2
  cases bb2 with
  | false =>
    clear hs2
    go_wp2_with fail
    go_ret
    exact ⟨rfl, below_trans HB1.out HZ0.out⟩
  | true =>
  have HSM := Lib.hid (hs2 rfl)
  clear hs2
  by_cases hm16 : m ≤ 16
  rotate_left
  · have t1 : decide ((m : Int) > 16) = true := by simp; omega
    have t2 : decide ((16 : Int) < (m : Int)) = true := by simp; omega
    go_wp2_with fail
    go_ret
    exact ⟨rfl, below_trans HB1.out HZ0.out⟩
  have t1 : decide ((m : Int) > 16) = false := by simp; omega
  have t2 : decide ((16 : Int) < (m : Int)) = false := by simp; omega
  by_cases hm17 : m2 ≤ 16
  rotate_left
  · have t3 : decide ((m2 : Int) > 16) = true := by simp; omega
    have t4 : decide ((16 : Int) < (m2 : Int)) = true := by simp; omega
    go_wp2_with fail
    go_ret
    exact ⟨rfl, below_trans HB1.out HZ0.out⟩
  have t3 : decide ((m2 : Int) > 16) = false := by simp; omega
  have t4 : decide ((16 : Int) < (m2 : Int)) = false := by simp; omega
  obtain ⟨P, hPF, hPz, hPf, hPg, hPr, -⟩ := HP.out.progF (by omega) HSM.out.2.2.2.2.1 HSM.out.2.2.2.2.2
  have HPF := Lib.hid hPF
  have HLE : Hid (P.vars ≤ 12 ∧ P.rows.length ≤ 16 ∧ P.free.length ≤ 12 ∧ P.goal.length ≤ 12) := Lib.hid (by obtain ⟨s1, s2, s3, s4, -, -⟩ := HSM.out; omega)
  have HFIT : Hid (Fit P) := Lib.hid (by have := HLE.out; exact ⟨by omega, by omega, by omega, by omega⟩)
  have HGD : Hid (rightB2 P = true → GoodP P) := Lib.hid (fun hr => ⟨HPF.out.small.up (by omega), hr, by have := HLE.out; omega, by have := HLE.out; omega⟩)
  have HSP : Hid (SmallP 13 P) := Lib.hid HPF.out.small
  have HW := Lib.hid (fun w' (hb : Below w1.heap.size w1 w') => below_trans HB1.out hb)
  have K1 := Lib.hid (fun w' (hb : Below w1.heap.size w1 w') => pnormal_a (HPF.out.below (HW.out w' hb)) (by omega) HFIT.out)
  have K2 := Lib.hid (fun w' (hb : Below w1.heap.size w1 w') => rnormal_a (HPF.out.below (HW.out w' hb)) (by omega) HFIT.out)
  have K3 := Lib.hid (fun w' (hb : Below w1.heap.size w1 w') => pdual_a (HPF.out.below (HW.out w' hb)) (by omega) HFIT.out (by have := HLE.out; omega))
  have K4 := Lib.hid (fun w' (hb : Below w1.heap.size w1 w') => rdual_a (HPF.out.below (HW.out w' hb)) (by omega) HFIT.out (by have := HLE.out; omega))
  have K5 := Lib.hid (fun w' (hb : Below w1.heap.size w1 w') => pfixd_a (vc := vc) (bc := bc) (HPF.out.below (HW.out w' hb)) (by omega) HFIT.out (by have := HLE.out; omega) (HI.out.below (HW.out w' hb)) (HIB.out.below (HW.out w' hb)) HM.out.1 HM.out.2.1 (by omega))
  have K6 := Lib.hid (fun w' (hb : Below w1.heap.size w1 w') => rfixd_a (vc := vc) (bc := bc) (HPF.out.below (HW.out w' hb)) (by omega) (by omega) HFIT.out (by have := HLE.out; omega) (HI.out.below (HW.out w' hb)) (HIB.out.below (HW.out w' hb)) HM.out.1 HM.out.2.1 (by omega) HM.out.2.2)
  simp only [hPz, hPf, hPg, hPr] at K1 K2 K3 K4 K5 K6
  obtain ⟨o1, ho1⟩ : ∃ b, b = rightB2 P := ⟨_, rfl⟩
  obtain ⟨o2, ho2⟩ : ∃ b, b = (rightB2 P && decide (0 < rn)) := ⟨_, rfl⟩
  obtain ⟨o3, ho3⟩ : ∃ b, b = fixB P l bs := ⟨_, rfl⟩
  obtain ⟨P1, hP1⟩ : ∃ Q, Q = normP P := ⟨_, rfl⟩
  obtain ⟨P2, hP2⟩ : ∃ Q, Q = dualN P1 := ⟨_, rfl⟩
  obtain ⟨P3, hP3⟩ : ∃ Q, Q = fixP P l bs := ⟨_, rfl⟩
  rw [← ho1, ← hP1] at K1 K2
  rw [← ho2, ← hP1, ← hP2] at K3 K4
  rw [← ho3, ← hP3] at K5 K6
  have HG1 : Hid (o1 = true → GoodP P1) := Lib.hid (fun e => by rw [hP1]; exact (HGD.out (by rw [← ho1, e])).norm)
  have HR2 : Hid (o2 = true → rightB2 P = true ∧ 0 < P.rows.length) := Lib.hid (fun e => by
    rw [e] at ho2
    simp only [Bool.true_eq, Bool.and_eq_true, decide_eq_true_eq] at ho2
    exact ⟨ho2.1, by omega⟩)
  have HG2 : Hid (o2 = true → GoodP P2) := Lib.hid (fun e => by
    obtain ⟨h1, h2⟩ := HR2.out e
    rw [hP2, hP1]
    have h3 : (normP P).rows.length = P.rows.length := by show (P.rows.map turnR).length = _; rw [List.length_map]
    exact (HGD.out h1).norm.dual (by omega) (by have := HLE.out; omega))
  have HG3 : Hid (o3 = true → GoodP P3) := Lib.hid (fun e => by
    rw [e] at ho3
    unfold fixB at ho3
    simp only [Bool.true_eq, Bool.and_eq_true, decide_eq_true_eq, Bool.not_eq_true'] at ho3
    rw [hP3]
    exact (HGD.out ho3.1).fix ho3.2.1 ho3.2.2.2 (by have := HLE.out; have := HM.out; omega))
  have HP12 : Hid (P1 = normP P ∧ P2 = dualN P1) := Lib.hid ⟨hP1, hP2⟩
  have HO12 : Hid (o1 = rightB2 P) := Lib.hid ho1
  obtain ⟨E1, hE1⟩ : ∃ e, e = errI o1 := ⟨_, rfl⟩
  obtain ⟨E2, hE2⟩ : ∃ e, e = errI o2 := ⟨_, rfl⟩
  obtain ⟨E3, hE3⟩ : ∃ e, e = errI o3 := ⟨_, rfl⟩
  have HE2 := Lib.hid hE2
  have q1 : (E1 != E1) = false := by simp
  have q2 : (E2 != E2) = false := by simp
  have q3 : (E3 != E3) = false := by simp
  have HE1' := Lib.hid hE1
  have HE3' := Lib.hid hE3
  clear hE1 hE2 hE3 ho1 ho2 ho3 hP1 hP2 hP3 hPz hPf hPg hPr hPF KW
  go_wp2_with fail
  refine (K1.out _ HZ0.out).mono ?_
  rintro en c1 ⟨⟨z1, fa1, fn1, fc1, ga1, gn1, gc1, ra1, rn1, rc1, rfl, hr⟩, hb⟩
  rw [← HE1'.out]
  have HCR := Lib.hid hr
  have HCZ := Lib.hid (below_trans HZ0.out hb)
  have HCB := Lib.hid hb
  clear hr hb x0 x1 x2 x3
  go_wp2_with ((with_reducible refine at_store ?_); refine wpList_store_var rfl _ _ _ rfl c1.heap.size rfl _ rfl _ _ (heap_alloc_new _ _) info_prog9 rfl prog_one ?_; intro u1 hx hon; refine halt ?_)
  have hb : Below c1.heap.size c1 u1 := below_only ((Below.refl _ _).alloc (Nat.le_refl _) _) hon (Nat.le_refl _)
  have HZ1 := Lib.hid (below_trans HCZ.out hb)
  have HU := Lib.hid (below_trans HCB.out hb)
  have RB1 := Lib.hid (cells_later hx)
  have HR1 := Lib.hid (HCR.out.below hb)
  have x0 := RX.out 0 _ rfl _ HZ1.out
  have x1 := RX.out 1 _ rfl _ HZ1.out
  have x2 := RX.out 2 _ rfl _ HZ1.out
  have x3 := RX.out 3 _ rfl _ HZ1.out
  clear hx hon hb HCR HCZ HCB HU
  refine go_on ?_
  go_wp2_with fail
  refine (K2.out _ HZ1.out).mono ?_
  rintro en c2 ⟨⟨z2, fa2, fn2, fc2, ga2, gn2, gc2, ra2, rn2, rc2, rfl, hr⟩, hb⟩
  rw [← HE1'.out]
  have HCR := Lib.hid hr
  have HCZ := Lib.hid (below_trans HZ1.out hb)
  have HCB := Lib.hid hb
  clear hr hb x0 x1 x2 x3
  go_wp2_with ((with_reducible refine at_store ?_); refine wpList_store_var rfl _ _ _ rfl c2.heap.size rfl _ rfl _ _ (heap_alloc_new _ _) info_prog9 rfl prog_one ?_; intro u2 hx hon; refine halt ?_)
  have hb : Below c2.heap.size c2 u2 := below_only ((Below.refl _ _).alloc (Nat.le_refl _) _) hon (Nat.le_refl _)
  have HZ2 := Lib.hid (below_trans HCZ.out hb)
  have HU := Lib.hid (below_trans HCB.out hb)
  have RB2 := Lib.hid (cells_later hx)
  have HR2r := Lib.hid (HCR.out.below hb)
  have HR1 := Lib.hid (HR1.out.below HU.out)
  have RB1 := Lib.hid (fun o v h w' (hb : Below u2.heap.size u2 w') => RB1.out o v h w' (below_trans HU.out hb))
  have x0 := RX.out 0 _ rfl _ HZ2.out
  have x1 := RX.out 1 _ rfl _ HZ2.out
  have x2 := RX.out 2 _ rfl _ HZ2.out
  have x3 := RX.out 3 _ rfl _ HZ2.out
  clear hx hon hb HCR HCZ HCB HU
  refine go_on ?_
  go_wp2_with fail
  refine (K3.out _ HZ2.out).mono ?_
  rintro en c3 ⟨⟨z3, fa3, fn3, fc3, ga3, gn3, gc3, ra3, rn3, rc3, rfl, hr⟩, hb⟩
  rw [← HE2.out]
  have HCR := Lib.hid hr
  have HCZ := Lib.hid (below_trans HZ2.out hb)
  have HCB := Lib.hid hb
  clear hr hb x0 x1 x2 x3
  go_wp2_with ((with_reducible refine at_store ?_); refine wpList_store_var rfl _ _ _ rfl c3.heap.size rfl _ rfl _ _ (heap_alloc_new _ _) info_prog9 rfl prog_one ?_; intro u3 hx hon; refine halt ?_)
  have hb : Below c3.heap.size c3 u3 := below_only ((Below.refl _ _).alloc (Nat.le_refl _) _) hon (Nat.le_refl _)
  have HZ3 := Lib.hid (below_trans HCZ.out hb)
  have HU := Lib.hid (below_trans HCB.out hb)
  have RB3 := Lib.hid (cells_later hx)
  have HR3 := Lib.hid (HCR.out.below hb)
  have HR1 := Lib.hid (HR1.out.below HU.out)
  have RB1 := Lib.hid (fun o v h w' (hb : Below u3.heap.size u3 w') => RB1.out o v h w' (below_trans HU.out hb))
  have HR2r := Lib.hid (HR2r.out.below HU.out)
  have RB2 := Lib.hid (fun o v h w' (hb : Below u3.heap.size u3 w') => RB2.out o v h w' (below_trans HU.out hb))
  have x0 := RX.out 0 _ rfl _ HZ3.out
  have x1 := RX.out 1 _ rfl _ HZ3.out
  have x2 := RX.out 2 _ rfl _ HZ3.out
  have x3 := RX.out 3 _ rfl _ HZ3.out
  clear hx hon hb HCR HCZ HCB HU
  refine go_on ?_
  go_wp2_with fail
  refine (K4.out _ HZ3.out).mono ?_
  rintro en c4 ⟨⟨z4, fa4, fn4, fc4, ga4, gn4, gc4, ra4, rn4, rc4, rfl, hr⟩, hb⟩
  rw [← HE2.out]
  have HCR := Lib.hid hr
  have HCZ := Lib.hid (below_trans HZ3.out hb)
  have HCB := Lib.hid hb
  clear hr hb x0 x1 x2 x3
  go_wp2_with ((with_reducible refine at_store ?_); refine wpList_store_var rfl _ _ _ rfl c4.heap.size rfl _ rfl _ _ (heap_alloc_new _ _) info_prog9 rfl prog_one ?_; intro u4 hx hon; refine halt ?_)
  have hb : Below c4.heap.size c4 u4 := below_only ((Below.refl _ _).alloc (Nat.le_refl _) _) hon (Nat.le_refl _)
  have HZ4 := Lib.hid (below_trans HCZ.out hb)
  have HU := Lib.hid (below_trans HCB.out hb)
  have RB4 := Lib.hid (cells_later hx)
  have HR4 := Lib.hid (HCR.out.below hb)
  have HR1 := Lib.hid (HR1.out.below HU.out)
  have RB1 := Lib.hid (fun o v h w' (hb : Below u4.heap.size u4 w') => RB1.out o v h w' (below_trans HU.out hb))
  have HR2r := Lib.hid (HR2r.out.below HU.out)
  have RB2 := Lib.hid (fun o v h w' (hb : Below u4.heap.size u4 w') => RB2.out o v h w' (below_trans HU.out hb))
  have HR3 := Lib.hid (HR3.out.below HU.out)
  have RB3 := Lib.hid (fun o v h w' (hb : Below u4.heap.size u4 w') => RB3.out o v h w' (below_trans HU.out hb))
  have x0 := RX.out 0 _ rfl _ HZ4.out
  have x1 := RX.out 1 _ rfl _ HZ4.out
  have x2 := RX.out 2 _ rfl _ HZ4.out
  have x3 := RX.out 3 _ rfl _ HZ4.out
  clear hx hon hb HCR HCZ HCB HU
  refine go_on ?_
  go_wp2_with fail
  refine (K5.out _ HZ4.out).mono ?_
  rintro en c5 ⟨⟨z5, fa5, fn5, fc5, ga5, gn5, gc5, ra5, rn5, rc5, rfl, hr⟩, hb⟩
  rw [← HE3'.out]
  have HCR := Lib.hid hr
  have HCZ := Lib.hid (below_trans HZ4.out hb)
  have HCB := Lib.hid hb
  clear hr hb x0 x1 x2 x3
  go_wp2_with ((with_reducible refine at_store ?_); refine wpList_store_var rfl _ _ _ rfl c5.heap.size rfl _ rfl _ _ (heap_alloc_new _ _) info_prog9 rfl prog_one ?_; intro u5 hx hon; refine halt ?_)
  have hb : Below c5.heap.size c5 u5 := below_only ((Below.refl _ _).alloc (Nat.le_refl _) _) hon (Nat.le_refl _)
  have HZ5 := Lib.hid (below_trans HCZ.out hb)
  have HU := Lib.hid (below_trans HCB.out hb)
  have RB5 := Lib.hid (cells_later hx)
  have HR5 := Lib.hid (HCR.out.below hb)
  have HR1 := Lib.hid (HR1.out.below HU.out)
  have RB1 := Lib.hid (fun o v h w' (hb : Below u5.heap.size u5 w') => RB1.out o v h w' (below_trans HU.out hb))
  have HR2r := Lib.hid (HR2r.out.below HU.out)
  have RB2 := Lib.hid (fun o v h w' (hb : Below u5.heap.size u5 w') => RB2.out o v h w' (below_trans HU.out hb))
  have HR3 := Lib.hid (HR3.out.below HU.out)
  have RB3 := Lib.hid (fun o v h w' (hb : Below u5.heap.size u5 w') => RB3.out o v h w' (below_trans HU.out hb))
  have HR4 := Lib.hid (HR4.out.below HU.out)
  have RB4 := Lib.hid (fun o v h w' (hb : Below u5.heap.size u5 w') => RB4.out o v h w' (below_trans HU.out hb))
  have x0 := RX.out 0 _ rfl _ HZ5.out
  have x1 := RX.out 1 _ rfl _ HZ5.out
  have x2 := RX.out 2 _ rfl _ HZ5.out
  have x3 := RX.out 3 _ rfl _ HZ5.out
  clear hx hon hb HCR HCZ HCB HU
  refine go_on ?_
  go_wp2_with fail
  refine (K6.out _ HZ5.out).mono ?_
  rintro en c6 ⟨⟨z6, fa6, fn6, fc6, ga6, gn6, gc6, ra6, rn6, rc6, rfl, hr⟩, hb⟩
  rw [← HE3'.out]
  have HCR := Lib.hid hr
  have HCZ := Lib.hid (below_trans HZ5.out hb)
  have HCB := Lib.hid hb
  clear hr hb x0 x1 x2 x3
  go_wp2_with ((with_reducible refine at_store ?_); refine wpList_store_var rfl _ _ _ rfl c6.heap.size rfl _ rfl _ _ (heap_alloc_new _ _) info_prog9 rfl prog_one ?_; intro u6 hx hon; refine halt ?_)
  have hb : Below c6.heap.size c6 u6 := below_only ((Below.refl _ _).alloc (Nat.le_refl _) _) hon (Nat.le_refl _)
  have HZ6 := Lib.hid (below_trans HCZ.out hb)
  have HU := Lib.hid (below_trans HCB.out hb)
  have RB6 := Lib.hid (cells_later hx)
  have HR6 := Lib.hid (HCR.out.below hb)
  have HR1 := Lib.hid (HR1.out.below HU.out)
  have RB1 := Lib.hid (fun o v h w' (hb : Below u6.heap.size u6 w') => RB1.out o v h w' (below_trans HU.out hb))
  have HR2r := Lib.hid (HR2r.out.below HU.out)
  have RB2 := Lib.hid (fun o v h w' (hb : Below u6.heap.size u6 w') => RB2.out o v h w' (below_trans HU.out hb))
  have HR3 := Lib.hid (HR3.out.below HU.out)
  have RB3 := Lib.hid (fun o v h w' (hb : Below u6.heap.size u6 w') => RB3.out o v h w' (below_trans HU.out hb))
  have HR4 := Lib.hid (HR4.out.below HU.out)
  have RB4 := Lib.hid (fun o v h w' (hb : Below u6.heap.size u6 w') => RB4.out o v h w' (below_trans HU.out hb))
  have HR5 := Lib.hid (HR5.out.below HU.out)
  have RB5 := Lib.hid (fun o v h w' (hb : Below u6.heap.size u6 w') => RB5.out o v h w' (below_trans HU.out hb))
  have x0 := RX.out 0 _ rfl _ HZ6.out
  have x1 := RX.out 1 _ rfl _ HZ6.out
  have x2 := RX.out 2 _ rfl _ HZ6.out
  have x3 := RX.out 3 _ rfl _ HZ6.out
  clear hx hon hb HCR HCZ HCB HU
  clear x0 x1 x2 x3
  have KS1 := Lib.hid (fun w' (hb : Below u6.heap.size u6 w') => same_res (M := 13) (HR1.out.below hb) (HR2r.out.below hb) (by omega) HG1.out)
  have KS2 := Lib.hid (fun w' (hb : Below u6.heap.size u6 w') => same_res (M := 13) (HR3.out.below hb) (HR4.out.below hb) (by omega) HG2.out)
  have KS3 := Lib.hid (fun w' (hb : Below u6.heap.size u6 w') => same_res (M := 13) (HR5.out.below hb) (HR6.out.below hb) (by omega) HG3.out)
  have b10 := RB1.out 0 _ rfl _ (Below.refl _ _)
  have b11 := RB1.out 1 _ rfl _ (Below.refl _ _)
  have b12 := RB1.out 2 _ rfl _ (Below.refl _ _)
  have b13 := RB1.out 3 _ rfl _ (Below.refl _ _)
  have b20 := RB2.out 0 _ rfl _ (Below.refl _ _)
  have b21 := RB2.out 1 _ rfl _ (Below.refl _ _)
  have b22 := RB2.out 2 _ rfl _ (Below.refl _ _)
  have b23 := RB2.out 3 _ rfl _ (Below.refl _ _)
  refine go_on ?_
  go_wp2_with fail
  refine (KS1.out _ (Below.refl _ _)).mono ?_
  rintro en7 s1 ⟨rfl, hb7⟩
  have HS1 := Lib.hid hb7
  clear hb7 b10 b11 b12 b13 b20 b21 b22 b23
  have b30 := RB3.out 0 _ rfl _ HS1.out
  have b31 := RB3.out 1 _ rfl _ HS1.out
  have b32 := RB3.out 2 _ rfl _ HS1.out
  have b33 := RB3.out 3 _ rfl _ HS1.out
  have b40 := RB4.out 0 _ rfl _ HS1.out
  have b41 := RB4.out 1 _ rfl _ HS1.out
  have b42 := RB4.out 2 _ rfl _ HS1.out
  have b43 := RB4.out 3 _ rfl _ HS1.out
  go_wp2_with fail
  refine (KS2.out _ HS1.out).mono ?_
  rintro en8 s2 ⟨rfl, hb8⟩
  have HS2 := Lib.hid (below_trans HS1.out hb8)
  clear hb8 b30 b31 b32 b33 b40 b41 b42 b43
  have b50 := RB5.out 0 _ rfl _ HS2.out
  have b51 := RB5.out 1 _ rfl _ HS2.out
  have b52 := RB5.out 2 _ rfl _ HS2.out
  have b53 := RB5.out 3 _ rfl _ HS2.out
  have b60 := RB6.out 0 _ rfl _ HS2.out
  have b61 := RB6.out 1 _ rfl _ HS2.out
  have b62 := RB6.out 2 _ rfl _ HS2.out
  have b63 := RB6.out 3 _ rfl _ HS2.out
  go_wp2_with fail
  refine (KS3.out _ HS2.out).mono ?_
  rintro en9 s3 ⟨rfl, hb9⟩
  have HS3 := Lib.hid (below_trans HS2.out hb9)
  clear hb9 b50 b51 b52 b53 b60 b61 b62 b63
  cases o2 with
  | false =>
    obtain rfl : E2 = 20 := HE2.out
    go_wp2_with fail
    go_ret
    exact ⟨rfl, below_trans HB1.out (below_trans HZ6.out HS3.out)⟩
  | true =>
    obtain rfl : E2 = 0 := HE2.out
    have hrp := (HR2.out rfl).1
    have ho1t : o1 = true := by rw [HO12.out]; exact hrp
    subst ho1t
    have hG1 := HG1.out rfl
    have hG2 := HG2.out rfl
    have hs1 : SmallP 13 P1 := by rw [HP12.out.1]; exact HSP.out.norm
    have hs2 : SmallP 13 P2 := by rw [HP12.out.2]; exact hs1.dual hG1.right
    have hback : dualN (normP P2) = P1 := by rw [HP12.out.2, HP12.out.1]; exact dual_back hrp
    have hrl2 : 0 < P2.rows.length ∧ P2.rows.length ≤ 160 := by
      have h1 := right_goal hG1.right
      have h2 := hG1.vars
      rw [HP12.out.2]
      show 0 < ((List.range P1.goal.length).map (dualR P1)).length ∧ ((List.range P1.goal.length).map (dualR P1)).length ≤ 160
      rw [List.length_map, List.length_range]
      omega
    have hgl2 := right_goal hG2.right
    have hgv2 := hG2.vars
    have hres3 := HR3.out.below HS3.out
    have K7 : Hid (Calls Tryz.prog 8 #[.agg #[.int .i64 z3, .slice fa3 fn3 fc3, .slice ga3 gn3 gc3, .slice ra3 rn3 rc3]] s3 (NPost rkV s3 true P1)) := Lib.hid (by
      unfold ResN at hres3
      rw [if_pos rfl] at hres3
      obtain ⟨base, hres3⟩ := hres3
      have h9 := pdual_a (hres3.read hs2 (by omega) hG2.right (by omega)) (by omega) ⟨hG2.vars, by omega, by omega, by omega⟩ hrl2.2
      rw [hG2.right, show decide (0 < P2.rows.length) = true by simpa using hrl2.1, Bool.true_and, hback] at h9
      exact h9)
    have HS1P : Hid (SmallP 13 P1) := Lib.hid hs1
    have HGP : Hid (GoodP P1) := Lib.hid hG1
    clear hrp hG1 hG2 hs1 hs2 hback hrl2 hgl2 hgv2 hres3
    have d0 := RB3.out 0 _ rfl _ HS3.out
    have d1 := RB3.out 1 _ rfl _ HS3.out
    have d2 := RB3.out 2 _ rfl _ HS3.out
    have d3 := RB3.out 3 _ rfl _ HS3.out
    go_wp2_with fail
    refine K7.out.mono ?_
    rintro en10 c7 ⟨⟨z7, fa7, fn7, fc7, ga7, gn7, gc7, ra7, rn7, rc7, rfl, hr7⟩, hb10⟩
    rw [show errI true = 0 from rfl]
    have HC7 := Lib.hid (below_trans HS3.out hb10)
    have HR7c := Lib.hid hr7
    clear hr7 hb10 d0 d1 d2 d3
    go_wp2_with ((with_reducible refine at_store ?_); refine wpList_store_var rfl _ _ _ rfl c7.heap.size rfl _ rfl _ _ (heap_alloc_new _ _) info_prog9 rfl prog_one ?_; intro u7 h7 hon7; refine halt ?_)
    have hb7 : Below c7.heap.size c7 u7 := below_only ((Below.refl _ _).alloc (Nat.le_refl _) _) hon7 (Nat.le_refl _)
    have HU7 := Lib.hid (below_trans HC7.out hb7)
    have HR7 := Lib.hid (HR7c.out.below hb7)
    have d0 := cells_later h7 0 _ rfl _ (Below.refl _ _)
    have d1 := cells_later h7 1 _ rfl _ (Below.refl _ _)
    have d2 := cells_later h7 2 _ rfl _ (Below.refl _ _)
    have d3 := cells_later h7 3 _ rfl _ (Below.refl _ _)
    have f0 := RB1.out 0 _ rfl _ HU7.out
    have f1 := RB1.out 1 _ rfl _ HU7.out
    have f2 := RB1.out 2 _ rfl _ HU7.out
    have f3 := RB1.out 3 _ rfl _ HU7.out
    have K8 := Lib.hid (same_rr (M := 13) HR7.out (HR1.out.below HU7.out) (by omega) HS1P.out HGP.out)
    clear h7 hon7 hb7
    refine go_on ?_
    go_wp2_with fail
    refine K8.out.mono ?_
    rintro en11 s4 ⟨rfl, hb11⟩
    have HS4 := Lib.hid (below_trans HU7.out hb11)
    clear hb11 d0 d1 d2 d3 f0 f1 f2 f3
    go_wp2_with fail
    go_ret
    exact ⟨rfl, below_trans HB1.out (below_trans HZ6.out HS4.out)⟩
end
set_option maxRecDepth 100000 in
theorem forms_lifted (os : Os) (started : os.Started) (H : Type) (enc : TypeId × Value → H) :
    ReturnsInHanded {} Tryz.checked os 3 .any (Rows.planeFormsSpec.pre6 enc Tryz.prog Tryz.f3 Rows.planeFormsRow.domain false) (Rows.planeFormsSpec.post enc Tryz.prog Tryz.f3 false true false false) := by
  refine returnsInHanded_of_change (C := Tryz.checked) own_knob started (by kernel_rfl) Tryz.func3
    (ChangeSpec.witness6 (enc := enc) (C := Tryz.checked) false ⟨#[], #[.agg #[.int .i64 0, .slice none 0 0, .slice none 0 0, .slice none 0 0], .slice none 0 0, .slice none 0 0], []⟩ 8 (by kernel_rfl) (by kernel_rfl) (by kernel_rfl) (by kernel_rfl)) ?_
  intro W base args ds gs before hval0 hW hcnd _
  have hval : ∀ (j : Nat) t v, Tryz.f3.params[j]? = some t → args[j]? = some v → Value.okWide Tryz.prog W .any base t v := hval0
  have hW' := hW
  obtain ⟨p, q, hA0, hV, rfl, hfz, hnd⟩ := hW
  have hA : DataW.TrodAll enc Tryz.prog W 0 (fun _ => true) true Tryz.f3.params.toList args.toList ds p := hA0
  rw [Tryz.params3] at hA hval
  obtain ⟨v0, vs0, d0, ds0, p0, q0, hargs, rfl, rfl, h0, r0⟩ := trodAll_cons hA
  obtain ⟨v1, vs1, d1, ds1, p1, q1, rfl, rfl, rfl, h1, r1⟩ := trodAll_cons r0
  obtain ⟨v2, vs2, d2, ds2, p2, q2, rfl, rfl, rfl, h2, r2⟩ := trodAll_cons r1
  obtain ⟨rfl, rfl, rfl⟩ := trodAll_nil r2
  obtain rfl : args = #[v0, v1, v2] := by cases args; simp_all
  obtain ⟨rfl, rfl⟩ := trodVars_none hV
  have k0 := h0
  have k1 := h1
  have k2 := h2
  have lt0 : ∀ x ∈ p0, x.block < W.heap.size := by obtain ⟨m, hm⟩ := k0; exact DataW.trod_lt m _ _ _ hm
  have lt1 : ∀ x ∈ p1, x.block < W.heap.size := by obtain ⟨m, hm⟩ := k1; exact DataW.trod_lt m _ _ _ hm
  have lt2 : ∀ x ∈ p2, x.block < W.heap.size := by obtain ⟨m, hm⟩ := k2; exact DataW.trod_lt m _ _ _ hm
  obtain ⟨z, fa, fn, fc, ga, gn, gc, ra, rn, rc, hx⟩ := prog_in (hval 0 26 v0 rfl rfl) h0
  obtain ⟨va, vc, l, rfl, hm1, hc1, hy⟩ := ints_in2 h1 (okWide_slice Tryz.underlying27 (hval 1 27 v1 rfl rfl))
  obtain ⟨ba, bc, bs, rfl, hm2, hc2, hy2⟩ := ints_in2 h2 (okWide_slice Tryz.underlying27 (hval 2 27 v2 rfl rfl))
  clear hA0 hval0
  refine (forms_walk hx hy hy2 rfl rfl hc1 hm1 hm2).mono fun e W' ⟨he, bel⟩ => ?_
  subst he
  exact ⟨_, rfl, _, _, _, [], _, [], hW', trodAll_mk1 (shut_bool Tryz.underlying4 _), (trodAll_cons_mk (Below.trod laid_out (by kernel_rfl) (of_decide_eq_true (by kernel_rfl)) k0 bel lt0) (trodAll_cons_mk (Below.trod laid_out (by kernel_rfl) (of_decide_eq_true (by kernel_rfl)) k1 bel lt1) (trodAll_cons_mk (Below.trod laid_out (by kernel_rfl) (of_decide_eq_true (by kernel_rfl)) k2 bel lt2) trodAll_mk0))), rfl, bel.frame _, fun h => by cases h⟩

theorem forms_holds : Rows.PlaneFormsSaid :=
  OpenClaim.holds_of_wide 3 Tryz.f3 rfl rfl rfl rfl rfl rfl rfl ⟨rfl, rfl, rfl, rfl, rfl⟩ rfl rfl rfl rfl rfl (by kernel_rfl) Tryz.func3 (by kernel_rfl)
    (of_decide_eq_true (by kernel_rfl)) (by unfold Func.isWrapper; first | (rw [if_pos (by decide +kernel)]; kernel_rfl) | (rw [if_neg (by decide +kernel)]; exact ⟨rfl, rfl⟩))
    (fun os started H enc _ => forms_lifted os started H enc)
end Go.Proofs.YtafenoohjcpjgaaGreat
