/- Several texts in one: J8. -/
import Derived.Test.YtlaphdlocchagaaZ37
import Derived.Deep.RegionHeld3
import Derived.Deep.DrawnRows
/- PlaneLooks: the walk. -/
namespace Go.Proofs.Ytlaphdlocchagaa
open Go.RowKit
attribute [local go_sem ↓] Go.wp_at_zero Go.wp_at_succ

theorem len_value {N : Nat} {w : World} {v x : Value} {P : Pm} {xs : List Rat} (h : ProgF N w v P) (hx : ListF N w x xs) (hn : xs.length ≤ 100) (hN : N * xs.length ≤ 1000) : lenQ (valueQ P xs) ≤ 4002 := by
  unfold valueQ
  split
  · rename_i hc
    obtain ⟨fa, fc, ga, gc, ra, rc, rfl, -, -, -, hG, -⟩ := h
    exact len_dotG hG hx (by have := (right_goal hc.1).1; omega) hn hN
  · rw [len_zero]; omega

set_option maxRecDepth 100000 in
set_option maxHeartbeats 8000000 in
theorem looks_walk {w : World} {v x : Value} {z : Int} {fa : Option Addr} {fn fc : Nat} {ga : Option Addr} {gn gc : Nat} {ra : Option Addr} {rn rc : Nat} {xa : Option Addr} {xn xc : Nat} (h : ProgI w v z fa fn fc ga gn gc ra rn rc) (hx : ListI w x xa xn xc) :
    Calls Try.prog 3 #[v, x] w fun e w' => e = .returned (.bool true) ∧ Below w.heap.size w w' := by
  have HP := Lib.hid h
  have HX := Lib.hid hx
  obtain ⟨rfl, hz1, hz2, -⟩ := h
  obtain ⟨rfl, -⟩ := hx
  obtain ⟨w1, hw1⟩ : ∃ w1, w1 = w.alloc (Obj.cells #[Value.int .i64 z, Value.slice fa fn fc, Value.slice ga gn gc, Value.slice ra rn rc] 26) := ⟨_, rfl⟩
  have HB1 : Hid (Below w.heap.size w w1) := Lib.hid (by rw [hw1]; exact (Below.refl _ _).alloc (Nat.le_refl _) _)
  have HX1 : Hid (w1.heap[w.heap.size]? = some (.cells #[Value.int .i64 z, Value.slice fa fn fc, Value.slice ga gn gc, Value.slice ra rn rc] 26 (0, 0))) := Lib.hid (by rw [hw1]; exact heap_alloc_new w _)
  have HW1 := Lib.hid hw1.symm
  clear hw1
  have RX := Lib.hid (cells_later HX1.out)
  have hb1 := Below.refl w1.heap.size w1
  have x0 := RX.out 0 _ rfl _ hb1
  have x1 := RX.out 1 _ rfl _ hb1
  have x2 := RX.out 2 _ rfl _ hb1
  have x3 := RX.out 3 _ rfl _ hb1
  have KW : Hid (Calls Try.prog 4 #[.agg #[.int .i64 z, .slice fa fn fc, .slice ga gn gc, .slice ra rn rc], .int .i64 40, .int .i64 60] w1 fun e w' => (∃ bb, e = .returned (.bool bb) ∧ (bb = true → Small w 6 40 60 z fn ga gn ra rn)) ∧ Below w1.heap.size w1 w') := Lib.hid (by
    have h9 := within_w (V := 40) (R := 60) (HP.out.below HB1.out) (by omega) (by omega)
    refine h9.mono fun e w' h => ?_
    obtain ⟨⟨bb, he, hs⟩, hb⟩ := h
    exact ⟨⟨bb, he, fun e9 => (hs e9).back HP.out HB1.out⟩, hb⟩)
  go_enter Try.func3, Try.ntmps3
  go_wp2_with fail
  rw [HW1.out]
  refine KW.out.mono ?_
  rintro en2 w2 ⟨⟨bb2, rfl, hs2⟩, hb2⟩
  have HZ2 := Lib.hid hb2
  clear hb2
  cases bb2 with
  | false =>
    clear hs2
    go_wp2_with fail
    go_ret
    exact ⟨rfl, below_trans HB1.out HZ2.out⟩
  | true =>
  have HSM := Lib.hid (hs2 rfl)
  clear hs2
  by_cases h41 : 41 < xn
  · have t1 : decide ((41 : Int) < (xn : Int)) = true := by simp; omega
    clear h41
    go_wp2_with fail
    go_ret
    exact ⟨rfl, below_trans HB1.out HZ2.out⟩
  have t1 : decide ((41 : Int) < (xn : Int)) = false := by simp; omega
  have hx41 : xn ≤ 41 := by omega
  have KX := Lib.hid (words_w (N := 6) (HX.out.below (below_trans HB1.out HZ2.out)) (by omega))
  clear h41
  go_wp2_with fail
  refine KX.out.mono ?_
  rintro en3 w3 ⟨⟨bb3, rfl, hs3⟩, hb3⟩
  have HZ3 := Lib.hid (below_trans HZ2.out hb3)
  clear hb3
  cases bb3 with
  | false =>
    clear hs3
    go_wp2_with fail
    go_ret
    exact ⟨rfl, below_trans HB1.out HZ3.out⟩
  | true =>
  have HWX := Lib.hid (HX.out.few_back (below_trans HB1.out HZ2.out) (hs3 rfl))
  clear hs3
  obtain ⟨P, hPF, hPz, hPf, hPg, hPr, -⟩ := HP.out.progF (by omega) HSM.out.2.2.2.2.1 HSM.out.2.2.2.2.2
  obtain ⟨xs, hxl, hXF⟩ := HX.out.listF (by omega) HWX.out
  have HPF := Lib.hid hPF
  have HXF := Lib.hid hXF
  have HFIT : Hid (Fit P) := Lib.hid (by obtain ⟨s1, s2, s3, s4, -, -⟩ := HSM.out; refine ⟨?_, ?_, ?_, ?_⟩ <;> omega)
  have HSZ : Hid (Sizes 6 P xs) := Lib.hid (by obtain ⟨s1, s2, s3, s4, -, -⟩ := HSM.out; refine ⟨HFIT.out, ?_, ?_, ?_, ?_⟩ <;> omega)
  have HXL : Hid (xs.length ≤ 41) := Lib.hid (by omega)
  have K1 := Lib.hid (fun w' (hb : Below w.heap.size w w') => pright_w (HPF.out.below hb) HFIT.out)
  have K2 := Lib.hid (fun w' (hb : Below w.heap.size w w') => rright2_w (HPF.out.below hb) HFIT.out)
  have K3 := Lib.hid (fun w' (hb : Below w.heap.size w w') => pvalue_w (HPF.out.below hb) (HXF.out.below hb) HSZ.out)
  have K4 := Lib.hid (fun w' (hb : Below w.heap.size w w') => rvalue_w (HPF.out.below hb) (HXF.out.below hb) HSZ.out)
  have K6 := Lib.hid (fun w' (hb : Below w.heap.size w w') => pfits_w (HPF.out.below hb) (HXF.out.below hb) HFIT.out (by omega) (by have := HXL.out; omega) (by have := HXL.out; omega))
  have K7 := Lib.hid (fun w' (hb : Below w.heap.size w w') => rfits_w (HPF.out.below hb) (HXF.out.below hb) HFIT.out (by omega) (by have := HXL.out; omega) (by have := HXL.out; omega))
  have HLQ : Hid (lenQ (valueQ P xs) ≤ 4002) := Lib.hid (len_value hPF hXF (by have := HXL.out; omega) (by have := HXL.out; omega))
  obtain ⟨rr, hrr⟩ : ∃ rr, rr = rightP P := ⟨_, rfl⟩
  obtain ⟨Q, hQ⟩ : ∃ Q, Q = valueQ P xs := ⟨_, rfl⟩
  obtain ⟨fb, hfb⟩ : ∃ fb, fb = fitsQ P xs := ⟨_, rfl⟩
  rw [← hrr] at K1 K2
  rw [← hQ] at K3 K4 HLQ
  rw [← hfb] at K6 K7
  have K5 := Lib.hid (fun w' a b (ha : FracV w' a Q) (hb : FracV w' b Q) => rcmp_s (n := 4096) (m := 4096) (ha.sz (by have := HLQ.out; omega) (by have := HLQ.out; omega)) (hb.sz (by have := HLQ.out; omega) (by have := HLQ.out; omega)) (by omega) (by omega))
  rw [cmpQ_self] at K5
  have e1 : (rr == rr) = true := by simp
  have e2 : (fb == fb) = true := by simp
  clear hrr hQ hfb hPz hPf hPg hPr hxl hPF hXF
  have x0 := RX.out 0 _ rfl _ HZ3.out
  have x1 := RX.out 1 _ rfl _ HZ3.out
  have x2 := RX.out 2 _ rfl _ HZ3.out
  have x3 := RX.out 3 _ rfl _ HZ3.out
  go_wp2_with fail
  have hz0 : Below w1.heap.size w1 w3.drew := below_drewN HZ3.out 1
  go_region_held3 (fun w' => w'.cell? ⟨w.heap.size, 0, none⟩ = some (.int .i64 z) ∧ w'.cell? ⟨w.heap.size, 1, none⟩ = some (.slice fa fn fc) ∧ w'.cell? ⟨w.heap.size, 2, none⟩ = some (.slice ga gn gc) ∧ w'.cell? ⟨w.heap.size, 3, none⟩ = some (.slice ra rn rc))
    (((try dsimp only); refine ⟨?_, ?_, ?_, ?_⟩ <;> (first | exact RX.out 0 _ rfl _ (by assumption) | exact RX.out 1 _ rfl _ (by assumption) | exact RX.out 2 _ rfl _ (by assumption) | exact RX.out 3 _ rfl _ (by assumption))))
    (first | (go_at_call 6; refine (K1.out _ (below_trans HB1.out hz0)).mono ?_; rintro en4 w4 ⟨rfl, hb4⟩; have hz4 := below_trans hz0 hb4) | (go_at_call 7; refine (K2.out _ (below_trans HB1.out hz4)).mono ?_; rintro en5 w5 ⟨rfl, hb5⟩; have hz5 := below_trans hz4 hb5) | (go_at_call 9; refine (K3.out _ (below_trans HB1.out hz5)).mono ?_; rintro en6 w6 ⟨⟨v6, rfl, f6⟩, hb6⟩; obtain ⟨a6, n6, c6, i6, j6, k6, hq6⟩ := frac_form f6; subst hq6; have hz6 := below_trans hz5 hb6) | (go_at_call 10; refine (K4.out _ (below_trans HB1.out hz6)).mono ?_; rintro en7 w7 ⟨⟨v7, rfl, f7⟩, hb7⟩; obtain ⟨a7, n7, c7, i7, j7, k7, hq7⟩ := frac_form f7; subst hq7; have hz7 := below_trans hz6 hb7) | (go_at_call 8; refine (K5.out _ _ _ (f6.below hb7) f7).mono ?_; rintro en8 w8 ⟨rfl, hb8⟩; have hz8 := below_trans hz7 hb8) | (go_at_call 11; refine (K6.out _ (below_trans HB1.out hz8)).mono ?_; rintro en9 w9 ⟨rfl, hb9⟩; have hz9 := below_trans hz8 hb9) | (go_at_call 12; refine (K7.out _ (below_trans HB1.out hz9)).mono ?_; rintro en10 w10 ⟨rfl, hb10⟩; have hz10 := below_trans hz9 hb10))
  all_goals
    have HZ10 := Lib.hid hz10
    clear hz10 hz0 hz4 hz5 hz6 hz7 hz8 hz9
    go_wp2_with fail
    go_ret
    exact ⟨rfl, below_trans HB1.out HZ10.out⟩
end Go.Proofs.Ytlaphdlocchagaa
