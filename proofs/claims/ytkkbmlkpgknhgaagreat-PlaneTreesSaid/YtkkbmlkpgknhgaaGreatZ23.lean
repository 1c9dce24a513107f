import Derived.Test.YtkkbmlkpgknhgaaGreatZ22
import Derived.Deep.RegionHeld3
import Derived.Deep.DrawnRows
set_option maxRecDepth 100000
set_option maxHeartbeats 16000000
namespace Go.Proofs.YtkkbmlkpgknhgaaGreat
open Go.RowKit
attribute [local go_sem ↓] Go.wp_at_zero Go.wp_at_succ
variable {N : Nat} {P : Pm} {c v : Value} {k : Int} {w : World} {xs ys zs : List Rat}
theorem g8j (h : y9q N w v P) (hc : b7q N w c 2 xs ys zs) (hs : f4q N P xs zs) (hbb0 : x1q P ys (List.replicate P.free.length 0) = true) :
  Calls Tryz.prog 135 #[v, c] w fun e w' => e = .returned (.bool (j4q P 2 xs ys zs)) ∧ Below w.heap.size w w' := by
 have HS := hdd hs
 have HP0 := hdd h
 have HP := hdd h
 obtain ⟨fa, fc, ga, gc, ra, rc, rfl, -, -, -, hG, hR⟩ := h
 obtain ⟨xa, xc, ya, yc, za, zc, rfl, hX, hY, hZ⟩ := hc
 have HX0 := hdd hX
 have HY0 := hdd hY
 have HR := hdd hR
 obtain ⟨z, hz⟩ := qx (P.vars)
 obtain ⟨fn, hfn⟩ := qx (P.free.length)
 obtain ⟨gn, hgn⟩ := qx (P.goal.length)
 obtain ⟨rn, hrn⟩ := qx (P.rows.length)
 obtain ⟨xn, hxn⟩ := qx (xs.length)
 obtain ⟨yn, hyn⟩ := qx (ys.length)
 obtain ⟨zn, hzn⟩ := qx (zs.length)
 rw [← hz] at HP ⊢
 rw [← hfn] at HP ⊢
 rw [← hgn] at HP hG ⊢
 rw [← hrn] at HP ⊢
 rw [← hxn] at hX ⊢
 rw [← hyn] at hY ⊢
 rw [← hzn] at hZ ⊢
 have HG := hdd hG
 have HX := hdd hX
 have HY := hdd hY
 have HZ := hdd hZ
 have HEQ := hdd (And.intro hz (And.intro hfn (And.intro hgn (And.intro hrn (And.intro hxn (And.intro hyn hzn))))))
 obtain ⟨w1, hw1, HB1, HX1, HC1⟩ := al2 w #[.int .i64 z, .slice fa fn fc, .slice ga gn gc, .slice ra rn rc] 26 #[.int .i64 2, .slice xa xn xc, .slice ya yn yc, .slice za zn zc] 66
 have HW1 := hdd hw1.symm
 clear hw1 hG hR hX hY hZ hz hfn hgn hrn hxn hyn hzn hs
 have RX := hdd (q1q HX1.o)
 have RC := hdd (q1q HC1.o)
 have hb1 := Below.refl w1.heap.size w1
 obtain ⟨x0, x1, x2, x3⟩ := qz RX.o hb1
 have KR := hdd (fun w' (hb : Below w.heap.size w w') => n7q (HP.o.below hb) HS.o.1)
 cases hb : j7q P with
 | false =>
  have HE : Hi (j4q P 2 xs ys zs = false) := hdd (by unfold j4q; rw [hb]; rfl)
  rw [x6q hb] at KR
  clear hb
  go_enter Tryz.func135, Tryz.ntmps135
  go_wp2_with fail
  rw [HW1.o]
  refine (KR.o _ HB1.o).mono ?_
  rintro en2 w2 ⟨rfl, hb2⟩
  go_wp2_with fail
  go_ret
  exact ⟨by rw [HE.o]; first | done | rfl, q0q HB1.o hb2⟩
 | true =>
 have HRB := hdd hb
 rw [g5q hb] at KR
 have HFN : Hi (z = (fn : Int)) := hdd (by have h8 := (j2q hb).2.1; have := HEQ.o; omega)
 clear hb
 go_enter Tryz.func135, Tryz.ntmps135
 go_wp2_with fail
 rw [HW1.o]
 refine (KR.o _ HB1.o).mono ?_
 rintro en2 w2 ⟨rfl, hb2⟩
 have HZ2 := hdd hb2
 obtain ⟨x0, x1, x2, x3⟩ := qz RX.o hb2
 obtain ⟨c0, c1, c2, c3⟩ := qz RC.o hb2
 have hz0 : Below w1.heap.size w1 w2.drew := q5q hb2 1
 obtain ⟨bb, hbb⟩ := qx (x1q P ys (List.replicate fn 0))
 have HBB := hdd (by rw [HEQ.o.2.1] at hbb; exact hbb : bb = x1q P ys (List.replicate P.free.length 0))
 have KB := hdd (fun w' t (hb : Below w.heap.size w w') (ht : z1q 1 w' t (List.replicate fn 0)) => q5x (HP.o.below hb) (HY.o.below hb) (ht.up HS.o.2.2.2.1) HRB.o (by rw [List.length_replicate, ← HEQ.o.1]; exact HFN.o.symm) HS.o.2.2.2.2.1 HS.o.2.2.1 HS.o.2.1 HS.o.2.2.2.2.2.2.1)
 rw [← hbb] at KB
 have KZ : Hi (∀ w', Calls Tryz.prog 91 #[.int .i64 z] w' fun e w'' => (∃ r, e = .returned r ∧ z1q 1 w'' r (List.replicate fn 0)) ∧ Below w'.heap.size w' w'') := hdd (fun w' => by
  rw [HFN.o]
  exact v8k (by have := HFN.o; have := HS.o.2.1; have := HEQ.o; omega))
 clear hbb
 have ebb : bb = true := HBB.o.trans hbb0
 subst ebb
 have HYR : Hi (yn = rn) := hdd (by have h9 := q3y HBB.o.symm; have := HEQ.o; omega)
 have HSL : Hi (j5q (n1q P ys) ≤ 4002) := hdd (j3k HP0.o HY0.o (q3y HBB.o.symm) HS.o.2.2.2.2.1 HS.o.2.2.1 HS.o.2.2.2.2.2.2.1)
 obtain ⟨Sd, hS⟩ := qx (n1q P ys)
 have HSD := hdd hS
 rw [← hS] at HSL
 have KS := hdd (fun w' => v7h (w := w') (z := z) (fa := fa) (ga := ga) (ra := ra) (fn := fn) (fc := fc) (gn := gn) (gc := gc) (rn := rn) (rc := rc))
 have KP : Hi (∀ w' g, Below w.heap.size w w' → w'.cell? ⟨g, 3, none⟩ = some (.slice ra rn rc) → Calls Tryz.prog 70 #[.func (.func 60) #[] #[.pointer (some ⟨g, 0, none⟩)], .slice ya yn yc] w' (h0q w' Sd)) := hdd (fun w' g hb hg1 => by
  have h9 := y7x (N := N) (w := w') (p := g) (n' := yn) (g := bQ P) (qs := ys) (fun i w'' hi hb9 => v0v (w0 := w') hb9 (q3q hb9 hg1) (HR.o.below hb) (by have := HYR.o; omega) HEQ.o.2.2.2.1) (HY.o.below hb) HS.o.2.2.2.2.1 (by have := HYR.o; have := HEQ.o; have := HS.o.2.2.1; omega) (by rw [HYR.o, HEQ.o.2.2.2.1]; exact HS.o.2.2.2.2.2.2.1)
  have e9 : j8q (fun i => bQ P i * q9q ys i) 0 yn = Sd := by rw [HSD.o]; unfold n1q; rw [HEQ.o.2.2.2.2.2.1]
  rw [e9] at h9
  exact h9)
 have KC := hdd (fun w' y (hy : j3q w' y Sd) => j1k (w := w') (hy.inF (by have := HSL.o; omega)))
 obtain ⟨o, ho⟩ := qx (z7q Sd 0)
 rw [← ho] at KC
 have HO := hdd ho
 clear hS ho
 by_cases h0 : o < 0
 ·
  have u : decide (o < 0) = true := by simpa using h0
  have HE : Hi (j4q P 2 xs ys zs = true) := hdd (by unfold j4q; rw [HRB.o, ← HBB.o, ← HSD.o, ← HO.o]; simp [h0])
  clear h0
  go_wp2_with fail
  go_region_held3 (fun w' => w'.cell? ⟨w.heap.size, 0, none⟩ = some (.int .i64 z) ∧ w'.cell? ⟨w.heap.size, 1, none⟩ = some (.slice fa fn fc) ∧ w'.cell? ⟨w.heap.size, 2, none⟩ = some (.slice ga gn gc) ∧ w'.cell? ⟨w.heap.size, 3, none⟩ = some (.slice ra rn rc) ∧ w'.cell? ⟨w.heap.size + 1, 1, none⟩ = some (.slice xa xn xc) ∧ w'.cell? ⟨w.heap.size + 1, 2, none⟩ = some (.slice ya yn yc))
   (((try dsimp only); refine ⟨?_, ?_, ?_, ?_, ?_, ?_⟩ <;> (first | exact RX.o _ _ rfl _ (by assumption) | exact RC.o _ _ rfl _ (by assumption))))
   (first | (go_at_call 91; refine (KZ.o _).mono ?_; rintro en4 w4 ⟨⟨r4, rfl, f4⟩, hb4⟩; have hz4 := q0q hz0 hb4) | (go_at_call 159; refine (KB.o _ _ (q0q HB1.o hz4) f4).mono ?_; rintro en5 w5 ⟨rfl, hb5⟩; have hz5 := q0q hz4 hb5) | (go_at_call 27; refine (KS.o _).mono ?_; rintro en6 w6 ⟨⟨g6, rfl, hg6⟩, hb6⟩; have hz6 := q0q hz5 hb6) | (go_at_call 70; refine (KP.o _ _ (q0q HB1.o hz6) hg6).mono ?_; rintro en7 w7 ⟨⟨v7, rfl, f7⟩, hb7⟩; obtain ⟨a7, n7, c7, i7, j7, k7, hq7⟩ := q8q f7; subst hq7; have hz7 := q0q hz6 hb7) | (go_at_call 77; refine (KC.o _ _ f7).mono ?_; rintro en8 w8 ⟨rfl, hb8⟩; have hz8 := q0q hz7 hb8))
  all_goals
   have HZ9 := hdd hz8
   clear hz0 hz4 hz5 hz6 hz7 hz8
   go_wp2_with fail
   go_ret
   exact ⟨by rw [HE.o]; first | done | rfl, q0q HB1.o HZ9.o⟩
 ·
  have u : decide (o < 0) = false := by simpa using h0
  have HE : Hi (j4q P 2 xs ys zs = false) := hdd (by unfold j4q; rw [HRB.o, ← HBB.o, ← HSD.o, ← HO.o]; simp [h0])
  clear h0
  go_wp2_with fail
  go_region_held3 (fun w' => w'.cell? ⟨w.heap.size, 0, none⟩ = some (.int .i64 z) ∧ w'.cell? ⟨w.heap.size, 1, none⟩ = some (.slice fa fn fc) ∧ w'.cell? ⟨w.heap.size, 2, none⟩ = some (.slice ga gn gc) ∧ w'.cell? ⟨w.heap.size, 3, none⟩ = some (.slice ra rn rc) ∧ w'.cell? ⟨w.heap.size + 1, 1, none⟩ = some (.slice xa xn xc) ∧ w'.cell? ⟨w.heap.size + 1, 2, none⟩ = some (.slice ya yn yc))
   (((try dsimp only); refine ⟨?_, ?_, ?_, ?_, ?_, ?_⟩ <;> (first | exact RX.o _ _ rfl _ (by assumption) | exact RC.o _ _ rfl _ (by assumption))))
   (first | (go_at_call 91; refine (KZ.o _).mono ?_; rintro en4 w4 ⟨⟨r4, rfl, f4⟩, hb4⟩; have hz4 := q0q hz0 hb4) | (go_at_call 159; refine (KB.o _ _ (q0q HB1.o hz4) f4).mono ?_; rintro en5 w5 ⟨rfl, hb5⟩; have hz5 := q0q hz4 hb5) | (go_at_call 27; refine (KS.o _).mono ?_; rintro en6 w6 ⟨⟨g6, rfl, hg6⟩, hb6⟩; have hz6 := q0q hz5 hb6) | (go_at_call 70; refine (KP.o _ _ (q0q HB1.o hz6) hg6).mono ?_; rintro en7 w7 ⟨⟨v7, rfl, f7⟩, hb7⟩; obtain ⟨a7, n7, c7, i7, j7, k7, hq7⟩ := q8q f7; subst hq7; have hz7 := q0q hz6 hb7) | (go_at_call 77; refine (KC.o _ _ f7).mono ?_; rintro en8 w8 ⟨rfl, hb8⟩; have hz8 := q0q hz7 hb8))
  all_goals
   have HZ9 := hdd hz8
   clear hz0 hz4 hz5 hz6 hz7 hz8
   go_wp2_with fail
   go_ret
   exact ⟨by rw [HE.o]; first | done | rfl, q0q HB1.o HZ9.o⟩
theorem k2j (h : y9q N w v P) (hc : b7q N w c 3 xs ys zs) (hs : f4q N P xs zs) :
  Calls Tryz.prog 135 #[v, c] w fun e w' => e = .returned (.bool (j4q P 3 xs ys zs)) ∧ Below w.heap.size w w' := by
 have HS := hdd hs
 have HP0 := hdd h
 have HP := hdd h
 obtain ⟨fa, fc, ga, gc, ra, rc, rfl, -, -, -, hG, hR⟩ := h
 obtain ⟨xa, xc, ya, yc, za, zc, rfl, hX, hY, hZ⟩ := hc
 have HX0 := hdd hX
 have HY0 := hdd hY
 have HR := hdd hR
 obtain ⟨z, hz⟩ := qx (P.vars)
 obtain ⟨fn, hfn⟩ := qx (P.free.length)
 obtain ⟨gn, hgn⟩ := qx (P.goal.length)
 obtain ⟨rn, hrn⟩ := qx (P.rows.length)
 obtain ⟨xn, hxn⟩ := qx (xs.length)
 obtain ⟨yn, hyn⟩ := qx (ys.length)
 obtain ⟨zn, hzn⟩ := qx (zs.length)
 rw [← hz] at HP ⊢
 rw [← hfn] at HP ⊢
 rw [← hgn] at HP hG ⊢
 rw [← hrn] at HP ⊢
 rw [← hxn] at hX ⊢
 rw [← hyn] at hY ⊢
 rw [← hzn] at hZ ⊢
 have HG := hdd hG
 have HX := hdd hX
 have HY := hdd hY
 have HZ := hdd hZ
 have HEQ := hdd (And.intro hz (And.intro hfn (And.intro hgn (And.intro hrn (And.intro hxn (And.intro hyn hzn))))))
 obtain ⟨w1, hw1, HB1, HX1, HC1⟩ := al2 w #[.int .i64 z, .slice fa fn fc, .slice ga gn gc, .slice ra rn rc] 26 #[.int .i64 3, .slice xa xn xc, .slice ya yn yc, .slice za zn zc] 66
 have HW1 := hdd hw1.symm
 clear hw1 hG hR hX hY hZ hz hfn hgn hrn hxn hyn hzn hs
 have RX := hdd (q1q HX1.o)
 have RC := hdd (q1q HC1.o)
 have hb1 := Below.refl w1.heap.size w1
 obtain ⟨x0, x1, x2, x3⟩ := qz RX.o hb1
 have KR := hdd (fun w' (hb : Below w.heap.size w w') => n7q (HP.o.below hb) HS.o.1)
 cases hb : j7q P with
 | false =>
  have HE : Hi (j4q P 3 xs ys zs = false) := hdd (by unfold j4q; rw [hb]; rfl)
  rw [x6q hb] at KR
  clear hb
  go_enter Tryz.func135, Tryz.ntmps135
  go_wp2_with fail
  rw [HW1.o]
  refine (KR.o _ HB1.o).mono ?_
  rintro en2 w2 ⟨rfl, hb2⟩
  go_wp2_with fail
  go_ret
  exact ⟨by rw [HE.o]; first | done | rfl, q0q HB1.o hb2⟩
 | true =>
 have HRB := hdd hb
 rw [g5q hb] at KR
 have HFN : Hi (z = (fn : Int)) := hdd (by have h8 := (j2q hb).2.1; have := HEQ.o; omega)
 clear hb
 go_enter Tryz.func135, Tryz.ntmps135
 go_wp2_with fail
 rw [HW1.o]
 refine (KR.o _ HB1.o).mono ?_
 rintro en2 w2 ⟨rfl, hb2⟩
 have HZ2 := hdd hb2
 obtain ⟨x0, x1, x2, x3⟩ := qz RX.o hb2
 obtain ⟨c0, c1, c2, c3⟩ := qz RC.o hb2
 have hz0 : Below w1.heap.size w1 w2.drew := q5q hb2 1
 have KF := hdd (fun w' (hb : Below w.heap.size w w') => j1v (HP.o.below hb) (HX.o.below hb) HS.o.1 HS.o.2.2.2.2.1 HS.o.2.2.2.2.2.2.2.1.1 HS.o.2.2.2.2.2.2.2.1.2)
 obtain ⟨fb, hfb⟩ := qx (v5q P xs)
 rw [← hfb] at KF
 have HFB := hdd hfb
 clear hfb
 have KL := hdd (fun w' (hb : Below w.heap.size w w') => y7y (HP.o.below hb) (HZ.o.below hb) HS.o.1 HRB.o HS.o.2.1 HS.o.2.2.2.2.2.1 HS.o.2.2.2.2.1 HS.o.2.2.2.2.2.2.2.2.1 HS.o.2.2.2.2.2.2.2.2.2)
 obtain ⟨lb, hlb⟩ := qx (u5q P zs)
 rw [← hlb] at KL
 have HLB := hdd hlb
 clear hlb hz0
 go_wp2_with fail
 refine (KF.o _ (q0q HB1.o HZ2.o)).mono ?_
 rintro en4 w4 ⟨rfl, hb4⟩
 have HZ4 := hdd (q0q HZ2.o hb4)
 obtain ⟨x0, x1, x2, x3⟩ := qz RX.o HZ4.o
 have c3 := RC.o 3 _ rfl _ HZ4.o
 clear hb4
 cases fb with
 | false =>
  have HE : Hi (j4q P 3 xs ys zs = false) := hdd (by unfold j4q; rw [← HFB.o]; simp)
  go_wp2_with fail
  go_ret
  exact ⟨by rw [HE.o]; first | done | rfl, q0q HB1.o HZ4.o⟩
 | true =>
 have HE : Hi (j4q P 3 xs ys zs = lb) := hdd (by unfold j4q; rw [HRB.o, ← HFB.o, ← HLB.o]; simp)
 go_wp2_with fail
 refine (KL.o _ (q0q HB1.o HZ4.o)).mono ?_
 rintro en5 w5 ⟨rfl, hb5⟩
 have HZ5 := hdd (q0q HZ4.o hb5)
 clear hb5
 go_wp2_with fail
 go_ret
 exact ⟨by rw [HE.o]; first | done | rfl, q0q HB1.o HZ5.o⟩
theorem k1h (h : y9q N w v P) (hc : b7q N w c k xs ys zs) (hs : f4q N P xs zs) (hk : ¬ k = 1 ∧ ¬ k = 2 ∧ ¬ k = 3) :
  Calls Tryz.prog 135 #[v, c] w fun e w' => e = .returned (.bool (j4q P k xs ys zs)) ∧ Below w.heap.size w w' := by
 have HS := hdd hs
 have HP0 := hdd h
 have HP := hdd h
 obtain ⟨fa, fc, ga, gc, ra, rc, rfl, -, -, -, hG, hR⟩ := h
 obtain ⟨xa, xc, ya, yc, za, zc, rfl, hX, hY, hZ⟩ := hc
 have HX0 := hdd hX
 have HY0 := hdd hY
 have HR := hdd hR
 obtain ⟨z, hz⟩ := qx (P.vars)
 obtain ⟨fn, hfn⟩ := qx (P.free.length)
 obtain ⟨gn, hgn⟩ := qx (P.goal.length)
 obtain ⟨rn, hrn⟩ := qx (P.rows.length)
 obtain ⟨xn, hxn⟩ := qx (xs.length)
 obtain ⟨yn, hyn⟩ := qx (ys.length)
 obtain ⟨zn, hzn⟩ := qx (zs.length)
 rw [← hz] at HP ⊢
 rw [← hfn] at HP ⊢
 rw [← hgn] at HP hG ⊢
 rw [← hrn] at HP ⊢
 rw [← hxn] at hX ⊢
 rw [← hyn] at hY ⊢
 rw [← hzn] at hZ ⊢
 have HG := hdd hG
 have HX := hdd hX
 have HY := hdd hY
 have HZ := hdd hZ
 have HEQ := hdd (And.intro hz (And.intro hfn (And.intro hgn (And.intro hrn (And.intro hxn (And.intro hyn hzn))))))
 obtain ⟨w1, hw1, HB1, HX1, HC1⟩ := al2 w #[.int .i64 z, .slice fa fn fc, .slice ga gn gc, .slice ra rn rc] 26 #[.int .i64 k, .slice xa xn xc, .slice ya yn yc, .slice za zn zc] 66
 have HW1 := hdd hw1.symm
 clear hw1 hG hR hX hY hZ hz hfn hgn hrn hxn hyn hzn hs
 have RX := hdd (q1q HX1.o)
 have RC := hdd (q1q HC1.o)
 have hb1 := Below.refl w1.heap.size w1
 obtain ⟨x0, x1, x2, x3⟩ := qz RX.o hb1
 have KR := hdd (fun w' (hb : Below w.heap.size w w') => n7q (HP.o.below hb) HS.o.1)
 cases hb : j7q P with
 | false =>
  have HE : Hi (j4q P k xs ys zs = false) := hdd (by unfold j4q; rw [hb]; rfl)
  rw [x6q hb] at KR
  clear hb
  go_enter Tryz.func135, Tryz.ntmps135
  go_wp2_with fail
  rw [HW1.o]
  refine (KR.o _ HB1.o).mono ?_
  rintro en2 w2 ⟨rfl, hb2⟩
  go_wp2_with fail
  go_ret
  exact ⟨by rw [HE.o]; first | done | rfl, q0q HB1.o hb2⟩
 | true =>
 have HRB := hdd hb
 rw [g5q hb] at KR
 have HFN : Hi (z = (fn : Int)) := hdd (by have h8 := (j2q hb).2.1; have := HEQ.o; omega)
 clear hb
 go_enter Tryz.func135, Tryz.ntmps135
 go_wp2_with fail
 rw [HW1.o]
 refine (KR.o _ HB1.o).mono ?_
 rintro en2 w2 ⟨rfl, hb2⟩
 have HZ2 := hdd hb2
 obtain ⟨x0, x1, x2, x3⟩ := qz RX.o hb2
 obtain ⟨c0, c1, c2, c3⟩ := qz RC.o hb2
 have hz0 : Below w1.heap.size w1 w2.drew := q5q hb2 1
 have t1 : (k == 1) = false := by simpa using hk.1
 have t2 : (k == 2) = false := by simpa using hk.2.1
 have t3 : (k == 3) = false := by simpa using hk.2.2
 have HE : Hi (j4q P k xs ys zs = false) := hdd (by unfold j4q; rw [if_neg hk.1, if_neg hk.2.1, if_neg hk.2.2]; simp)
 clear hk
 go_wp2_with fail
 go_ret
 exact ⟨by rw [HE.o]; first | done | rfl, q0q HB1.o HZ2.o⟩
theorem g8h (h : y9q N w v P) (hc : b7q N w c 1 xs ys zs) (hs : f4q N P xs zs) (hfb0 : v5q P xs = false) :
  Calls Tryz.prog 83 #[v, c] w fun e w' => e = .returned (.bool (j4q P 1 xs ys zs)) ∧ Below w.heap.size w w' := by
 have HS := hdd hs
 have HP0 := hdd h
 have HP := hdd h
 obtain ⟨fa, fc, ga, gc, ra, rc, rfl, -, -, -, hG, hR⟩ := h
 obtain ⟨xa, xc, ya, yc, za, zc, rfl, hX, hY, hZ⟩ := hc
 have HX0 := hdd hX
 have HY0 := hdd hY
 have HR := hdd hR
 obtain ⟨z, hz⟩ := qx (P.vars)
 obtain ⟨fn, hfn⟩ := qx (P.free.length)
 obtain ⟨gn, hgn⟩ := qx (P.goal.length)
 obtain ⟨rn, hrn⟩ := qx (P.rows.length)
 obtain ⟨xn, hxn⟩ := qx (xs.length)
 obtain ⟨yn, hyn⟩ := qx (ys.length)
 obtain ⟨zn, hzn⟩ := qx (zs.length)
 rw [← hz] at HP ⊢
 rw [← hfn] at HP ⊢
 rw [← hgn] at HP hG ⊢
 rw [← hrn] at HP ⊢
 rw [← hxn] at hX ⊢
 rw [← hyn] at hY ⊢
 rw [← hzn] at hZ ⊢
 have HG := hdd hG
 have HX := hdd hX
 have HY := hdd hY
 have HZ := hdd hZ
 have HEQ := hdd (And.intro hz (And.intro hfn (And.intro hgn (And.intro hrn (And.intro hxn (And.intro hyn hzn))))))
 obtain ⟨w1, hw1, HB1, HX1, HC1⟩ := al2 w #[.int .i64 z, .slice fa fn fc, .slice ga gn gc, .slice ra rn rc] 26 #[.int .i64 1, .slice xa xn xc, .slice ya yn yc, .slice za zn zc] 66
 have HW1 := hdd hw1.symm
 clear hw1 hG hR hX hY hZ hz hfn hgn hrn hxn hyn hzn hs
 have RX := hdd (q1q HX1.o)
 have RC := hdd (q1q HC1.o)
 have hb1 := Below.refl w1.heap.size w1
 obtain ⟨x0, x1, x2, x3⟩ := qz RX.o hb1
 have KR := hdd (fun w' (hb : Below w.heap.size w w') => f7q (HP.o.below hb) HS.o.1)
 cases hb : j7q P with
 | false =>
  have HE : Hi (j4q P 1 xs ys zs = false) := hdd (by unfold j4q; rw [hb]; rfl)
  rw [x6q hb] at KR
  clear hb
  go_enter Tryz.func83, Tryz.ntmps83
  go_wp2_with fail
  rw [HW1.o]
  refine (KR.o _ HB1.o).mono ?_
  rintro en2 w2 ⟨rfl, hb2⟩
  go_wp2_with fail
  go_ret
  exact ⟨by rw [HE.o]; first | done | rfl, q0q HB1.o hb2⟩
 | true =>
 have HRB := hdd hb
 rw [g5q hb] at KR
 have HFN : Hi (z = (fn : Int)) := hdd (by have h8 := (j2q hb).2.1; have := HEQ.o; omega)
 clear hb
 go_enter Tryz.func83, Tryz.ntmps83
 go_wp2_with fail
 rw [HW1.o]
 refine (KR.o _ HB1.o).mono ?_
 rintro en2 w2 ⟨rfl, hb2⟩
 have HZ2 := hdd hb2
 obtain ⟨x0, x1, x2, x3⟩ := qz RX.o hb2
 obtain ⟨c0, c1, c2, c3⟩ := qz RC.o hb2
 have hz0 : Below w1.heap.size w1 w2.drew := q5q hb2 1
 have HSZ : Hi (w9q N P xs) := hdd ⟨HS.o.1, HS.o.2.1, HS.o.2.2.2.2.1, HS.o.2.2.2.2.2.1, HS.o.2.2.2.2.2.2.2.1.1⟩
 have HVL : Hi (j5q (y5q P xs) ≤ 4002) := hdd (h8q HP0.o HX0.o HS.o.2.2.2.2.2.2.2.1.1 HS.o.2.2.2.2.2.2.2.1.2)
 have KF := hdd (fun w' (hb : Below w.heap.size w w') => q4y (HP.o.below hb) (HX.o.below hb) HS.o.1 HS.o.2.2.2.2.1 HS.o.2.2.2.2.2.2.2.1.1 HS.o.2.2.2.2.2.2.2.1.2)
 obtain ⟨fb, hfb⟩ := qx (v5q P xs)
 rw [← hfb] at KF
 have HFB := hdd hfb
 clear hfb
 obtain ⟨sb, hsb⟩ := qx (b4q P ys)
 have HSB := hdd hsb
 have KG := hdd (fun w' (hb : Below w.heap.size w w') => q6k (HP.o.below hb) (HY.o.below hb) HRB.o HS.o.2.2.2.2.1 HS.o.2.2.1 HS.o.2.1 HS.o.2.2.2.2.2.2.1)
 rw [← hsb] at KG
 clear hsb
 have efb : fb = false := HFB.o.trans hfb0
 subst efb
 have HE : Hi (j4q P 1 xs ys zs = false) := hdd (by unfold j4q; rw [← HFB.o]; simp)
 go_wp2_with fail
 refine wp_region_held_drew (S := (fun w' => w'.cell? ⟨w.heap.size, 0, none⟩ = some (.int .i64 z) ∧ w'.cell? ⟨w.heap.size, 1, none⟩ = some (.slice fa fn fc) ∧ w'.cell? ⟨w.heap.size, 2, none⟩ = some (.slice ga gn gc) ∧ w'.cell? ⟨w.heap.size, 3, none⟩ = some (.slice ra rn rc) ∧ w'.cell? ⟨w.heap.size + 1, 1, none⟩ = some (.slice xa xn xc) ∧ w'.cell? ⟨w.heap.size + 1, 2, none⟩ = some (.slice ya yn yc))) (by kernel_rfl) ?_ (fun hHeld => ?_)
 ·
  (((try dsimp only); refine ⟨?_, ?_, ?_, ?_, ?_, ?_⟩ <;> (first | exact RX.o _ _ rfl _ (by assumption) | exact RC.o _ _ rfl _ (by assumption))))
 refine jq 0 ?_
 refine jq 1 ?_
 refine jq 2 ?_
 refine wpAnyH_ready (rs := [3]) (by kernel_rfl) (by simp) (AllReadyH.cons (o := _) rfl (fun K hK => ?_) AllReadyH.nil)
 go_simp
 (go_at_call 46; refine (KF.o _ (q0q HB1.o hz0)).mono ?_; rintro en4 w4 ⟨rfl, hb4⟩; have hz4 := q0q hz0 hb4)
 try go_wp2_with fail
 refine hK.out _ _ ?_ (fun hHeld => ?_)
 ·
  (((try dsimp only); refine ⟨?_, ?_, ?_, ?_, ?_, ?_⟩ <;> (first | exact RX.o _ _ rfl _ (by assumption) | exact RC.o _ _ rfl _ (by assumption))))
 clear hK K
 try refine lyh ?_
 refine jq 4 ?_
 refine qj 5 ?_
 refine qj 6 ?_
 refine qj 7 ?_
 refine qj 8 ?_
 refine jq 9 ?_
 refine jq 10 ?_
 refine qj 11 ?_
 refine qj 12 ?_
 refine qj 13 ?_
 refine qj 14 ?_
 refine qj 15 ?_
 refine qj 16 ?_
 refine jq 17 ?_
 refine jq 18 ?_
 refine qj 19 ?_
 refine qj 20 ?_
 refine qj 21 ?_
 refine qj 22 ?_
 refine qj 23 ?_
 refine qj 24 ?_
 refine qj 25 ?_
 refine qj 26 ?_
 refine qj 27 ?_
 refine qj 28 ?_
 refine jq 29 ?_
 refine jq 30 ?_
 refine wpAnyH_done (by kernel_rfl) ?_ _
 have HZ9 := hdd hz4
 clear hz0 hz4
 go_wp2_with fail
 go_ret
 exact ⟨by rw [HE.o]; first | done | rfl, q0q HB1.o HZ9.o⟩
theorem g9j (h : y9q N w v P) (hc : b7q N w c 1 xs ys zs) (hs : f4q N P xs zs) (hfb0 : v5q P xs = true) (hsb0 : b4q P ys = false) :
  Calls Tryz.prog 83 #[v, c] w fun e w' => e = .returned (.bool (j4q P 1 xs ys zs)) ∧ Below w.heap.size w w' := by
 have HS := hdd hs
 have HP0 := hdd h
 have HP := hdd h
 obtain ⟨fa, fc, ga, gc, ra, rc, rfl, -, -, -, hG, hR⟩ := h
 obtain ⟨xa, xc, ya, yc, za, zc, rfl, hX, hY, hZ⟩ := hc
 have HX0 := hdd hX
 have HY0 := hdd hY
 have HR := hdd hR
 obtain ⟨z, hz⟩ := qx (P.vars)
 obtain ⟨fn, hfn⟩ := qx (P.free.length)
 obtain ⟨gn, hgn⟩ := qx (P.goal.length)
 obtain ⟨rn, hrn⟩ := qx (P.rows.length)
 obtain ⟨xn, hxn⟩ := qx (xs.length)
 obtain ⟨yn, hyn⟩ := qx (ys.length)
 obtain ⟨zn, hzn⟩ := qx (zs.length)
 rw [← hz] at HP ⊢
 rw [← hfn] at HP ⊢
 rw [← hgn] at HP hG ⊢
 rw [← hrn] at HP ⊢
 rw [← hxn] at hX ⊢
 rw [← hyn] at hY ⊢
 rw [← hzn] at hZ ⊢
 have HG := hdd hG
 have HX := hdd hX
 have HY := hdd hY
 have HZ := hdd hZ
 have HEQ := hdd (And.intro hz (And.intro hfn (And.intro hgn (And.intro hrn (And.intro hxn (And.intro hyn hzn))))))
 obtain ⟨w1, hw1, HB1, HX1, HC1⟩ := al2 w #[.int .i64 z, .slice fa fn fc, .slice ga gn gc, .slice ra rn rc] 26 #[.int .i64 1, .slice xa xn xc, .slice ya yn yc, .slice za zn zc] 66
 have HW1 := hdd hw1.symm
 clear hw1 hG hR hX hY hZ hz hfn hgn hrn hxn hyn hzn hs
 have RX := hdd (q1q HX1.o)
 have RC := hdd (q1q HC1.o)
 have hb1 := Below.refl w1.heap.size w1
 obtain ⟨x0, x1, x2, x3⟩ := qz RX.o hb1
 have KR := hdd (fun w' (hb : Below w.heap.size w w') => f7q (HP.o.below hb) HS.o.1)
 cases hb : j7q P with
 | false =>
  have HE : Hi (j4q P 1 xs ys zs = false) := hdd (by unfold j4q; rw [hb]; rfl)
  rw [x6q hb] at KR
  clear hb
  go_enter Tryz.func83, Tryz.ntmps83
  go_wp2_with fail
  rw [HW1.o]
  refine (KR.o _ HB1.o).mono ?_
  rintro en2 w2 ⟨rfl, hb2⟩
  go_wp2_with fail
  go_ret
  exact ⟨by rw [HE.o]; first | done | rfl, q0q HB1.o hb2⟩
 | true =>
 have HRB := hdd hb
 rw [g5q hb] at KR
 have HFN : Hi (z = (fn : Int)) := hdd (by have h8 := (j2q hb).2.1; have := HEQ.o; omega)
 clear hb
 go_enter Tryz.func83, Tryz.ntmps83
 go_wp2_with fail
 rw [HW1.o]
 refine (KR.o _ HB1.o).mono ?_
 rintro en2 w2 ⟨rfl, hb2⟩
 have HZ2 := hdd hb2
 obtain ⟨x0, x1, x2, x3⟩ := qz RX.o hb2
 obtain ⟨c0, c1, c2, c3⟩ := qz RC.o hb2
 have hz0 : Below w1.heap.size w1 w2.drew := q5q hb2 1
 have HSZ : Hi (w9q N P xs) := hdd ⟨HS.o.1, HS.o.2.1, HS.o.2.2.2.2.1, HS.o.2.2.2.2.2.1, HS.o.2.2.2.2.2.2.2.1.1⟩
 have HVL : Hi (j5q (y5q P xs) ≤ 4002) := hdd (h8q HP0.o HX0.o HS.o.2.2.2.2.2.2.2.1.1 HS.o.2.2.2.2.2.2.2.1.2)
 have KF := hdd (fun w' (hb : Below w.heap.size w w') => q4y (HP.o.below hb) (HX.o.below hb) HS.o.1 HS.o.2.2.2.2.1 HS.o.2.2.2.2.2.2.2.1.1 HS.o.2.2.2.2.2.2.2.1.2)
 obtain ⟨fb, hfb⟩ := qx (v5q P xs)
 rw [← hfb] at KF
 have HFB := hdd hfb
 clear hfb
 obtain ⟨sb, hsb⟩ := qx (b4q P ys)
 have HSB := hdd hsb
 have KG := hdd (fun w' (hb : Below w.heap.size w w') => q6k (HP.o.below hb) (HY.o.below hb) HRB.o HS.o.2.2.2.2.1 HS.o.2.2.1 HS.o.2.1 HS.o.2.2.2.2.2.2.1)
 rw [← hsb] at KG
 clear hsb
 have efb : fb = true := HFB.o.trans hfb0
 subst efb
 have esb : sb = false := HSB.o.trans hsb0
 subst esb
 have HE : Hi (j4q P 1 xs ys zs = false) := hdd (by unfold j4q; rw [t3q, ← HSB.o]; simp)
 go_wp2_with fail
 refine wp_region_held_drew (S := (fun w' => w'.cell? ⟨w.heap.size, 0, none⟩ = some (.int .i64 z) ∧ w'.cell? ⟨w.heap.size, 1, none⟩ = some (.slice fa fn fc) ∧ w'.cell? ⟨w.heap.size, 2, none⟩ = some (.slice ga gn gc) ∧ w'.cell? ⟨w.heap.size, 3, none⟩ = some (.slice ra rn rc) ∧ w'.cell? ⟨w.heap.size + 1, 1, none⟩ = some (.slice xa xn xc) ∧ w'.cell? ⟨w.heap.size + 1, 2, none⟩ = some (.slice ya yn yc))) (by kernel_rfl) ?_ (fun hHeld => ?_)
 ·
  (((try dsimp only); refine ⟨?_, ?_, ?_, ?_, ?_, ?_⟩ <;> (first | exact RX.o _ _ rfl _ (by assumption) | exact RC.o _ _ rfl _ (by assumption))))
 refine jq 0 ?_
 refine jq 1 ?_
 refine jq 2 ?_
 refine wpAnyH_ready (rs := [3]) (by kernel_rfl) (by simp) (AllReadyH.cons (o := _) rfl (fun K hK => ?_) AllReadyH.nil)
 go_simp
 (go_at_call 46; refine (KF.o _ (q0q HB1.o hz0)).mono ?_; rintro en4 w4 ⟨rfl, hb4⟩; have hz4 := q0q hz0 hb4)
 try go_wp2_with fail
 refine hK.out _ _ ?_ (fun hHeld => ?_)
 ·
  (((try dsimp only); refine ⟨?_, ?_, ?_, ?_, ?_, ?_⟩ <;> (first | exact RX.o _ _ rfl _ (by assumption) | exact RC.o _ _ rfl _ (by assumption))))
 clear hK K
 try refine lyh ?_
 refine jq 4 ?_
 refine jq 5 ?_
 refine jq 6 ?_
 refine jq 7 ?_
 refine wpAnyH_ready (rs := [8]) (by kernel_rfl) (by simp) (AllReadyH.cons (o := _) rfl (fun K hK => ?_) AllReadyH.nil)
 go_simp
 (go_at_call 110; refine (KG.o _ (q0q HB1.o hz4)).mono ?_; rintro en5 w5 ⟨rfl, hb5⟩; have hz5 := q0q hz4 hb5)
 try go_wp2_with fail
 refine hK.out _ _ ?_ (fun hHeld => ?_)
 ·
  (((try dsimp only); refine ⟨?_, ?_, ?_, ?_, ?_, ?_⟩ <;> (first | exact RX.o _ _ rfl _ (by assumption) | exact RC.o _ _ rfl _ (by assumption))))
 clear hK K
 try refine lyh ?_
 refine jq 9 ?_
 refine jq 10 ?_
 refine qj 11 ?_
 refine qj 12 ?_
 refine qj 13 ?_
 refine qj 14 ?_
 refine qj 15 ?_
 refine qj 16 ?_
 refine jq 17 ?_
 refine jq 18 ?_
 refine qj 19 ?_
 refine qj 20 ?_
 refine qj 21 ?_
 refine qj 22 ?_
 refine qj 23 ?_
 refine qj 24 ?_
 refine qj 25 ?_
 refine qj 26 ?_
 refine qj 27 ?_
 refine qj 28 ?_
 refine jq 29 ?_
 refine jq 30 ?_
 refine wpAnyH_done (by kernel_rfl) ?_ _
 have HZ9 := hdd hz5
 clear hz0 hz4 hz5
 go_wp2_with fail
 go_ret
 exact ⟨by rw [HE.o]; first | done | rfl, q0q HB1.o HZ9.o⟩
theorem g9z (h : y9q N w v P) (hc : b7q N w c 1 xs ys zs) (hs : f4q N P xs zs) (hfb0 : v5q P xs = true) (hsb0 : b4q P ys = true) (hcb0 : f6q P ys P.goal = false) :
  Calls Tryz.prog 83 #[v, c] w fun e w' => e = .returned (.bool (j4q P 1 xs ys zs)) ∧ Below w.heap.size w w' := by
 have HS := hdd hs
 have HP0 := hdd h
 have HP := hdd h
 obtain ⟨fa, fc, ga, gc, ra, rc, rfl, -, -, -, hG, hR⟩ := h
 obtain ⟨xa, xc, ya, yc, za, zc, rfl, hX, hY, hZ⟩ := hc
 have HX0 := hdd hX
 have HY0 := hdd hY
 have HR := hdd hR
 obtain ⟨z, hz⟩ := qx (P.vars)
 obtain ⟨fn, hfn⟩ := qx (P.free.length)
 obtain ⟨gn, hgn⟩ := qx (P.goal.length)
 obtain ⟨rn, hrn⟩ := qx (P.rows.length)
 obtain ⟨xn, hxn⟩ := qx (xs.length)
 obtain ⟨yn, hyn⟩ := qx (ys.length)
 obtain ⟨zn, hzn⟩ := qx (zs.length)
 rw [← hz] at HP ⊢
 rw [← hfn] at HP ⊢
 rw [← hgn] at HP hG ⊢
 rw [← hrn] at HP ⊢
 rw [← hxn] at hX ⊢
 rw [← hyn] at hY ⊢
 rw [← hzn] at hZ ⊢
 have HG := hdd hG
 have HX := hdd hX
 have HY := hdd hY
 have HZ := hdd hZ
 have HEQ := hdd (And.intro hz (And.intro hfn (And.intro hgn (And.intro hrn (And.intro hxn (And.intro hyn hzn))))))
 obtain ⟨w1, hw1, HB1, HX1, HC1⟩ := al2 w #[.int .i64 z, .slice fa fn fc, .slice ga gn gc, .slice ra rn rc] 26 #[.int .i64 1, .slice xa xn xc, .slice ya yn yc, .slice za zn zc] 66
 have HW1 := hdd hw1.symm
 clear hw1 hG hR hX hY hZ hz hfn hgn hrn hxn hyn hzn hs
 have RX := hdd (q1q HX1.o)
 have RC := hdd (q1q HC1.o)
 have hb1 := Below.refl w1.heap.size w1
 obtain ⟨x0, x1, x2, x3⟩ := qz RX.o hb1
 have KR := hdd (fun w' (hb : Below w.heap.size w w') => f7q (HP.o.below hb) HS.o.1)
 cases hb : j7q P with
 | false =>
  have HE : Hi (j4q P 1 xs ys zs = false) := hdd (by unfold j4q; rw [hb]; rfl)
  rw [x6q hb] at KR
  clear hb
  go_enter Tryz.func83, Tryz.ntmps83
  go_wp2_with fail
  rw [HW1.o]
  refine (KR.o _ HB1.o).mono ?_
  rintro en2 w2 ⟨rfl, hb2⟩
  go_wp2_with fail
  go_ret
  exact ⟨by rw [HE.o]; first | done | rfl, q0q HB1.o hb2⟩
 | true =>
 have HRB := hdd hb
 rw [g5q hb] at KR
 have HFN : Hi (z = (fn : Int)) := hdd (by have h8 := (j2q hb).2.1; have := HEQ.o; omega)
 clear hb
 go_enter Tryz.func83, Tryz.ntmps83
 go_wp2_with fail
 rw [HW1.o]
 refine (KR.o _ HB1.o).mono ?_
 rintro en2 w2 ⟨rfl, hb2⟩
 have HZ2 := hdd hb2
 obtain ⟨x0, x1, x2, x3⟩ := qz RX.o hb2
 obtain ⟨c0, c1, c2, c3⟩ := qz RC.o hb2
 have hz0 : Below w1.heap.size w1 w2.drew := q5q hb2 1
 have HSZ : Hi (w9q N P xs) := hdd ⟨HS.o.1, HS.o.2.1, HS.o.2.2.2.2.1, HS.o.2.2.2.2.2.1, HS.o.2.2.2.2.2.2.2.1.1⟩
 have HVL : Hi (j5q (y5q P xs) ≤ 4002) := hdd (h8q HP0.o HX0.o HS.o.2.2.2.2.2.2.2.1.1 HS.o.2.2.2.2.2.2.2.1.2)
 have KF := hdd (fun w' (hb : Below w.heap.size w w') => q4y (HP.o.below hb) (HX.o.below hb) HS.o.1 HS.o.2.2.2.2.1 HS.o.2.2.2.2.2.2.2.1.1 HS.o.2.2.2.2.2.2.2.1.2)
 obtain ⟨fb, hfb⟩ := qx (v5q P xs)
 rw [← hfb] at KF
 have HFB := hdd hfb
 clear hfb
 obtain ⟨sb, hsb⟩ := qx (b4q P ys)
 have HSB := hdd hsb
 have KG := hdd (fun w' (hb : Below w.heap.size w w') => q6k (HP.o.below hb) (HY.o.below hb) HRB.o HS.o.2.2.2.2.1 HS.o.2.2.1 HS.o.2.1 HS.o.2.2.2.2.2.2.1)
 rw [← hsb] at KG
 clear hsb
 have efb : fb = true := HFB.o.trans hfb0
 subst efb
 have esb : sb = true := HSB.o.trans hsb0
 subst esb
 obtain ⟨cb, hcb⟩ := qx (f6q P ys P.goal)
 have HCB := hdd hcb
 have KT := hdd (fun w' (hb : Below w.heap.size w w') => j7w (HP.o.below hb) (HY.o.below hb) (HG.o.below hb) HRB.o (j2q HRB.o).1 (n2q HSB.o.symm) HS.o.2.2.2.2.1 HS.o.2.2.1 HS.o.2.1 HS.o.2.2.2.2.2.2.1)
 rw [← hcb] at KT
 clear hcb
 have ecb : cb = false := HCB.o.trans hcb0
 subst ecb
 have HE : Hi (j4q P 1 xs ys zs = false) := hdd (by unfold j4q; rw [t3q, ← HCB.o]; simp)
 go_wp2_with fail
 refine wp_region_held_drew (S := (fun w' => w'.cell? ⟨w.heap.size, 0, none⟩ = some (.int .i64 z) ∧ w'.cell? ⟨w.heap.size, 1, none⟩ = some (.slice fa fn fc) ∧ w'.cell? ⟨w.heap.size, 2, none⟩ = some (.slice ga gn gc) ∧ w'.cell? ⟨w.heap.size, 3, none⟩ = some (.slice ra rn rc) ∧ w'.cell? ⟨w.heap.size + 1, 1, none⟩ = some (.slice xa xn xc) ∧ w'.cell? ⟨w.heap.size + 1, 2, none⟩ = some (.slice ya yn yc))) (by kernel_rfl) ?_ (fun hHeld => ?_)
 ·
  (((try dsimp only); refine ⟨?_, ?_, ?_, ?_, ?_, ?_⟩ <;> (first | exact RX.o _ _ rfl _ (by assumption) | exact RC.o _ _ rfl _ (by assumption))))
 refine jq 0 ?_
 refine jq 1 ?_
 refine jq 2 ?_
 refine wpAnyH_ready (rs := [3]) (by kernel_rfl) (by simp) (AllReadyH.cons (o := _) rfl (fun K hK => ?_) AllReadyH.nil)
 go_simp
 (go_at_call 46; refine (KF.o _ (q0q HB1.o hz0)).mono ?_; rintro en4 w4 ⟨rfl, hb4⟩; have hz4 := q0q hz0 hb4)
 try go_wp2_with fail
 refine hK.out _ _ ?_ (fun hHeld => ?_)
 ·
  (((try dsimp only); refine ⟨?_, ?_, ?_, ?_, ?_, ?_⟩ <;> (first | exact RX.o _ _ rfl _ (by assumption) | exact RC.o _ _ rfl _ (by assumption))))
 clear hK K
 try refine lyh ?_
 refine jq 4 ?_
 refine jq 5 ?_
 refine jq 6 ?_
 refine jq 7 ?_
 refine wpAnyH_ready (rs := [8]) (by kernel_rfl) (by simp) (AllReadyH.cons (o := _) rfl (fun K hK => ?_) AllReadyH.nil)
 go_simp
 (go_at_call 110; refine (KG.o _ (q0q HB1.o hz4)).mono ?_; rintro en5 w5 ⟨rfl, hb5⟩; have hz5 := q0q hz4 hb5)
 try go_wp2_with fail
 refine hK.out _ _ ?_ (fun hHeld => ?_)
 ·
  (((try dsimp only); refine ⟨?_, ?_, ?_, ?_, ?_, ?_⟩ <;> (first | exact RX.o _ _ rfl _ (by assumption) | exact RC.o _ _ rfl _ (by assumption))))
 clear hK K
 try refine lyh ?_
 refine jq 9 ?_
 refine jq 10 ?_
 refine jq 11 ?_
 refine jq 12 ?_
 refine jq 13 ?_
 refine jq 14 ?_
 refine jq 15 ?_
 refine wpAnyH_ready (rs := [16]) (by kernel_rfl) (by simp) (AllReadyH.cons (o := _) rfl (fun K hK => ?_) AllReadyH.nil)
 go_simp
 (go_at_call 111; refine (KT.o _ (q0q HB1.o hz5)).mono ?_; rintro en6 w6 ⟨rfl, hb6⟩; have hz6 := q0q hz5 hb6)
 try go_wp2_with fail
 refine hK.out _ _ ?_ (fun hHeld => ?_)
 ·
  (((try dsimp only); refine ⟨?_, ?_, ?_, ?_, ?_, ?_⟩ <;> (first | exact RX.o _ _ rfl _ (by assumption) | exact RC.o _ _ rfl _ (by assumption))))
 clear hK K
 try refine lyh ?_
 refine jq 17 ?_
 refine jq 18 ?_
 refine qj 19 ?_
 refine qj 20 ?_
 refine qj 21 ?_
 refine qj 22 ?_
 refine qj 23 ?_
 refine qj 24 ?_
 refine qj 25 ?_
 refine qj 26 ?_
 refine qj 27 ?_
 refine qj 28 ?_
 refine jq 29 ?_
 refine jq 30 ?_
 refine wpAnyH_done (by kernel_rfl) ?_ _
 have HZ9 := hdd hz6
 clear hz0 hz4 hz5 hz6
 go_wp2_with fail
 go_ret
 exact ⟨by rw [HE.o]; first | done | rfl, q0q HB1.o HZ9.o⟩
theorem g9y (h : y9q N w v P) (hc : b7q N w c 1 xs ys zs) (hs : f4q N P xs zs) (hfb0 : v5q P xs = true) (hsb0 : b4q P ys = true) (hcb0 : f6q P ys P.goal = true) :
  Calls Tryz.prog 83 #[v, c] w fun e w' => e = .returned (.bool (j4q P 1 xs ys zs)) ∧ Below w.heap.size w w' := by
 have HS := hdd hs
 have HP0 := hdd h
 have HP := hdd h
 obtain ⟨fa, fc, ga, gc, ra, rc, rfl, -, -, -, hG, hR⟩ := h
 obtain ⟨xa, xc, ya, yc, za, zc, rfl, hX, hY, hZ⟩ := hc
 have HX0 := hdd hX
 have HY0 := hdd hY
 have HR := hdd hR
 obtain ⟨z, hz⟩ := qx (P.vars)
 obtain ⟨fn, hfn⟩ := qx (P.free.length)
 obtain ⟨gn, hgn⟩ := qx (P.goal.length)
 obtain ⟨rn, hrn⟩ := qx (P.rows.length)
 obtain ⟨xn, hxn⟩ := qx (xs.length)
 obtain ⟨yn, hyn⟩ := qx (ys.length)
 obtain ⟨zn, hzn⟩ := qx (zs.length)
 rw [← hz] at HP ⊢
 rw [← hfn] at HP ⊢
 rw [← hgn] at HP hG ⊢
 rw [← hrn] at HP ⊢
 rw [← hxn] at hX ⊢
 rw [← hyn] at hY ⊢
 rw [← hzn] at hZ ⊢
 have HG := hdd hG
 have HX := hdd hX
 have HY := hdd hY
 have HZ := hdd hZ
 have HEQ := hdd (And.intro hz (And.intro hfn (And.intro hgn (And.intro hrn (And.intro hxn (And.intro hyn hzn))))))
 obtain ⟨w1, hw1, HB1, HX1, HC1⟩ := al2 w #[.int .i64 z, .slice fa fn fc, .slice ga gn gc, .slice ra rn rc] 26 #[.int .i64 1, .slice xa xn xc, .slice ya yn yc, .slice za zn zc] 66
 have HW1 := hdd hw1.symm
 clear hw1 hG hR hX hY hZ hz hfn hgn hrn hxn hyn hzn hs
 have RX := hdd (q1q HX1.o)
 have RC := hdd (q1q HC1.o)
 have hb1 := Below.refl w1.heap.size w1
 obtain ⟨x0, x1, x2, x3⟩ := qz RX.o hb1
 have KR := hdd (fun w' (hb : Below w.heap.size w w') => f7q (HP.o.below hb) HS.o.1)
 cases hb : j7q P with
 | false =>
  have HE : Hi (j4q P 1 xs ys zs = false) := hdd (by unfold j4q; rw [hb]; rfl)
  rw [x6q hb] at KR
  clear hb
  go_enter Tryz.func83, Tryz.ntmps83
  go_wp2_with fail
  rw [HW1.o]
  refine (KR.o _ HB1.o).mono ?_
  rintro en2 w2 ⟨rfl, hb2⟩
  go_wp2_with fail
  go_ret
  exact ⟨by rw [HE.o]; first | done | rfl, q0q HB1.o hb2⟩
 | true =>
 have HRB := hdd hb
 rw [g5q hb] at KR
 have HFN : Hi (z = (fn : Int)) := hdd (by have h8 := (j2q hb).2.1; have := HEQ.o; omega)
 clear hb
 go_enter Tryz.func83, Tryz.ntmps83
 go_wp2_with fail
 rw [HW1.o]
 refine (KR.o _ HB1.o).mono ?_
 rintro en2 w2 ⟨rfl, hb2⟩
 have HZ2 := hdd hb2
 obtain ⟨x0, x1, x2, x3⟩ := qz RX.o hb2
 obtain ⟨c0, c1, c2, c3⟩ := qz RC.o hb2
 have hz0 : Below w1.heap.size w1 w2.drew := q5q hb2 1
 have HSZ : Hi (w9q N P xs) := hdd ⟨HS.o.1, HS.o.2.1, HS.o.2.2.2.2.1, HS.o.2.2.2.2.2.1, HS.o.2.2.2.2.2.2.2.1.1⟩
 have HVL : Hi (j5q (y5q P xs) ≤ 4002) := hdd (h8q HP0.o HX0.o HS.o.2.2.2.2.2.2.2.1.1 HS.o.2.2.2.2.2.2.2.1.2)
 have KF := hdd (fun w' (hb : Below w.heap.size w w') => q4y (HP.o.below hb) (HX.o.below hb) HS.o.1 HS.o.2.2.2.2.1 HS.o.2.2.2.2.2.2.2.1.1 HS.o.2.2.2.2.2.2.2.1.2)
 obtain ⟨fb, hfb⟩ := qx (v5q P xs)
 rw [← hfb] at KF
 have HFB := hdd hfb
 clear hfb
 obtain ⟨sb, hsb⟩ := qx (b4q P ys)
 have HSB := hdd hsb
 have KG := hdd (fun w' (hb : Below w.heap.size w w') => q6k (HP.o.below hb) (HY.o.below hb) HRB.o HS.o.2.2.2.2.1 HS.o.2.2.1 HS.o.2.1 HS.o.2.2.2.2.2.2.1)
 rw [← hsb] at KG
 clear hsb
 have efb : fb = true := HFB.o.trans hfb0
 subst efb
 have esb : sb = true := HSB.o.trans hsb0
 subst esb
 obtain ⟨cb, hcb⟩ := qx (f6q P ys P.goal)
 have HCB := hdd hcb
 have KT := hdd (fun w' (hb : Below w.heap.size w w') => j7w (HP.o.below hb) (HY.o.below hb) (HG.o.below hb) HRB.o (j2q HRB.o).1 (n2q HSB.o.symm) HS.o.2.2.2.2.1 HS.o.2.2.1 HS.o.2.1 HS.o.2.2.2.2.2.2.1)
 rw [← hcb] at KT
 clear hcb
 have ecb : cb = true := HCB.o.trans hcb0
 subst ecb
 have HYR : Hi (yn = rn) := hdd (by have h9 := n2q HSB.o.symm; have := HEQ.o; omega)
 have HSL : Hi (j5q (n1q P ys) ≤ 4002) := hdd (j3k HP0.o HY0.o (n2q HSB.o.symm) HS.o.2.2.2.2.1 HS.o.2.2.1 HS.o.2.2.2.2.2.2.1)
 obtain ⟨Sd, hS⟩ := qx (n1q P ys)
 have HSD := hdd hS
 rw [← hS] at HSL
 have KP := hdd (fun w' (hb : Below w.heap.size w w') => y9j (HP.o.below hb) (HY.o.below hb) HRB.o (n2q HSB.o.symm) HS.o.2.2.2.2.1 HS.o.2.2.1 HS.o.2.1 HS.o.2.2.2.2.2.2.1)
 rw [← hS] at KP
 clear hS
 obtain ⟨V, hV⟩ := qx (y5q P xs)
 have HVV := hdd hV
 rw [← hV] at HVL
 have KV := hdd (fun w' (hb : Below w.heap.size w w') => z2h (HP.o.below hb) (HX.o.below hb) HSZ.o)
 rw [← hV] at KV
 have KC := hdd (fun w' y y2 (hy : j3q w' y Sd) (hy2 : j3q w' y2 V) => j1x (n := 4096) (m := 4096) (hy.sz (by have := HSL.o; omega) (by have := HSL.o; omega)) (hy2.sz (by have := HVL.o; omega) (by have := HVL.o; omega)) (by omega) (by omega))
 obtain ⟨o, ho⟩ := qx (z7q Sd V)
 rw [← ho] at KC
 have HO := hdd ho
 clear hV ho
 by_cases h0 : o = 0
 ·
  have u : (o == 0) = true := by simpa using h0
  have HE : Hi (j4q P 1 xs ys zs = true) := hdd (by unfold j4q; rw [HRB.o, t3q, ← HFB.o, ← HSB.o, ← HCB.o, ← HSD.o, ← HVV.o, ← HO.o]; simp [h0])
  clear h0
  go_wp2_with fail
  go_region_held3 (fun w' => w'.cell? ⟨w.heap.size, 0, none⟩ = some (.int .i64 z) ∧ w'.cell? ⟨w.heap.size, 1, none⟩ = some (.slice fa fn fc) ∧ w'.cell? ⟨w.heap.size, 2, none⟩ = some (.slice ga gn gc) ∧ w'.cell? ⟨w.heap.size, 3, none⟩ = some (.slice ra rn rc) ∧ w'.cell? ⟨w.heap.size + 1, 1, none⟩ = some (.slice xa xn xc) ∧ w'.cell? ⟨w.heap.size + 1, 2, none⟩ = some (.slice ya yn yc))
   (((try dsimp only); refine ⟨?_, ?_, ?_, ?_, ?_, ?_⟩ <;> (first | exact RX.o _ _ rfl _ (by assumption) | exact RC.o _ _ rfl _ (by assumption))))
   (first | (go_at_call 46; refine (KF.o _ (q0q HB1.o hz0)).mono ?_; rintro en4 w4 ⟨rfl, hb4⟩; have hz4 := q0q hz0 hb4) | (go_at_call 110; refine (KG.o _ (q0q HB1.o hz4)).mono ?_; rintro en5 w5 ⟨rfl, hb5⟩; have hz5 := q0q hz4 hb5) | (go_at_call 111; refine (KT.o _ (q0q HB1.o hz5)).mono ?_; rintro en6 w6 ⟨rfl, hb6⟩; have hz6 := q0q hz5 hb6) | (go_at_call 112; refine (KP.o _ (q0q HB1.o hz6)).mono ?_; rintro en7 w7 ⟨⟨v7, rfl, f7⟩, hb7⟩; obtain ⟨a7, n7, c7, i7, j7, k7, hq7⟩ := q8q f7; subst hq7; have hz7 := q0q hz6 hb7) | (go_at_call 84; refine (KV.o _ (q0q HB1.o hz7)).mono ?_; rintro en8 w8 ⟨⟨v8, rfl, f8⟩, hb8⟩; obtain ⟨a8, n8, c8, i8, j8, k8, hq8⟩ := q8q f8; subst hq8; have hz8 := q0q hz7 hb8) | (go_at_call 66; refine (KC.o _ _ _ (f7.below hb8) f8).mono ?_; rintro en9 w9 ⟨rfl, hb9⟩; have hz9 := q0q hz8 hb9))
  all_goals
   have HZ9 := hdd hz9
   clear hz0 hz4 hz5 hz6 hz7 hz8 hz9
   go_wp2_with fail
   go_ret
   exact ⟨by rw [HE.o]; first | done | rfl, q0q HB1.o HZ9.o⟩
 ·
  have u : (o == 0) = false := by simpa using h0
  have HE : Hi (j4q P 1 xs ys zs = false) := hdd (by unfold j4q; rw [HRB.o, t3q, ← HFB.o, ← HSB.o, ← HCB.o, ← HSD.o, ← HVV.o, ← HO.o]; simp [h0])
  clear h0
  go_wp2_with fail
  go_region_held3 (fun w' => w'.cell? ⟨w.heap.size, 0, none⟩ = some (.int .i64 z) ∧ w'.cell? ⟨w.heap.size, 1, none⟩ = some (.slice fa fn fc) ∧ w'.cell? ⟨w.heap.size, 2, none⟩ = some (.slice ga gn gc) ∧ w'.cell? ⟨w.heap.size, 3, none⟩ = some (.slice ra rn rc) ∧ w'.cell? ⟨w.heap.size + 1, 1, none⟩ = some (.slice xa xn xc) ∧ w'.cell? ⟨w.heap.size + 1, 2, none⟩ = some (.slice ya yn yc))
   (((try dsimp only); refine ⟨?_, ?_, ?_, ?_, ?_, ?_⟩ <;> (first | exact RX.o _ _ rfl _ (by assumption) | exact RC.o _ _ rfl _ (by assumption))))
   (first | (go_at_call 46; refine (KF.o _ (q0q HB1.o hz0)).mono ?_; rintro en4 w4 ⟨rfl, hb4⟩; have hz4 := q0q hz0 hb4) | (go_at_call 110; refine (KG.o _ (q0q HB1.o hz4)).mono ?_; rintro en5 w5 ⟨rfl, hb5⟩; have hz5 := q0q hz4 hb5) | (go_at_call 111; refine (KT.o _ (q0q HB1.o hz5)).mono ?_; rintro en6 w6 ⟨rfl, hb6⟩; have hz6 := q0q hz5 hb6) | (go_at_call 112; refine (KP.o _ (q0q HB1.o hz6)).mono ?_; rintro en7 w7 ⟨⟨v7, rfl, f7⟩, hb7⟩; obtain ⟨a7, n7, c7, i7, j7, k7, hq7⟩ := q8q f7; subst hq7; have hz7 := q0q hz6 hb7) | (go_at_call 84; refine (KV.o _ (q0q HB1.o hz7)).mono ?_; rintro en8 w8 ⟨⟨v8, rfl, f8⟩, hb8⟩; obtain ⟨a8, n8, c8, i8, j8, k8, hq8⟩ := q8q f8; subst hq8; have hz8 := q0q hz7 hb8) | (go_at_call 66; refine (KC.o _ _ _ (f7.below hb8) f8).mono ?_; rintro en9 w9 ⟨rfl, hb9⟩; have hz9 := q0q hz8 hb9))
  all_goals
   have HZ9 := hdd hz9
   clear hz0 hz4 hz5 hz6 hz7 hz8 hz9
   go_wp2_with fail
   go_ret
   exact ⟨by rw [HE.o]; first | done | rfl, q0q HB1.o HZ9.o⟩
theorem g6x {q : Rat} (h : j3q w v q) (h1 : (q2q q.num.natAbs).length ≤ N) (h2 : (q2q q.den).length ≤ N) (hl : j5q q ≤ 4096) : v6q N w v q := by
 obtain ⟨u, d, rfl, hu, hd⟩ := h
 exact ⟨_, _, _, ⟨_, _, rfl, hu, hd⟩, (t4q hl).symm, h1, h2⟩
theorem k2v (h : y9q N w v P) (hc : b7q N w c 2 xs ys zs) (hs : f4q N P xs zs) :
  Calls Tryz.prog 83 #[v, c] w fun e w' => e = .returned (.bool (j4q P 2 xs ys zs)) ∧ Below w.heap.size w w' := by
 have HS := hdd hs
 have HP0 := hdd h
 have HP := hdd h
 obtain ⟨fa, fc, ga, gc, ra, rc, rfl, -, -, -, hG, hR⟩ := h
 obtain ⟨xa, xc, ya, yc, za, zc, rfl, hX, hY, hZ⟩ := hc
 have HX0 := hdd hX
 have HY0 := hdd hY
 have HR := hdd hR
 obtain ⟨z, hz⟩ := qx (P.vars)
 obtain ⟨fn, hfn⟩ := qx (P.free.length)
 obtain ⟨gn, hgn⟩ := qx (P.goal.length)
 obtain ⟨rn, hrn⟩ := qx (P.rows.length)
 obtain ⟨xn, hxn⟩ := qx (xs.length)
 obtain ⟨yn, hyn⟩ := qx (ys.length)
 obtain ⟨zn, hzn⟩ := qx (zs.length)
 rw [← hz] at HP ⊢
 rw [← hfn] at HP ⊢
 rw [← hgn] at HP hG ⊢
 rw [← hrn] at HP ⊢
 rw [← hxn] at hX ⊢
 rw [← hyn] at hY ⊢
 rw [← hzn] at hZ ⊢
 have HG := hdd hG
 have HX := hdd hX
 have HY := hdd hY
 have HZ := hdd hZ
 have HEQ := hdd (And.intro hz (And.intro hfn (And.intro hgn (And.intro hrn (And.intro hxn (And.intro hyn hzn))))))
 obtain ⟨w1, hw1, HB1, HX1, HC1⟩ := al2 w #[.int .i64 z, .slice fa fn fc, .slice ga gn gc, .slice ra rn rc] 26 #[.int .i64 2, .slice xa xn xc, .slice ya yn yc, .slice za zn zc] 66
 have HW1 := hdd hw1.symm
 clear hw1 hG hR hX hY hZ hz hfn hgn hrn hxn hyn hzn hs
 have RX := hdd (q1q HX1.o)
 have RC := hdd (q1q HC1.o)
 have hb1 := Below.refl w1.heap.size w1
 obtain ⟨x0, x1, x2, x3⟩ := qz RX.o hb1
 have KR := hdd (fun w' (hb : Below w.heap.size w w') => f7q (HP.o.below hb) HS.o.1)
 cases hb : j7q P with
 | false =>
  have HE : Hi (j4q P 2 xs ys zs = false) := hdd (by unfold j4q; rw [hb]; rfl)
  rw [x6q hb] at KR
  clear hb
  go_enter Tryz.func83, Tryz.ntmps83
  go_wp2_with fail
  rw [HW1.o]
  refine (KR.o _ HB1.o).mono ?_
  rintro en2 w2 ⟨rfl, hb2⟩
  go_wp2_with fail
  go_ret
  exact ⟨by rw [HE.o]; first | done | rfl, q0q HB1.o hb2⟩
 | true =>
 have HRB := hdd hb
 rw [g5q hb] at KR
 have HFN : Hi (z = (fn : Int)) := hdd (by have h8 := (j2q hb).2.1; have := HEQ.o; omega)
 clear hb
 go_enter Tryz.func83, Tryz.ntmps83
 go_wp2_with fail
 rw [HW1.o]
 refine (KR.o _ HB1.o).mono ?_
 rintro en2 w2 ⟨rfl, hb2⟩
 have HZ2 := hdd hb2
 obtain ⟨x0, x1, x2, x3⟩ := qz RX.o hb2
 obtain ⟨c0, c1, c2, c3⟩ := qz RC.o hb2
 have hz0 : Below w1.heap.size w1 w2.drew := q5q hb2 1
 obtain ⟨sb, hsb⟩ := qx (b4q P ys)
 have HSB := hdd hsb
 have KG := hdd (fun w' (hb : Below w.heap.size w w') => q6k (HP.o.below hb) (HY.o.below hb) HRB.o HS.o.2.2.2.2.1 HS.o.2.2.1 HS.o.2.1 HS.o.2.2.2.2.2.2.1)
 rw [← hsb] at KG
 clear hsb
 obtain ⟨U0, hU0⟩ := qx ((0 : Rat))
 have HU0 := hdd hU0
 have KW : Hi (∀ w', Calls Tryz.prog 65 #[.int .i64 0] w' (h0q w' U0)) := hdd (fun w' => by rw [hU0]; exact q0v)
 have HUL : Hi ((q2q U0.num.natAbs).length ≤ 1 ∧ (q2q U0.den).length ≤ 1 ∧ j5q U0 ≤ 4096) := hdd (by rw [hU0]; exact q8y)
 clear hU0 hz0
 obtain rfl := HFN.o
 have hfn100 : fn ≤ 100 := by have := HS.o.2.1; have := HEQ.o; omega
 go_wp2_with fail
 go_loopw [5, 6] (fun lv iv wr => ∃ (i : Nat) (oa : Option Addr) (oc : Nat), i ≤ fn ∧ iv = .int .i64 i ∧ lv = .slice oa i oc ∧ Hi (LFs 1 wr w1.heap.size (.slice oa i oc) (List.replicate i U0)) ∧ Hi (Below w1.heap.size w1 wr)) (fun _ iv _ => fn - (intOf iv).toNat)
 case atStart => exact ⟨0, none, 0, Nat.zero_le _, rfl, rfl, hdd (LFs.nil _ _ _), HZ2⟩
 case round =>
  obtain ⟨i, oa, oc, hi, rfl, rfl, hO, hZ⟩ := hrel
  obtain ⟨wo, rfl⟩ : ∃ wo : World, wo = wr := ⟨_, rfl⟩
  have x0 := RX.o 0 _ rfl _ hZ.o
  by_cases hin : i < fn
  ·
   have t5 : decide ((i : Int) < (fn : Int)) = true := by simp; omega
   go_wp2_with fail
   refine (KW.o _).mono ?_
   rintro en5 w5 ⟨⟨v5, rfl, f5⟩, hb5⟩
   obtain ⟨a5, n5, c5, i5, j5, k5, hq5⟩ := q8q f5
   subst hq5
   have HB5 := hdd hb5
   have HF5 := hdd (g6x f5 HUL.o.1 HUL.o.2.1 HUL.o.2.2)
   obtain ⟨bq, hbq⟩ := qx (decide (U0.num < 0))
   rw [← hbq] at HF5
   rw [← hbq]
   clear hbq f5 hb5 x0
   obtain ⟨w6, hw6⟩ := qx (w5.alloc (Obj.cells #[.bool bq, .slice a5 n5 c5, .slice i5 j5 k5] 43))
   have HB6 : Hi (Below w5.heap.size w5 w6) := hdd (by rw [hw6]; exact (qb).alloc qm _)
   have HR6 : Hi (w6.heap[w5.heap.size]? = some (.cells #[.bool bq, .slice a5 n5 c5, .slice i5 j5 k5] 43 (0, 0))) := hdd (by rw [hw6]; exact heap_alloc_new w5 _)
   have HZ6 := hdd (q0q HB5.o HB6.o)
   have HO6 := hdd (hO.o.below HZ6.o)
   have HF6 := hdd (HF5.o.below HB6.o)
   have hsz6 : Hi (w1.heap.size ≤ w6.heap.size) := hdd (by have h1 := hZ.o.size; have h2 := HZ6.o.size; omega)
   go_wp2_with (at_builtin; rw [← hw6]; refine q7x rfl _ _ rfl 1 w1.heap.size (Value.slice oa i oc) (List.replicate i U0) rfl HO6.o w5.heap.size 1 bq a5 i5 n5 c5 j5 k5 U0 rfl HR6.o HF6.o (by rw [List.length_replicate]; omega) hsz6.o ?_; intro v7 w7 hown7 hgrow7 hbel7 hat7; refine y0q ?_)
   rw [← List.replicate_succ'] at hown7
   have HO7 := hdd hown7
   have HB7 := hdd (hbel7 w1 (q0q hZ.o HZ6.o))
   obtain ⟨ga7, gc7, hgv⟩ := hown7.form
   rw [List.length_replicate] at hgv
   subst hgv
   clear hown7 hgrow7 hbel7 hat7 hw6
   refine z2q ?_
   go_wp2_with fail
   go_roundw
   case rel => exact ⟨i + 1, _, _, by omega, by go_num, by go_num, HO7, HB7⟩
   case measure => simp [intOf]; omega
  ·
   have t5 : decide ((i : Int) < (fn : Int)) = false := by simp; omega
   obtain rfl : i = fn := by omega
   obtain ⟨x0, x1, x2, x3⟩ := qz RX.o hZ.o
   have c2 := RC.o 2 _ rfl _ hZ.o
   have HL := hdd (hO.o.list.up HS.o.2.2.2.1 : z1q N wo (.slice oa i oc) (List.replicate i U0))
   have HEI : Hi (List.replicate i U0 = List.replicate P.free.length 0) := hdd (by rw [HU0.o, HEQ.o.2.1])
   have HGL : Hi (((List.replicate i U0).length : Int) = P.vars) := hdd (by rw [List.length_replicate]; have := HEQ.o; omega)
   go_wp2_with fail
   refine (KG.o _ (q0q HB1.o hZ.o)).mono ?_
   rintro en4 w4 ⟨rfl, hb4⟩
   have HZ4 := hdd (q0q hZ.o hb4)
   have HB4 := hdd hb4
   clear hb4 x0 x1 x2 x3 c2
   obtain ⟨x0, x1, x2, x3⟩ := qz RX.o HZ4.o
   have c2 := RC.o 2 _ rfl _ HZ4.o
   cases sb with
   | false =>
    have HE : Hi (j4q P 2 xs ys zs = false) := hdd (by unfold j4q; rw [t3q (goal := List.replicate P.free.length 0), ← HSB.o]; simp)
    go_wp2_with fail
    go_ret
    exact ⟨by rw [HE.o]; first | done | rfl, q0q HB1.o HZ4.o⟩
   | true =>
   obtain ⟨cb, hcb⟩ := qx (f6q P ys (List.replicate i U0))
   have HCB := hdd hcb
   have KT := hdd (fun w' (hb : Below w.heap.size w w') (hb9 : Below wo.heap.size wo w') => j7w (HP.o.below hb) (HY.o.below hb) (HL.o.below hb9) HRB.o HGL.o (n2q HSB.o.symm) HS.o.2.2.2.2.1 HS.o.2.2.1 HS.o.2.1 HS.o.2.2.2.2.2.2.1)
   rw [← hcb] at KT
   clear hcb
   go_wp2_with fail
   refine (KT.o _ (q0q HB1.o HZ4.o) HB4.o).mono ?_
   rintro en5 w5 ⟨rfl, hb5⟩
   have HZ5 := hdd (q0q HZ4.o hb5)
   clear hb5 x0 x1 x2 x3 c2
   obtain ⟨x0, x1, x2, x3⟩ := qz RX.o HZ5.o
   have c2 := RC.o 2 _ rfl _ HZ5.o
   cases cb with
   | false =>
    have HE : Hi (j4q P 2 xs ys zs = false) := hdd (by unfold j4q; rw [t3q (goal := List.replicate P.free.length 0), ← HEI.o, ← HCB.o]; simp)
    go_wp2_with fail
    go_ret
    exact ⟨by rw [HE.o]; first | done | rfl, q0q HB1.o HZ5.o⟩
   | true =>
   have HYR : Hi (yn = rn) := hdd (by have h9 := n2q HSB.o.symm; have := HEQ.o; omega)
   have HSL : Hi (j5q (n1q P ys) ≤ 4002) := hdd (j3k HP0.o HY0.o (n2q HSB.o.symm) HS.o.2.2.2.2.1 HS.o.2.2.1 HS.o.2.2.2.2.2.2.1)
   obtain ⟨Sd, hS⟩ := qx (n1q P ys)
   have HSD := hdd hS
   rw [← hS] at HSL
   have KP := hdd (fun w' (hb : Below w.heap.size w w') => y9j (HP.o.below hb) (HY.o.below hb) HRB.o (n2q HSB.o.symm) HS.o.2.2.2.2.1 HS.o.2.2.1 HS.o.2.1 HS.o.2.2.2.2.2.2.1)
   rw [← hS] at KP
   clear hS
   go_wp2_with fail
   refine (KP.o _ (q0q HB1.o HZ5.o)).mono ?_
   rintro en6 w6 ⟨⟨v6, rfl, f6⟩, hb6⟩
   obtain ⟨a6, n6, c6, i6, j6, k6, hq6⟩ := q8q f6
   subst hq6
   have K9 := hdd (z8w (n := 4096) (f6.sz (by have := HSL.o; omega) (by have := HSL.o; omega)) (by omega))
   have HZ6 := hdd (q0q HZ5.o hb6)
   obtain ⟨o, ho⟩ := qx (z7q Sd 0)
   have HO := hdd ho
   rw [← ho] at K9
   clear f6 hb6 ho x0 x1 x2 x3 c2
   go_wp2_with fail
   refine K9.o.mono ?_
   rintro en7 w7 ⟨rfl, hb7⟩
   have HZ7 := hdd (q0q HZ6.o hb7)
   clear hb7
   have HE : Hi (j4q P 2 xs ys zs = decide (o < 0)) := hdd (by unfold j4q; rw [HRB.o, t3q (goal := List.replicate P.free.length 0), ← HEI.o, ← HSB.o, ← HCB.o, ← HSD.o, ← HO.o]; simp)
   by_cases h0 : o < 0
   ·
    have u : decide (o < 0) = true := by simpa using h0
    have HE := hdd (HE.o.trans u)
    clear h0
    go_wp2_with fail
    go_ret
    exact ⟨by rw [HE.o]; first | done | rfl, q0q HB1.o HZ7.o⟩
   ·
    have u : decide (o < 0) = false := by simpa using h0
    have HE := hdd (HE.o.trans u)
    clear h0
    go_wp2_with fail
    go_ret
    exact ⟨by rw [HE.o]; first | done | rfl, q0q HB1.o HZ7.o⟩
theorem k2x (h : y9q N w v P) (hc : b7q N w c 3 xs ys zs) (hs : f4q N P xs zs) :
  Calls Tryz.prog 83 #[v, c] w fun e w' => e = .returned (.bool (j4q P 3 xs ys zs)) ∧ Below w.heap.size w w' := by
 have HS := hdd hs
 have HP0 := hdd h
 have HP := hdd h
 obtain ⟨fa, fc, ga, gc, ra, rc, rfl, -, -, -, hG, hR⟩ := h
 obtain ⟨xa, xc, ya, yc, za, zc, rfl, hX, hY, hZ⟩ := hc
 have HX0 := hdd hX
 have HY0 := hdd hY
 have HR := hdd hR
 obtain ⟨z, hz⟩ := qx (P.vars)
 obtain ⟨fn, hfn⟩ := qx (P.free.length)
 obtain ⟨gn, hgn⟩ := qx (P.goal.length)
 obtain ⟨rn, hrn⟩ := qx (P.rows.length)
 obtain ⟨xn, hxn⟩ := qx (xs.length)
 obtain ⟨yn, hyn⟩ := qx (ys.length)
 obtain ⟨zn, hzn⟩ := qx (zs.length)
 rw [← hz] at HP ⊢
 rw [← hfn] at HP ⊢
 rw [← hgn] at HP hG ⊢
 rw [← hrn] at HP ⊢
 rw [← hxn] at hX ⊢
 rw [← hyn] at hY ⊢
 rw [← hzn] at hZ ⊢
 have HG := hdd hG
 have HX := hdd hX
 have HY := hdd hY
 have HZ := hdd hZ
 have HEQ := hdd (And.intro hz (And.intro hfn (And.intro hgn (And.intro hrn (And.intro hxn (And.intro hyn hzn))))))
 obtain ⟨w1, hw1, HB1, HX1, HC1⟩ := al2 w #[.int .i64 z, .slice fa fn fc, .slice ga gn gc, .slice ra rn rc] 26 #[.int .i64 3, .slice xa xn xc, .slice ya yn yc, .slice za zn zc] 66
 have HW1 := hdd hw1.symm
 clear hw1 hG hR hX hY hZ hz hfn hgn hrn hxn hyn hzn hs
 have RX := hdd (q1q HX1.o)
 have RC := hdd (q1q HC1.o)
 have hb1 := Below.refl w1.heap.size w1
 obtain ⟨x0, x1, x2, x3⟩ := qz RX.o hb1
 have KR := hdd (fun w' (hb : Below w.heap.size w w') => f7q (HP.o.below hb) HS.o.1)
 cases hb : j7q P with
 | false =>
  have HE : Hi (j4q P 3 xs ys zs = false) := hdd (by unfold j4q; rw [hb]; rfl)
  rw [x6q hb] at KR
  clear hb
  go_enter Tryz.func83, Tryz.ntmps83
  go_wp2_with fail
  rw [HW1.o]
  refine (KR.o _ HB1.o).mono ?_
  rintro en2 w2 ⟨rfl, hb2⟩
  go_wp2_with fail
  go_ret
  exact ⟨by rw [HE.o]; first | done | rfl, q0q HB1.o hb2⟩
 | true =>
 have HRB := hdd hb
 rw [g5q hb] at KR
 have HFN : Hi (z = (fn : Int)) := hdd (by have h8 := (j2q hb).2.1; have := HEQ.o; omega)
 clear hb
 go_enter Tryz.func83, Tryz.ntmps83
 go_wp2_with fail
 rw [HW1.o]
 refine (KR.o _ HB1.o).mono ?_
 rintro en2 w2 ⟨rfl, hb2⟩
 have HZ2 := hdd hb2
 obtain ⟨x0, x1, x2, x3⟩ := qz RX.o hb2
 obtain ⟨c0, c1, c2, c3⟩ := qz RC.o hb2
 have hz0 : Below w1.heap.size w1 w2.drew := q5q hb2 1
 have KF := hdd (fun w' (hb : Below w.heap.size w w') => q4y (HP.o.below hb) (HX.o.below hb) HS.o.1 HS.o.2.2.2.2.1 HS.o.2.2.2.2.2.2.2.1.1 HS.o.2.2.2.2.2.2.2.1.2)
 obtain ⟨fb, hfb⟩ := qx (v5q P xs)
 rw [← hfb] at KF
 have HFB := hdd hfb
 clear hfb
 have KL := hdd (fun w' (hb : Below w.heap.size w w') => v6h (HP.o.below hb) (HZ.o.below hb) HS.o.1 HRB.o HS.o.2.1 HS.o.2.2.2.2.2.1 HS.o.2.2.2.2.1 HS.o.2.2.2.2.2.2.2.2.1 HS.o.2.2.2.2.2.2.2.2.2)
 obtain ⟨lb, hlb⟩ := qx (u5q P zs)
 rw [← hlb] at KL
 have HLB := hdd hlb
 clear hlb hz0
 go_wp2_with fail
 refine (KF.o _ (q0q HB1.o HZ2.o)).mono ?_
 rintro en4 w4 ⟨rfl, hb4⟩
 have HZ4 := hdd (q0q HZ2.o hb4)
 obtain ⟨x0, x1, x2, x3⟩ := qz RX.o HZ4.o
 have c3 := RC.o 3 _ rfl _ HZ4.o
 clear hb4
 cases fb with
 | false =>
  have HE : Hi (j4q P 3 xs ys zs = false) := hdd (by unfold j4q; rw [← HFB.o]; simp)
  go_wp2_with fail
  go_ret
  exact ⟨by rw [HE.o]; first | done | rfl, q0q HB1.o HZ4.o⟩
 | true =>
 have HE : Hi (j4q P 3 xs ys zs = lb) := hdd (by unfold j4q; rw [HRB.o, ← HFB.o, ← HLB.o]; simp)
 go_wp2_with fail
 refine (KL.o _ (q0q HB1.o HZ4.o)).mono ?_
 rintro en5 w5 ⟨rfl, hb5⟩
 have HZ5 := hdd (q0q HZ4.o hb5)
 clear hb5
 go_wp2_with fail
 go_ret
 exact ⟨by rw [HE.o]; first | done | rfl, q0q HB1.o HZ5.o⟩
theorem k2y (h : y9q N w v P) (hc : b7q N w c k xs ys zs) (hs : f4q N P xs zs) (hk : ¬ k = 1 ∧ ¬ k = 2 ∧ ¬ k = 3) :
  Calls Tryz.prog 83 #[v, c] w fun e w' => e = .returned (.bool (j4q P k xs ys zs)) ∧ Below w.heap.size w w' := by
 have HS := hdd hs
 have HP0 := hdd h
 have HP := hdd h
 obtain ⟨fa, fc, ga, gc, ra, rc, rfl, -, -, -, hG, hR⟩ := h
 obtain ⟨xa, xc, ya, yc, za, zc, rfl, hX, hY, hZ⟩ := hc
 have HX0 := hdd hX
 have HY0 := hdd hY
 have HR := hdd hR
 obtain ⟨z, hz⟩ := qx (P.vars)
 obtain ⟨fn, hfn⟩ := qx (P.free.length)
 obtain ⟨gn, hgn⟩ := qx (P.goal.length)
 obtain ⟨rn, hrn⟩ := qx (P.rows.length)
 obtain ⟨xn, hxn⟩ := qx (xs.length)
 obtain ⟨yn, hyn⟩ := qx (ys.length)
 obtain ⟨zn, hzn⟩ := qx (zs.length)
 rw [← hz] at HP ⊢
 rw [← hfn] at HP ⊢
 rw [← hgn] at HP hG ⊢
 rw [← hrn] at HP ⊢
 rw [← hxn] at hX ⊢
 rw [← hyn] at hY ⊢
 rw [← hzn] at hZ ⊢
 have HG := hdd hG
 have HX := hdd hX
 have HY := hdd hY
 have HZ := hdd hZ
 have HEQ := hdd (And.intro hz (And.intro hfn (And.intro hgn (And.intro hrn (And.intro hxn (And.intro hyn hzn))))))
 obtain ⟨w1, hw1, HB1, HX1, HC1⟩ := al2 w #[.int .i64 z, .slice fa fn fc, .slice ga gn gc, .slice ra rn rc] 26 #[.int .i64 k, .slice xa xn xc, .slice ya yn yc, .slice za zn zc] 66
 have HW1 := hdd hw1.symm
 clear hw1 hG hR hX hY hZ hz hfn hgn hrn hxn hyn hzn hs
 have RX := hdd (q1q HX1.o)
 have RC := hdd (q1q HC1.o)
 have hb1 := Below.refl w1.heap.size w1
 obtain ⟨x0, x1, x2, x3⟩ := qz RX.o hb1
 have KR := hdd (fun w' (hb : Below w.heap.size w w') => f7q (HP.o.below hb) HS.o.1)
 cases hb : j7q P with
 | false =>
  have HE : Hi (j4q P k xs ys zs = false) := hdd (by unfold j4q; rw [hb]; rfl)
  rw [x6q hb] at KR
  clear hb
  go_enter Tryz.func83, Tryz.ntmps83
  go_wp2_with fail
  rw [HW1.o]
  refine (KR.o _ HB1.o).mono ?_
  rintro en2 w2 ⟨rfl, hb2⟩
  go_wp2_with fail
  go_ret
  exact ⟨by rw [HE.o]; first | done | rfl, q0q HB1.o hb2⟩
 | true =>
 have HRB := hdd hb
 rw [g5q hb] at KR
 have HFN : Hi (z = (fn : Int)) := hdd (by have h8 := (j2q hb).2.1; have := HEQ.o; omega)
 clear hb
 go_enter Tryz.func83, Tryz.ntmps83
 go_wp2_with fail
 rw [HW1.o]
 refine (KR.o _ HB1.o).mono ?_
 rintro en2 w2 ⟨rfl, hb2⟩
 have HZ2 := hdd hb2
 obtain ⟨x0, x1, x2, x3⟩ := qz RX.o hb2
 obtain ⟨c0, c1, c2, c3⟩ := qz RC.o hb2
 have hz0 : Below w1.heap.size w1 w2.drew := q5q hb2 1
 have t1 : (k == 1) = false := by simpa using hk.1
 have t2 : (k == 2) = false := by simpa using hk.2.1
 have t3 : (k == 3) = false := by simpa using hk.2.2
 have HE : Hi (j4q P k xs ys zs = false) := hdd (by unfold j4q; rw [if_neg hk.1, if_neg hk.2.1, if_neg hk.2.2]; simp)
 clear hk
 go_wp2_with fail
 go_ret
 exact ⟨by rw [HE.o]; first | done | rfl, q0q HB1.o HZ2.o⟩
theorem x5w (h : y9q N w v P) (hc : b7q N w c k xs ys zs) (hs : f4q N P xs zs) :
  Calls Tryz.prog 135 #[v, c] w fun e w' => e = .returned (.bool (j4q P k xs ys zs)) ∧ Below w.heap.size w w' := by
 rcases (by omega : k = 1 ∨ k = 2 ∨ k = 3 ∨ (¬ k = 1 ∧ ¬ k = 2 ∧ ¬ k = 3)) with rfl | rfl | rfl | hk
 ·
  cases hf : v5q P xs with
  | false => exact g7x h hc hs hf
  | true =>
   cases hb : x1q P ys P.goal with
   | false => exact g7k h hc hs hf hb
   | true => exact g7w h hc hs hf hb
 ·
  cases hb : x1q P ys (List.replicate P.free.length 0) with
  | false => exact g7h h hc hs hb
  | true => exact g8j h hc hs hb
 ·
  exact k2j h hc hs
 ·
  exact k1h h hc hs hk
theorem x6y (h : y9q N w v P) (hc : b7q N w c k xs ys zs) (hs : f4q N P xs zs) :
  Calls Tryz.prog 83 #[v, c] w fun e w' => e = .returned (.bool (j4q P k xs ys zs)) ∧ Below w.heap.size w w' := by
 rcases (by omega : k = 1 ∨ k = 2 ∨ k = 3 ∨ (¬ k = 1 ∧ ¬ k = 2 ∧ ¬ k = 3)) with rfl | rfl | rfl | hk
 ·
  cases hf : v5q P xs with
  | false => exact g8h h hc hs hf
  | true =>
   cases hb : b4q P ys with
   | false => exact g9j h hc hs hf hb
   | true =>
    cases hg : f6q P ys P.goal with
    | false => exact g9z h hc hs hf hb hg
    | true => exact g9y h hc hs hf hb hg
 ·
  exact k2v h hc hs
 ·
  exact k2x h hc hs
 ·
  exact k2y h hc hs hk
end Go.Proofs.YtkkbmlkpgknhgaaGreat
