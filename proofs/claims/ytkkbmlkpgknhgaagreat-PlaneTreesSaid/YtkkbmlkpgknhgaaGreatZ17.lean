import Derived.Test.YtkkbmlkpgknhgaaGreatZ16
import Derived.Deep.RegionHeld3
import Derived.Deep.DrawnRows
set_option maxRecDepth 100000
set_option maxHeartbeats 16000000
namespace Go.Proofs.YtkkbmlkpgknhgaaGreat
open Go.RowKit
attribute [local go_sem ↓] Go.wp_at_zero Go.wp_at_succ
variable {B G N base c fc fn gc gn i k n o rc rn xc xn yc yn zc zn : Nat} {a fa ga ra xa ya za : Option Addr} {bs : List Bool} {q : Rat} {qs : List Rat} {rs : List (List Rat × Int × Rat)} {u v x : Value} {w w' : World} {z : Int}
theorem y9j {P : Pm} {ys : List Rat} (h : y9q N w v P) (hy : z1q N w x ys) (hrb : j7q P = true) (hyl : ys.length = P.rows.length) (hN : N ≤ 50) (hr100 : P.rows.length ≤ 100) (hv100 : P.vars ≤ 100) (hNn : N * P.rows.length ≤ 1000) :
  Calls Tryz.prog 112 #[v, x] w (h0q w (n1q P ys)) := by
 have HP := hdd h
 have HY := hdd hy

 have HRB := hdd hrb
 obtain ⟨fa, fc, ga, gc, ra, rc, rfl, hz1, hz2, hB, -, hR⟩ := h
 have HBO := hdd hB
 have HR := hdd hR
 obtain ⟨ya, yc, rfl, -⟩ := hy
 obtain ⟨n, hn⟩ := qx (P.free.length)
 obtain ⟨rn, hrn⟩ := qx (P.rows.length)
 obtain ⟨yn, hyn⟩ := qx (ys.length)
 obtain ⟨gn, hgn⟩ := qx (P.goal.length)
 have hv : P.vars = (n : Int) := (by have := (j2q hrb).2.1; omega)
 have hfl : P.free.length = n := by have := (j2q hrb).2.1; omega
 have hn100 : n ≤ 100 := by omega
 rw [hv, hfl, ← hgn, ← hrn] at HP ⊢
 rw [← hyn] at HY ⊢
 rw [← hrn] at hr100
 have HNN : Hi (N * rn ≤ 1000) := hdd (by rw [hrn]; exact hNn)
 have HEQ := hdd (And.intro hrn (And.intro hyn (And.intro hn (And.intro hv hfl))))
 have HYR : Hi (yn = rn) := hdd (by omega)
 obtain ⟨w1, hw1⟩ := qx ((w.alloc (Obj.cells #[.int .i64 (n : Int), .slice fa n fc, .slice ga gn gc, .slice ra rn rc] 26)).alloc (Obj.cells #[.bool false, .slice none 0 0, .slice none 0 0] 43))
 have HB1 : Hi (Below w.heap.size w w1) := hdd (by rw [hw1]; exact ((qb).alloc qm _).alloc (by simp) _)
 have HX1 : Hi (w1.heap[w.heap.size]? = some (.cells #[.int .i64 (n : Int), .slice fa n fc, .slice ga gn gc, .slice ra rn rc] 26 (0, 0))) := hdd (by rw [hw1]; exact heap_alloc2_old w _ _)
 have HW1 := hdd hw1.symm
 have HRES : Hi (w1.heap[w.heap.size + 1]? = some (.cells #[.bool false, .slice none 0 0, .slice none 0 0] 43 (0, 0))) := hdd (by rw [hw1]; exact heap_alloc2_new w _ _)
 clear hw1 hB hR hNn hrb hyl hv hfl hn hrn hyn hgn hz1 hz2 hv100
 have RX := hdd (q1q HX1.o)
 have hb1 := Below.refl w1.heap.size w1
 obtain ⟨x0, x1, x2, x3⟩ := qz RX.o hb1
 obtain ⟨U0, hU0⟩ := qx ((0 : Rat))
 have HU0 := hdd hU0
 clear hU0
 obtain ⟨g, hg9⟩ : ∃ g : Nat → Rat, g = fun i => q9q ys i * bQ P i := ⟨_, rfl⟩
 have HGG : Hi (∀ i, g i = q9q ys i * bQ P i) := hdd (fun i => by rw [hg9])
 have HGT : Hi (∀ i q qa, q9q ys i = q → bQ P i = qa → g i = q * qa) := hdd (fun i q qa h1 h2 => by rw [HGG.o, h1, h2])
 have HSZ : Hi (∀ i, i ≤ rn → j5q (j8q g 0 i) ≤ 4002) := hdd (fun i hi => j3w (N := N) (fun x hx => by
  rw [HGG.o]
  exact q7j (q7z HY.o (by have := HYR.o; have := HEQ.o; omega)) (x9h HP.o (by have := HEQ.o; omega))) (by omega) (Nat.le_trans (Nat.mul_le_mul_left N hi) HNN.o))
 have HZPRE := hdd hb1
 clear hg9
 go_enter Tryz.func112, Tryz.ntmps112
 go_wp2_with fail
 rw [HW1.o]
 refine (q0v).mono ?_
 rintro en2 w2 ⟨⟨v2, rfl, f2⟩, hb2⟩
 have f2' : j3q w2 v2 U0 := by rw [HU0.o]; exact f2
 obtain ⟨a2', n2', c2', i2, j2, k2', hq2⟩ := q8q f2'
 subst hq2
 have HF2 := hdd f2'
 have HZ2 := hdd (q0q HZPRE.o hb2)
 clear f2 f2' hb2
 go_wp2_with ((with_reducible refine j9q ?_); refine q6q rfl _ _ _ rfl w2.heap.size rfl _ rfl _ _ (heap_alloc_new _ _) v0q rfl x3q ?_; intro w3 h3 hon3; refine y0q ?_)
 have hb3 : Below w2.heap.size w2 w3 := q4q ((qb).alloc qm _) hon3 qm
 obtain ⟨Ba, hBa⟩ := qx (w2.heap.size)
 have hBw1 : w1.heap.size ≤ Ba := by have h9 := HZ2.o.size; omega
 have HROW3 : Hi (w3.heap[Ba]? = some (.cells #[.bool (decide (U0.num < 0)), .slice a2' n2' c2', .slice i2 j2 k2'] 43 (0, 0))) := hdd (by rw [hBa]; exact h3)
 have HF3 : Hi (j3q w3 (.agg #[Value.bool (decide (U0.num < 0)), Value.slice a2' n2' c2', Value.slice i2 j2 k2']) (j8q g 0 0)) := hdd (by
  have h7 := HF2.o.below hb3
  rw [HU0.o] at h7 ⊢
  exact h7)
 have HZ3 := hdd (q0q HZ2.o hb3)
 rw [← hBa]
 clear h3 hon3 hb3 hBa
 refine z2q ?_
 have x0 := RX.o 0 _ rfl _ HZ3.o
 have x3 := RX.o 3 _ rfl _ HZ3.o
 go_wp2_with fail
 go_loopw [12] (fun iv wr => ∃ (i : Nat) (ra' : Bool) (ab : Option Addr) (an ac : Nat) (ai : Option Addr) (aj ak : Nat), i ≤ rn ∧ iv = .int .i64 i ∧ Hi (wr.heap[Ba]? = some (.cells #[.bool ra', .slice ab an ac, .slice ai aj ak] 43 (0, 0))) ∧ Hi (j3q wr (.agg #[Value.bool ra', Value.slice ab an ac, Value.slice ai aj ak]) (j8q g 0 i)) ∧ Hi (Below w1.heap.size w1 wr)) (fun iv _ => rn - (intOf iv).toNat)
 case atStart => exact ⟨0, _, _, _, _, _, _, _, Nat.zero_le _, rfl, HROW3, HF3, HZ3⟩
 case round =>
  obtain ⟨i, ra', ab, an, ac, ai, aj, ak, hi, rfl, hrow, hfa, hZ⟩ := hrel
  obtain ⟨wo, rfl⟩ : ∃ wo : World, wo = wr := ⟨_, rfl⟩
  by_cases hin : i < rn
  ·
   have t5 : decide ((i : Int) < (rn : Int)) = true := by simp; omega
   obtain ⟨r, B, off, a1, c1, b, a2, n2, c2, a3, n3, c3, hr, ha, hlr, hfr, hs3, hs4, hcr⟩ := HR.o.at (i := i) (by have := HEQ.o; omega)
   subst ha
   obtain ⟨f0, f1, f2, f3, f4⟩ := hcr wo (q0q HB1.o hZ.o)
   have HRI := hdd hr
   obtain ⟨q, B', off', b', a4, n4, c4, a5, n5, c5, hq, ha', hc, hf⟩ := HY.o.at (i := i) (by have := HYR.o; omega)
   subst ha'
   have HQ := hdd (v9q hq)
   have HFY := hdd hf
   have hin2 : i < yn := by have := HYR.o; omega
   have HC := hdd (fun w' (hb : Below wo.heap.size wo w') => hc w' (q0q (q0q HB1.o hZ.o) hb))
   have hrl0 := r2q HRB.o hr
   obtain ⟨rl, hrl⟩ := qx (r.1.length)
   have hrln : rl = n := by have := HEQ.o; omega
   rw [← hrl] at f0 hlr
   subst hrln
   have qa9 : ∃ qa, qa = r.2.2 := ⟨_, rfl⟩
   obtain ⟨qa, hqa⟩ := qa9
   have HEL : Hi (bQ P i = qa) := hdd (by rw [v9k hr, hqa])
   rw [← hqa] at hfr
   have HFE := hdd hfr
   clear hqa
   have HW := hdd (q0q HB1.o hZ.o)
   clear hcr hr hrl hlr hfr hf hq hc hs3 hs4 hrl0
   go_wp2_with ((with_reducible refine j9q ?_); refine q6q rfl _ _ _ rfl wo.heap.size rfl _ rfl _ _ (heap_alloc_new _ _) w0q rfl f0q ?_; intro w4 h4 hon4; refine y0q ?_)
   have hb4 : Below wo.heap.size wo w4 := q4q ((qb).alloc qm _) hon4 qm
   have HO4 := hdd hb4
   have HW4 := hdd (q0q HW.o hb4)
   have RY := hdd (q1q h4)
   have hb5 := Below.refl w4.heap.size w4
   have y0 := RY.o 0 _ rfl _ hb5
   have y1 := RY.o 1 _ rfl _ hb5
   have y2 := RY.o 2 _ rfl _ hb5
   have y3 := RY.o 3 _ rfl _ hb5
   have y4 := RY.o 4 _ rfl _ hb5
   obtain ⟨k0, k1, k2⟩ := HC.o _ hb4
   have HROW4 : Hi (w4.heap[Ba]? = some (.cells #[.bool ra', .slice ab an ac, .slice ai aj ak] 43 (0, 0))) := hdd ((hb4.block _ (lt_of_block hrow.o)).trans hrow.o)
   have RA := hdd (q1q HROW4.o)
   have FA := hdd (s8q HROW4.o)
   have s0 := RA.o 0 _ rfl _ hb5
   have s1 := RA.o 1 _ rfl _ hb5
   have s2 := RA.o 2 _ rfl _ hb5
   have HFA4 := hdd (hfa.o.below hb4)
   have HZ4 := hdd (q0q hZ.o hb4)
   have HNX : Hi (j8q g 0 i + g i = j8q g 0 (i + 1)) := hdd (i4q g i)
   obtain ⟨Q, hQ⟩ := qx (j8q g 0 (i + 1))
   have HQ9 := hdd hQ
   have HLQ : Hi (j5q Q ≤ 4096) := hdd (by rw [hQ]; have := HSZ.o (i + 1) (by omega); omega)
   have HLP : Hi (j5q (j8q g 0 i) ≤ 4096) := hdd (by have := HSZ.o i (by omega); omega)
   obtain ⟨M, hM⟩ : ∃ M, q * qa = M := ⟨_, rfl⟩
   have HLM : Hi (j5q M ≤ 4096) := hdd (by rw [← hM]; have h9 := j1y q qa; have := HFY.o.len; have := HFE.o.len; omega)
   have HGQ : Hi (g i = M) := hdd (by rw [← hM]; exact HGT.o i q qa HQ.o HEL.o)
   have K1 := hdd (fun w' (hb : Below w4.heap.size w4 w') => y8y (w := w') (HFY.o.below (q0q HW4.o hb)) (HFE.o.below (q0q HW4.o hb)) (by omega) hM)
   have K2 := hdd (fun w' y (hb : Below w4.heap.size w4 w') (hy : j3q w' y M) => y7k (w := w') (Q := Q) (HFA4.o.below hb) hy HLP.o HLM.o HLQ.o (by rw [← HGQ.o, HNX.o, HQ9.o]))

   clear h4 hon4 hb4 f0 f1 f2 f3 f4 hQ hM
   have hz0 : Below w4.heap.size w4 w4.drew := q5q hb5 1
   refine z2q ?_
   go_wp2_with fail
   go_region_with (first | (go_at_call 109; refine (K1.o _ hz0).mono ?_; rintro en6 w6 ⟨⟨r6, rfl, f6⟩, hb6⟩; obtain ⟨a6, n6, c6, i6, j6, k6, hq6⟩ := q8q f6; subst hq6; have hz6 := q0q hz0 hb6; have s0 := RA.o 0 _ rfl _ hz6; have s1 := RA.o 1 _ rfl _ hz6; have s2 := RA.o 2 _ rfl _ hz6) | (go_at_call 108; refine (K2.o _ _ hz6 f6).mono ?_; rintro en7 w7 ⟨⟨r7, rfl, f7⟩, hb7⟩; obtain ⟨a7, n7, c7, i7, j7, k7, hq7⟩ := q8q f7; subst hq7; have hz7 := q0q hz6 hb7; have s0 := RA.o 0 _ rfl _ hz7; have s1 := RA.o 1 _ rfl _ hz7; have s2 := RA.o 2 _ rfl _ hz7; have g0 := FA.o 0 _ hz7; have g1 := FA.o 1 _ hz7; have g2 := FA.o 2 _ hz7))
   all_goals
    have HROW7 : Hi (w7.heap[Ba]? = some (.cells #[.bool ra', .slice ab an ac, .slice ai aj ak] 43 (0, 0))) := hdd ((hz7.block _ (lt_of_block HROW4.o)).trans HROW4.o)
    have HON : Hi (z9q Ba w7 (d7q w7 Ba (decide (Q.num < 0)) (Value.slice a7 n7 c7) (Value.slice i7 j7 k7))) := hdd (q7q _ _ _ _ _)
    have HROW8 : Hi ((d7q w7 Ba (decide (Q.num < 0)) (Value.slice a7 n7 c7) (Value.slice i7 j7 k7)).heap[Ba]? = some (.cells #[.bool (decide (Q.num < 0)), .slice a7 n7 c7, .slice i7 j7 k7] 43 (0, 0))) := hdd (q5h HROW7.o)
    have HF8 : Hi (j3q (d7q w7 Ba (decide (Q.num < 0)) (Value.slice a7 n7 c7) (Value.slice i7 j7 k7)) (.agg #[Value.bool (decide (Q.num < 0)), Value.slice a7 n7 c7, Value.slice i7 j7 k7]) (j8q g 0 (i + 1))) := hdd (by rw [← HQ9.o]; exact f7.other HROW7.o HON.o)
    have HZ8 := hdd (q4q (q0q HZ4.o hz7) HON.o hBw1)
    go_wp2_with fail
    go_roundw
   all_goals first
    | exact ⟨i + 1, _, _, _, _, _, _, _, by omega, by go_num, HROW8, HF8, HZ8⟩
    | (simp [intOf]; omega)
  ·
   have t5 : decide ((i : Int) < (rn : Int)) = false := by simp; omega
   obtain rfl : i = rn := by omega
   have HS : Hi (j8q g 0 i = n1q P ys) := hdd (by
    unfold n1q
    rw [← HEQ.o.2.1, HYR.o]
    exact q3w fun x hx => by rw [HGG.o, Rat.mul_comm])
   have s0 := q1q hrow.o 0 _ rfl _ qb
   have s1 := q1q hrow.o 1 _ rfl _ qb
   have s2 := q1q hrow.o 2 _ rfl _ qb
   have HR9 : Hi (wo.heap[w.heap.size + 1]? = some (.cells #[.bool false, .slice none 0 0, .slice none 0 0] 43 (0, 0))) := hdd ((hZ.o.block _ (lt_of_block HRES.o)).trans HRES.o)
   have HF9 := hdd (hfa.o.other HR9.o (q7q _ _ ra' (Value.slice ab an ac) (Value.slice ai aj ak)))
   have HB9 := hdd (q0q HB1.o hZ.o)
   have r0 := q1q HR9.o 0 _ rfl _ qb
   have r1 := q1q HR9.o 1 _ rfl _ qb
   have r2 := q1q HR9.o 2 _ rfl _ qb
   have z0 := frozen_of_row _ _ 0 _ _ HR9.o
   have z1 := frozen_of_row _ _ 1 _ _ HR9.o
   have z2 := frozen_of_row _ _ 2 _ _ HR9.o
   go_wp2_with fail
   exact bodyPost_ret (results_cell_row rfl _ _ (w.heap.size + 1) _ _ _ _ rfl (z5q HR9.o) Tryz.underlying43 rfl v0q) rfl ⟨⟨_, rfl, by rw [← HS.o]; exact HF9.o⟩, q4q HB9.o (q7q _ _ _ _ _) (by omega)⟩

theorem v1h {i : Int} : Calls Tryz.prog 117 #[.int .i64 i] w fun e w' => e = .returned (.agg #[.bool false, .slice none 0 0, .slice none 0 0]) ∧ Below w.heap.size w w' := by
 go_enter Tryz.func117, Tryz.ntmps117
 go_wp2_with fail
 exact bodyPost_ret (results_cell_row rfl _ _ w.heap.size _ _ _ _ rfl (heap_alloc_new w _) Tryz.underlying43 rfl v0q) rfl ⟨rfl, (qb).alloc qm _⟩
theorem y6w : v1q false [] [] = 0 := by unfold v1q; rw [z6y rfl]; rfl
theorem q8y : (q2q (0 : Rat).num.natAbs).length ≤ 1 ∧ (q2q (0 : Rat).den).length ≤ 1 ∧ j5q (0 : Rat) ≤ 4096 := by
 have h := z2j
 have h1 : j5q (0 : Rat) = (q2q (0 : Rat).num.natAbs).length + (q2q (0 : Rat).den).length := rfl
 omega
theorem j9w : q9q (List.replicate n (0 : Rat)) i = 0 := by
 unfold q9q
 rw [List.getElem?_replicate]
 split <;> rfl

theorem g2w (hn : n ≤ 1000) :
  Calls Tryz.prog 19 #[.int .i64 (n : Nat), .func (.func 117) #[] #[]] w fun e w' => (∃ r, e = .returned r ∧ z1q 1 w' r (List.replicate n 0)) ∧ Below w.heap.size w w' := by
 have KZ := hdd (fun w' i => v1h (w := w') (i := i))
 have KF : Hi (∀ w', Calls Tryz.prog 52 #[.agg #[Value.bool false, Value.slice none 0 0, Value.slice none 0 0]] w' (j2k w' 0)) := hdd (fun w' => by
  rw [← y6w]; exact x9y ⟨_, _, rfl, IsW.nil w', IsW.nil w'⟩)
 obtain ⟨U0, hU0⟩ := qx ((0 : Rat))
 have HU0 := hdd hU0
 rw [← hU0] at KF
 clear hU0
 go_enter Tryz.func19, Tryz.ntmps19
 go_wp2_with (at_make; refine q3j rfl _ _ _ 43 rfl Tryz.underlying23 _ _ _ _ z5j n rfl rfl (by omega) (by omega) ?_; intro w1 hr1 hb1 hs1; refine y0q ?_)
 refine z2q ?_
 have HB1 := hdd hb1
 have HR0 : Hi (x9q w1 w.heap.size n 0 (fun _ => U0)) := hdd ⟨_, hr1, fun i _ => ⟨none, 0, 0, false, none, 0, 0, rfl, fun h => absurd h (Nat.not_lt_zero _)⟩⟩
 clear hr1 hb1 hs1
 go_wp2_with fail
 go_loopw [10] (fun iv wr => ∃ i : Nat, i ≤ n ∧ iv = .int .i64 i ∧ Hi (x9q wr w.heap.size n i (fun _ => U0)) ∧ Hi (Below w.heap.size w wr)) (fun iv _ => n - (intOf iv).toNat)
 case atStart => exact ⟨0, Nat.zero_le _, rfl, HR0, HB1⟩
 case round =>
  obtain ⟨i, hi, rfl, hR, hB⟩ := hrel
  obtain ⟨wo, rfl⟩ : ∃ wo : World, wo = wr := ⟨_, rfl⟩
  by_cases hin : i < n
  ·
   have t0 : decide ((i : Int) < (n : Int)) = true := by simp; omega
   go_wp2_with fail
   refine (KZ.o _ _).mono ?_
   rintro en2 w2 ⟨rfl, hb2⟩
   go_wp2_with fail
   refine (KF.o _).mono ?_
   rintro en3 w3 ⟨⟨v3, rfl, f3, -⟩, hb3⟩
   obtain ⟨a3, n3, c3, i3, j3, k3, hq3⟩ := q8q f3
   subst hq3
   have hz3 := q0q hb2 hb3
   have HF3 := hdd f3
   have HB3 := hdd (q0q hB.o hz3)
   obtain ⟨f, hr4, he4⟩ := hR.o.below hz3
   have HR4 := hdd hr4
   have HE4 := hdd he4
   obtain ⟨bq, hbq⟩ := qx (decide (U0.num < 0))
   rw [← hbq] at HF3
   rw [← hbq]
   clear f3 hb2 hb3 hz3 hr4 he4 hbq
   go_wp2_with ((with_reducible refine j9q ?_); refine q2x rfl _ _ _ rfl w.heap.size n i rfl _ _ _ rfl _ f HR4.o hin rfl x3q ?_; intro w5 hr5 hon5; refine y0q ?_)
   refine z2q ?_
   have HR5 := hdd (x9q.store HR4.o HE4.o HF3.o hr5 hon5)
   have HB5 := hdd (q4q HB3.o hon5 qm)
   clear hr5 hon5
   go_wp2_with fail
   go_roundw
   case rel => exact ⟨i + 1, by omega, by go_num, HR5, HB5⟩
   case measure => simp [intOf]; omega
  ·
   have t0 : decide ((i : Int) < (n : Int)) = false := by simp; omega
   obtain rfl : i = n := by omega
   have HE : Hi (z1q 1 wo (.slice (some ⟨w.heap.size, 0, none⟩) i i) (List.replicate i 0)) := hdd (by
    have h9 := hR.o
    have e9 : (fun _ => U0 : Nat → Rat) = q9q (List.replicate i 0) := by funext x; rw [j9w, HU0.o]
    rw [e9] at h9
    exact h9.list (by simp) (fun x _ => by rw [j9w]; exact q8y))
   go_wp2_with fail
   go_ret
   exact ⟨⟨_, rfl, HE.o⟩, hB.o⟩
theorem v8k (hn : n ≤ 1000) :
  Calls Tryz.prog 91 #[.int .i64 (n : Nat)] w fun e w' => (∃ r, e = .returned r ∧ z1q 1 w' r (List.replicate n 0)) ∧ Below w.heap.size w w' := by
 have K := hdd (g2w (w := w) hn)
 go_enter Tryz.func91, Tryz.ntmps91
 go_wp2_with fail
 refine K.o.mono ?_
 rintro en2 w2 ⟨⟨r2, rfl, h2⟩, hb2⟩
 go_wp2_with fail
 go_ret
 exact ⟨⟨_, rfl, h2⟩, hb2⟩

def q7k (w : World) (v : Value) (k : Int) (xa : Option Addr) (xn xc : Nat) (ya : Option Addr) (yn yc : Nat) (za : Option Addr) (zn zc : Nat) : Prop :=
 v = .agg #[.int .i64 k, .slice xa xn xc, .slice ya yn yc, .slice za zn zc] ∧ -9223372036854775808 ≤ k ∧ k ≤ 9223372036854775807 ∧ g1q w (.slice xa xn xc) xa xn xc ∧ g1q w (.slice ya yn yc) ya yn yc ∧ g1q w (.slice za zn zc) za zn zc
theorem q7k.below {k : Int} (h : q7k w v k xa xn xc ya yn yc za zn zc) (hb : Below w.heap.size w w') : q7k w' v k xa xn xc ya yn yc za zn zc :=
 ⟨h.1, h.2.1, h.2.2.1, h.2.2.2.1.below hb, h.2.2.2.2.1.below hb, h.2.2.2.2.2.below hb⟩
theorem u0z : Tryz.prog.cellsOf 66 = 4 := by kernel_rfl
def q1v (w : World) (M : Nat) (xa : Option Addr) (xn : Nat) (ya : Option Addr) (yn : Nat) (za : Option Addr) (zn : Nat) : Prop :=
 (xn ≤ M ∧ yn ≤ M ∧ zn ≤ M) ∧ r8q 12 xn (y3q w xa 1) (y3q w xa 2) = true ∧ r8q 12 yn (y3q w ya 1) (y3q w ya 2) = true ∧ r8q 12 zn (y3q w za 1) (y3q w za 2) = true

theorem v5j {k : Int} {M : Nat} (h : q7k w v k xa xn xc ya yn yc za zn zc) (hM : M ≤ 1000) :
  Calls Tryz.prog 36 #[v, .int .i64 M] w fun e w' => (∃ bb, e = .returned (.bool bb) ∧ (bb = true → q1v w M xa xn ya yn za zn)) ∧ Below w.heap.size w w' := by
 have HP := hdd h
 obtain ⟨rfl, -, -, -⟩ := h
 obtain ⟨w1, hw1, HB1, HX⟩ := al1 w #[.int .i64 k, .slice xa xn xc, .slice ya yn yc, .slice za zn zc] 66
 have HW1 := hdd hw1.symm
 clear hw1
 have RX := hdd (q1q HX.o)
 have hb1 := Below.refl w1.heap.size w1
 have x1 := RX.o 1 _ rfl _ hb1
 have x2 := RX.o 2 _ rfl _ hb1
 have x3 := RX.o 3 _ rfl _ hb1
 by_cases h1 : xn ≤ M
 case neg =>
  have t1 : decide (xn ≤ M) = false := by simpa using h1
  clear h1
  go_enter Tryz.func36, Tryz.ntmps36
  go_wp2_with fail
  rw [HW1.o]
  go_ret
  exact ⟨⟨_, rfl, fun h => by cases h⟩, HB1.o⟩
 have t1 : decide (xn ≤ M) = true := by simpa using h1
 by_cases h2 : yn ≤ M
 case neg =>
  have t2 : decide (yn ≤ M) = false := by simpa using h2
  clear h1 h2
  go_enter Tryz.func36, Tryz.ntmps36
  go_wp2_with fail
  rw [HW1.o]
  go_ret
  exact ⟨⟨_, rfl, fun h => by cases h⟩, HB1.o⟩
 have t2 : decide (yn ≤ M) = true := by simpa using h2
 by_cases h3 : zn ≤ M
 case neg =>
  have t3 : decide (zn ≤ M) = false := by simpa using h3
  clear h1 h2 h3
  go_enter Tryz.func36, Tryz.ntmps36
  go_wp2_with fail
  rw [HW1.o]
  go_ret
  exact ⟨⟨_, rfl, fun h => by cases h⟩, HB1.o⟩
 have t3 : decide (zn ≤ M) = true := by simpa using h3
 have HLE : Hi (xn ≤ M ∧ yn ≤ M ∧ zn ≤ M) := hdd ⟨by omega, by omega, by omega⟩
 have K1 := hdd (fun w' (hb : Below w.heap.size w w') (hn : xn ≤ 1000) => q4w (w := w') (N := 12) (HP.o.2.2.2.1.below hb) hn)
 have K2 := hdd (fun w' (hb : Below w.heap.size w w') (hn : yn ≤ 1000) => q4w (w := w') (N := 12) (HP.o.2.2.2.2.1.below hb) hn)
 have K3 := hdd (fun w' (hb : Below w.heap.size w w') (hn : zn ≤ 1000) => q4w (w := w') (N := 12) (HP.o.2.2.2.2.2.below hb) hn)
 clear h1 h2 h3
 go_enter Tryz.func36, Tryz.ntmps36
 go_wp2_with fail
 rw [HW1.o]
 refine (K1.o _ HB1.o (by have := HLE.o; omega)).mono ?_
 rintro en2 w2 ⟨⟨bb2, rfl, hg2⟩, hb2⟩
 have HZ2 := hdd hb2
 cases bb2 with
 | false =>
  clear hg2
  go_wp2_with fail
  go_ret
  exact ⟨⟨_, rfl, fun h => by cases h⟩, q0q HB1.o HZ2.o⟩
 | true =>
 have HG2 := hdd (HP.o.2.2.2.1.few_back HB1.o (hg2 rfl))
 have x1 := RX.o 1 _ rfl _ hb2
 have x2 := RX.o 2 _ rfl _ hb2
 have x3 := RX.o 3 _ rfl _ hb2
 clear hg2 hb2
 go_wp2_with fail
 refine (K2.o _ (q0q HB1.o HZ2.o) (by have := HLE.o; omega)).mono ?_
 rintro en3 w3 ⟨⟨bb3, rfl, hg3⟩, hb3⟩
 have HZ3 := hdd (q0q HZ2.o hb3)
 cases bb3 with
 | false =>
  clear hg3
  go_wp2_with fail
  go_ret
  exact ⟨⟨_, rfl, fun h => by cases h⟩, q0q HB1.o HZ3.o⟩
 | true =>
 have HG3 := hdd (HP.o.2.2.2.2.1.few_back (q0q HB1.o HZ2.o) (hg3 rfl))
 have x1 := RX.o 1 _ rfl _ HZ3.o
 have x2 := RX.o 2 _ rfl _ HZ3.o
 have x3 := RX.o 3 _ rfl _ HZ3.o
 clear hg3 hb3
 go_wp2_with fail
 refine (K3.o _ (q0q HB1.o HZ3.o) (by have := HLE.o; omega)).mono ?_
 rintro en4 w4 ⟨⟨bb4, rfl, hg4⟩, hb4⟩
 have HZ4 := hdd (q0q HZ3.o hb4)
 cases bb4 with
 | false =>
  clear hg4
  go_wp2_with fail
  go_ret
  exact ⟨⟨_, rfl, fun h => by cases h⟩, q0q HB1.o HZ4.o⟩
 | true =>
 have HG4 := hdd (HP.o.2.2.2.2.2.few_back (q0q HB1.o HZ3.o) (hg4 rfl))
 clear hg4 hb4
 go_wp2_with fail
 go_ret
 exact ⟨⟨_, rfl, fun _ => ⟨HLE.o, HG2.o, HG3.o, HG4.o⟩⟩, q0q HB1.o HZ4.o⟩
def g2q (w : World) (v : Value) (qs : List Rat) : Prop :=
 ∃ B, v = .slice (some ⟨B, 0, none⟩) qs.length qs.length ∧ x9q w B qs.length qs.length (q9q qs)
theorem g2q.below (h : g2q w v qs) (hb : Below w.heap.size w w') : g2q w' v qs := by
 obtain ⟨B, hv, h⟩ := h
 exact ⟨B, hv, h.below hb⟩
theorem g2q.form (h : g2q w v qs) : ∃ a, v = .slice a qs.length qs.length := by
 obtain ⟨B, hv, -⟩ := h
 exact ⟨_, hv⟩
theorem g2q.at (h : g2q w (.slice a n c) qs) {i : Nat} (hi : i < n) :
  ∃ B off b a1 n1 c1 a2 n2 c2, a = some ⟨B, off, none⟩ ∧ (∀ w', Below w.heap.size w w' → w'.cell? ⟨B, off + i * 3, none⟩ = some (.bool b) ∧ w'.cell? ⟨B, off + i * 3 + 1, none⟩ = some (.slice a1 n1 c1) ∧ w'.cell? ⟨B, off + i * 3 + 2, none⟩ = some (.slice a2 n2 c2)) ∧ j3q w (.agg #[.bool b, .slice a1 n1 c1, .slice a2 n2 c2]) (q9q qs i) := by
 obtain ⟨B, hv, h⟩ := h
 simp only [Value.slice.injEq] at hv
 obtain ⟨rfl, rfl, rfl⟩ := hv
 obtain ⟨f, hr, he⟩ := h
 obtain ⟨a1, n1, c1, b, a2, n2, c2, e, hq⟩ := he i hi
 refine ⟨B, 0, b, a1, n1, c1, a2, n2, c2, rfl, fun w' hb => ?_, hq hi⟩
 obtain ⟨k0, k1, k2⟩ := hr.cell hi
 rw [e] at k0 k1 k2
 simp only [Nat.zero_add]
 exact ⟨q3q hb k0, q3q hb k1, q3q hb k2⟩
theorem q0k (h : j5q q ≤ n) : (q2q q.num.natAbs).length ≤ n ∧ (q2q q.den).length ≤ n := by
 have h1 : j5q q = (q2q q.num.natAbs).length + (q2q q.den).length := rfl
 omega
theorem a8q (h : j3q w v q) (h1 : j5q q ≤ N) (hN : N ≤ 4096) : v6q N w v q := by
 obtain ⟨u, d, rfl, hu, hd⟩ := h
 exact ⟨_, _, _, ⟨_, _, rfl, hu, hd⟩, (t4q (by omega)).symm, (q0k h1).1, (q0k h1).2⟩
end Go.Proofs.YtkkbmlkpgknhgaaGreat
namespace Go.Proofs.YtkkbmlkpgknhgaaGreat
open Go.RowKit
variable {B G N base c fc fn gc gn i k n o rc rn xc xn yc yn zc zn : Nat} {a fa ga ra xa ya za : Option Addr} {bs : List Bool} {q : Rat} {qs : List Rat} {rs : List (List Rat × Int × Rat)} {u v x : Value} {w w' : World} {z : Int}
theorem IsW.grown {l : List Nat} (h : IsW w v l) (hv : Clean w u) (hg : w.grownBy w' u.ownBlock) : IsW w' v l := by
 refine h.keep hg.size (fun hl x hx => ?_)
 obtain ⟨a, c, rfl, -⟩ := id h
 have hn : l.length ≠ 0 := by intro e; exact hl (List.eq_nil_of_length_eq_zero e)
 exact hg.block x (h.own_lt hl x hx) (fun e => h.notClean hn hx hv e.symm)
theorem j3q.grown (h : j3q w v q) (hv : Clean w u) (hg : w.grownBy w' u.ownBlock) : j3q w' v q := by
 obtain ⟨x, d, rfl, h1, h2⟩ := h
 exact ⟨x, d, rfl, h1.grown hv hg, h2.grown hv hg⟩
theorem g2q.grown (h : g2q w v qs) (hv : Clean w u) (hg : w.grownBy w' u.ownBlock) (hne : ∀ g, v.ownBlock = some g → u.ownBlock ≠ some g) : g2q w' v qs := by
 obtain ⟨B, rfl, f, ⟨c, h1, h2, h3⟩, he⟩ := h
 have hlt : B < w.heap.size := lt_of_block h1
 refine ⟨B, rfl, f, ⟨c, by rw [hg.block B hlt (fun e => hne B rfl e.symm)]; exact h1, h2, h3⟩, fun i hi => ?_⟩
 obtain ⟨a1, n1, c1, b, a2, n2, c2, e, hq⟩ := he i hi
 exact ⟨a1, n1, c1, b, a2, n2, c2, e, fun h => (hq h).grown hv hg⟩
theorem a7q (h : v6q N w v q) (hv : Clean w u) (hg : w.grownBy w' u.ownBlock) : v6q N w' v q := by
 obtain ⟨b, l, m, ⟨x, d, rfl, h1, h2⟩, h3, h4, h5⟩ := h
 exact ⟨b, l, m, ⟨x, d, rfl, h1.grown hv hg, h2.grown hv hg⟩, h3, h4, h5⟩

theorem g2q.other {cs : Array Value} {t : TypeId} {fr : Nat × Nat} (h : g2q w v qs) (hB : w.heap[B]? = some (.cells cs t fr)) (hcs : ∀ (j k : Nat), cs[j]? ≠ some (U k)) (ho : z9q B w w') (hne : ∀ g, v.ownBlock = some g → g ≠ B) : g2q w' v qs := by
 obtain ⟨R, rfl, f, ⟨c, h1, h2, h3⟩, he⟩ := h
 refine ⟨R, rfl, f, ⟨c, by rw [ho.block R (hne R rfl)]; exact h1, h2, h3⟩, fun i hi => ?_⟩
 obtain ⟨a1, n1, c1, b, a2, n2, c2, e, hq⟩ := he i hi
 exact ⟨a1, n1, c1, b, a2, n2, c2, e, fun h => by
  obtain ⟨x, d, h0, h1, h2⟩ := hq h
  exact ⟨x, d, h0, h1.other hB hcs ho, h2.other hB hcs ho⟩⟩
theorem s7q {cs : Array Value} {t : TypeId} {fr : Nat × Nat} (h : v6q N w v q) (hB : w.heap[B]? = some (.cells cs t fr)) (hcs : ∀ (j k : Nat), cs[j]? ≠ some (U k)) (ho : z9q B w w') : v6q N w' v q := by
 obtain ⟨b, l, m, ⟨x, d, rfl, h1, h2⟩, h3, h4, h5⟩ := h
 exact ⟨b, l, m, ⟨x, d, rfl, h1.other hB hcs ho, h2.other hB hcs ho⟩, h3, h4, h5⟩
theorem c3q (ho : z9q B w w') : w.grownBy w' (some B) :=
 ⟨ho.os, ho.tape, ho.output, Nat.le_of_eq ho.size.symm, fun k _ hk => ho.block k (fun e => hk (by rw [e]))⟩

structure t1q where
 L : World → Value → List Rat → Prop
 F : World → Value → Rat → Prop
 keepL : ∀ {w w' : World} {v u : Value} {qs : List Rat}, L w v qs → Clean w u → w.grownBy w' u.ownBlock → (∀ g, v.ownBlock = some g → u.ownBlock ≠ some g) → L w' v qs
 keepF : ∀ {w w' : World} {v u : Value} {q : Rat}, F w v q → Clean w u → w.grownBy w' u.ownBlock → F w' v q
 belowL : ∀ {w w' : World} {v : Value} {qs : List Rat}, L w v qs → Below w.heap.size w w' → L w' v qs
 belowF : ∀ {w w' : World} {v : Value} {q : Rat}, F w v q → Below w.heap.size w w' → F w' v q
 otherL : ∀ {w w' : World} {v : Value} {qs : List Rat} {B : Nat} {cs : Array Value} {t : TypeId} {fr : Nat × Nat}, L w v qs → w.heap[B]? = some (.cells cs t fr) → (∀ (j k : Nat), cs[j]? ≠ some (U k)) → z9q B w w' → (∀ g, v.ownBlock = some g → g ≠ B) → L w' v qs
 otherF : ∀ {w w' : World} {v : Value} {q : Rat} {B : Nat} {cs : Array Value} {t : TypeId} {fr : Nat × Nat}, F w v q → w.heap[B]? = some (.cells cs t fr) → (∀ (j k : Nat), cs[j]? ≠ some (U k)) → z9q B w w' → F w' v q
variable {K : t1q}
def rkV : t1q where
 L := g2q
 F := j3q
 keepL := fun h hv hg hne => h.grown hv hg hne
 keepF := fun h hv hg => h.grown hv hg
 belowL := fun h hb => h.below hb
 belowF := fun h hb => h.below hb
 otherL := fun h hB hcs ho hne => h.other hB hcs ho hne
 otherF := fun h hB hcs ho => by
  obtain ⟨x, d, h0, h1, h2⟩ := h
  exact ⟨x, d, h0, h1.other hB hcs ho, h2.other hB hcs ho⟩
def rkF (N : Nat) : t1q where
 L := fun w v qs => ∃ base, LFs N w base v qs
 F := v6q N
 keepL := fun h hv hg hne => by
  obtain ⟨base, h⟩ := h
  exact ⟨base, h.grown hg hne (fun _ _ _ _ _ _ _ _ hf => a7q hf hv hg)⟩
 keepF := fun h hv hg => a7q h hv hg
 belowL := fun h hb => by
  obtain ⟨base, h⟩ := h
  exact ⟨base, h.below hb⟩
 belowF := fun h hb => h.below hb
 otherL := fun h hB hcs ho hne => by
  obtain ⟨base, h⟩ := h
  exact ⟨base, h.grown (c3q ho) (fun g hg e => hne g hg (by cases e; rfl)) (fun _ _ _ _ _ _ _ _ hf => s7q hf hB hcs ho)⟩
 otherF := fun h hB hcs ho => s7q h hB hcs ho

def LRo (K : t1q) (w : World) (base : Nat) (v : Value) (rs : List (List Rat × Int × Rat)) : Prop :=
 ∃ xs, w.ownsRow base 45 5 v rs.length xs ∧ Clean w v ∧ ∀ (j : Nat) (r : List Rat × Int × Rat), rs[j]? = some r → ∃ a n c b a1 n1 c1 a2 n2 c2, xs[j * 5]? = some (.slice a n c) ∧ xs[j * 5 + 1]? = some (.int .i64 r.2.1) ∧ xs[j * 5 + 2]? = some (.bool b) ∧ xs[j * 5 + 3]? = some (.slice a1 n1 c1) ∧ xs[j * 5 + 4]? = some (.slice a2 n2 c2) ∧
  K.L w (.slice a n c) r.1 ∧ K.F w (.agg #[.bool b, .slice a1 n1 c1, .slice a2 n2 c2]) r.2.2 ∧ (∀ g, (Value.slice a n c).ownBlock = some g → v.ownBlock ≠ some g ∧ g < w.heap.size ∧ base ≤ g)
theorem LRo.nil (K : t1q) (w : World) (base : Nat) : LRo K w base (.slice none 0 0) [] := ⟨[], World.ownsRow_nil w base _ 5, fun _ _ _ _ h => by simp [Value.ownBlock] at h, fun j q h => by simp at h⟩
theorem LRo.lt (h : LRo K w base v rs) : ∀ g, v.ownBlock = some g → base ≤ g ∧ g < w.heap.size := by
 obtain ⟨xs, ho, -⟩ := h
 exact fun g hg => World.ownsRow.lt ho g hg
theorem LRo.below (h : LRo K w base v rs) (hb : Below w.heap.size w w') : LRo K w' base v rs := by
 have hlt := h.lt
 obtain ⟨xs, ho, hc, he⟩ := h
 refine ⟨xs, World.ownsRow.kept (row := none) ho ⟨hb.os, hb.tape, hb.output, hb.size, fun k hk _ => hb.block k hk⟩ (by cases hv : v.ownBlock <;> simp), ?_, fun j r hr => ?_⟩
 ·
  intro g cs e fr hv hh
  rw [hb.block g (hlt g hv).2] at hh
  exact hc g cs e fr hv hh
 ·
  obtain ⟨a, n, c, b, a1, n1, c1, a2, n2, c2, h0, h1, h2, h3, h4, hl, hf, hne⟩ := he j r hr
  exact ⟨a, n, c, b, a1, n1, c1, a2, n2, c2, h0, h1, h2, h3, h4, K.belowL hl hb, K.belowF hf hb, fun g hg => ⟨(hne g hg).1, Nat.lt_of_lt_of_le (hne g hg).2.1 hb.size, (hne g hg).2.2⟩⟩
theorem LRo.form (h : LRo K w base v rs) : ∃ a c, v = .slice a rs.length c := by
 obtain ⟨xs, ho, -⟩ := h
 rcases ho.2 with ⟨rfl, h0⟩ | ⟨g, cap, cur, rfl, -⟩
 ·
  exact ⟨none, 0, by rw [h0]⟩
 ·
  exact ⟨_, _, rfl⟩
theorem LRo.other {cs : Array Value} {t : TypeId} {fr : Nat × Nat} (h : LRo K w base v rs) (hB : w.heap[B]? = some (.cells cs t fr)) (hcs : ∀ (j k : Nat), cs[j]? ≠ some (U k)) (ho : z9q B w w') (hlow : B < base) : LRo K w' base v rs := by
 have hlt := h.lt
 obtain ⟨xs, hx, hc, he⟩ := h
 refine ⟨xs, World.ownsRow.kept (row := some B) hx (c3q ho) (by
  cases hv : v.ownBlock with
  | none => simp
  | some g => exact Or.inr (by have := (hlt g hv).1; intro e; cases e; omega)), ?_, fun j r hr => ?_⟩
 ·
  intro g cs' e fr' hv hh
  rw [ho.block g (by have := (hlt g hv).1; omega)] at hh
  exact hc g cs' e fr' hv hh
 ·
  obtain ⟨a, n, c, b, a1, n1, c1, a2, n2, c2, h0, h1, h2, h3, h4, hl, hf, hne⟩ := he j r hr
  exact ⟨a, n, c, b, a1, n1, c1, a2, n2, c2, h0, h1, h2, h3, h4, K.otherL hl hB hcs ho (fun g hg => by have := (hne g hg).2.2; omega), K.otherF hf hB hcs ho, fun g hg => ⟨(hne g hg).1, Nat.lt_of_lt_of_le (hne g hg).2.1 (Nat.le_of_eq ho.size.symm), (hne g hg).2.2⟩⟩
theorem j6h : (Tryz.prog.info? 45).map (fun i => (i.zero, i.size, i.bytes)) = some (some (.agg #[Value.slice none 0 0, Value.int .i64 0, Value.bool false, Value.slice none 0 0, Value.slice none 0 0]), 5, 88) := by kernel_rfl

theorem l7q {o : Oper} {a : Act} {C : Act → World → Prop} {Q : Exit → Act → World → Prop} (s x : Operand)
  (ho : o.op = .call { callee := .builtin .append, args := #[s, x], argTypes := #[24, 24] }) (base : Nat) (v : Value) (rs : List (List Rat × Int × Rat)) (hs : a.eval s = v) (hown : LRo K w base v rs)
  (g cc : Nat) (ar : Option Addr) (nr cr : Nat) (b : Bool) (a1 a2 : Option Addr) (n1 c1 n2 c2 : Nat) (r : List Rat × Int × Rat) (hx : a.eval x = .slice (some ⟨g, 0, none⟩) 1 cc) (hrow : w.heap[g]? = some (.cells #[.slice ar nr cr, .int .i64 r.2.1, .bool b, .slice a1 n1 c1, .slice a2 n2 c2] 45 (0, 0)))
  (hL : K.L w (.slice ar nr cr) r.1) (hf : K.F w (.agg #[.bool b, .slice a1 n1 c1, .slice a2 n2 c2]) r.2.2) (hne : ∀ k, (Value.slice ar nr cr).ownBlock = some k → v.ownBlock ≠ some k ∧ k < w.heap.size ∧ base ≤ k) (hlen : rs.length ≤ 1000000) (hbase : base ≤ w.heap.size)
  (h : ∀ v' w', LRo K w' base v' (rs ++ [r]) → w.grownBy w' v.ownBlock → (∀ W, Below base W w → Below base W w') → (v'.ownBlock = v.ownBlock ∨ v'.ownBlock = some w.heap.size) → C (a.put o.dst v') w') :
  Oper.wp Tryz.prog o a w C Q := by
 obtain ⟨i0, hi0, hz0, hz1, hz2⟩ := info_parts j6h
 have hlt := hown.lt
 obtain ⟨xs, hxs, hcl, hel⟩ := hown
 have hnl : [Value.slice ar nr cr, Value.int .i64 r.2.1, Value.bool b, Value.slice a1 n1 c1, Value.slice a2 n2 c2].length = 1 * 5 := rfl
 obtain ⟨v', w', hr, h2, h3, h4, h5, -, -⟩ := f1q (P := Tryz.prog) (w := w) base 24 o.type 45 i0 (.agg #[Value.slice none 0 0, Value.int .i64 0, Value.bool false, Value.slice none 0 0, Value.slice none 0 0]) 5 88 Tryz.underlying24 hi0 hz0 hz1 hz2 rfl (by decide) v rs.length xs hxs ⟨g, 0, none⟩ 1 cc
  [Value.slice ar nr cr, Value.int .i64 r.2.1, Value.bool b, Value.slice a1 n1 c1, Value.slice a2 n2 c2] hnl (by
   intro j u hu
   rw [Addr.add_lit, cell_of_row _ _ _ _ _ _ hrow]
   simpa using hu) (by intro u hu; simp at hu; rcases hu with rfl | rfl | rfl | rfl | rfl <;> rfl) (by unfold maxLen; omega) (by omega) hbase (by decide)
  (by intro u hu k; simp [Value.cells] at hu; rcases hu with rfl | rfl | rfl | rfl <;> (intro e; cases e)) (by intro u hu k; simp at hu; rcases hu with rfl | rfl | rfl | rfl | rfl <;> (intro e; cases e)) hcl
 have hat : ∀ k, k < w.heap.size → v.ownBlock ≠ some k → v'.ownBlock ≠ some k := by
  intro k hk hv e
  rcases h4 with e4 | e4
  ·
   rw [e4] at e; exact hv e
  ·
   rw [e4] at e; simp only [Option.some.injEq] at e; omega
 unfold Oper.wp execOp
 simp only [ho, resolve, invoke, builtin, Sem.run_bind, Sem.run_pure, Result.andThen_ok, List.map_toArray, List.map_cons, List.map_nil, hs, hx, hr]
 refine h v' w' ⟨xs ++ [Value.slice ar nr cr, Value.int .i64 r.2.1, Value.bool b, Value.slice a1 n1 c1, Value.slice a2 n2 c2], by simpa using h2, h5, fun j r' hr' => ?_⟩ h3 ?_ h4
 ·
  have hxl : xs.length = rs.length * 5 := hxs.1
  by_cases hj : j < rs.length
  ·
   rw [List.getElem?_append_left hj] at hr'
   obtain ⟨a', n', c', b', a1', n1', c1', a2', n2', c2', e0, e1, e2, e3, e4, hl', hf', hne'⟩ := hel j r' hr'
   exact ⟨a', n', c', b', a1', n1', c1', a2', n2', c2', by rw [List.getElem?_append_left (by omega)]; exact e0, by rw [List.getElem?_append_left (by omega)]; exact e1, by rw [List.getElem?_append_left (by omega)]; exact e2, by rw [List.getElem?_append_left (by omega)]; exact e3, by rw [List.getElem?_append_left (by omega)]; exact e4,
    K.keepL hl' hcl h3 (fun k hk => (hne' k hk).1), K.keepF hf' hcl h3, fun k hk => ⟨hat k (hne' k hk).2.1 (hne' k hk).1, Nat.lt_of_lt_of_le (hne' k hk).2.1 h3.size, (hne' k hk).2.2⟩⟩
  ·
   have hjl : j = rs.length := by
    have h9 := (List.getElem?_eq_some_iff.1 hr').1
    simp at h9; omega
   subst hjl
   simp at hr'
   subst hr'
   refine ⟨ar, nr, cr, b, a1, n1, c1, a2, n2, c2, ?_, ?_, ?_, ?_, ?_, K.keepL hL hcl h3 (fun k hk => (hne k hk).1), K.keepF hf hcl h3, fun k hk => ⟨hat k (hne k hk).2.1 (hne k hk).1, Nat.lt_of_lt_of_le (hne k hk).2.1 h3.size, (hne k hk).2.2⟩⟩
   ·
    rw [List.getElem?_append_right (by omega), hxl]; simp
   ·
    rw [List.getElem?_append_right (by omega), hxl, show rs.length * 5 + 1 - rs.length * 5 = 1 by omega]; rfl
   ·
    rw [List.getElem?_append_right (by omega), hxl, show rs.length * 5 + 2 - rs.length * 5 = 2 by omega]; rfl
   ·
    rw [List.getElem?_append_right (by omega), hxl, show rs.length * 5 + 3 - rs.length * 5 = 3 by omega]; rfl
   ·
    rw [List.getElem?_append_right (by omega), hxl, show rs.length * 5 + 4 - rs.length * 5 = 4 by omega]; rfl
 ·
  intro W hW
  exact hW.grown h3 hbase (fun k hk => (hlt k hk).1)
section
variable {P : Program} {ops : Array Oper} {Q : Exit → Act → World → Prop} {md : Region.Mode} {S : World → Prop} {L : Nat}

def t0q (P : Program) (md : Region.Mode) (ops : Array Oper) (Q : Exit → Act → World → Prop) (S : World → Prop) (L : Nat) : Nat → Array Bool → Act → World → Prop
 | 0, ls, a, w => Region.ready md ops ls = [] ∧ Q .normal a w
 | k + 1, ls, a, w => (Region.ready md ops ls = [] → Q .normal a w) ∧
  ∀ i ∈ Region.ready md ops ls, wpOp P ops Q i (fun a' w' => (i ≠ L → S w') ∧ t0q P md ops Q S L k (ls.setIfInBounds i true) a' w') a w
theorem u4z : ∀ (k : Nat) (ls : Array Bool) (a : Act) (w : World), t0q P md ops Q S L k ls a w → wpAny P md ops Q k ls a w := by
 intro k
 induction k with
 | zero => exact fun _ _ _ h => h
 | succ k ih => exact fun ls a w h => ⟨h.1, fun i hi => wpOp_mono (fun a' w' h' => ih _ a' w' h'.2) (h.2 i hi)⟩
def q7v (md : Region.Mode) (ops : Array Oper) (L i : Nat) : Bool :=
 match ops[L]? with
 | some o => o.after.any fun e => Region.binds md e && e.on == i
 | none => false
theorem g1h {ls : Array Bool} (hw : q7v md ops L i = true) (hi : i ∈ Region.ready md ops ls) : L ∉ Region.ready md ops ls := by
 intro hL
 obtain ⟨-, oL, hoL, hall⟩ := mem_ready.1 hL
 have hun := (mem_ready.1 hi).1
 unfold q7v at hw
 rw [hoL] at hw
 simp only [Array.any_eq_true'] at hw
 obtain ⟨e, he, hb⟩ := hw
 rw [Bool.and_eq_true, beq_iff_eq] at hb
 have h1 := hall e he hb.1
 rw [hb.2] at h1
 rcases Nat.lt_or_ge i ls.size with h9 | h9
 ·
  simp [h9] at hun h1
  rw [hun] at h1; cases h1
 ·
  simp [Array.getElem?_eq_none h9] at h1

theorem x8k {oi : Oper} (hi : ops[i]? = some oi) (hsel : ∀ (j : Nat) (o : Oper) cs b, ops[j]? = some o → o.op ≠ .select cs b)
  (hQ : ∀ c a w, Q (.panic c) (a.put oi.dst v) w → Q (.panic c) a w) (hw : q7v md ops L i = true) (hiL : i ≠ L) :
  ∀ (k : Nat) (ls : Array Bool) (a : Act) (w : World),
   (∀ j oj, ops[j]? = some oj → j ≠ i → ls.getD j true = false → (∀ e ∈ oj.after, Region.binds md e = true → e.on ≠ i) → oi.apart ops oj = true) →
   i ∈ Region.ready md ops ls → YieldsIf P ops S oi v a → S w →
   t0q P md ops Q S L k (ls.setIfInBounds i true) (a.put oi.dst v) w → t0q P md ops Q S L (k + 1) ls a w := by
 intro k
 induction k with
 | zero =>
  intro ls a w _ hr hy hS H
  refine ⟨fun h => (by rw [h] at hr; cases hr), fun j hj => ?_⟩
  by_cases hji : j = i
  ·
   subst hji
   exact hy.wpOp hi hS ⟨fun _ => hS, H⟩
  ·
   have h9 := ready_mono hj hji
   rw [H.1] at h9
   cases h9
 | succ k ih =>
  intro ls a w hfree hr hy hS H
  refine ⟨fun h => (by rw [h] at hr; cases hr), fun j hj => ?_⟩
  by_cases hji : j = i
  ·
   subst hji
   exact hy.wpOp hi hS ⟨fun _ => hS, H⟩
  ·
   have hjL : j ≠ L := fun e => g1h hw hr (e ▸ hj)
   have h1 := H.2 j (ready_mono hj hji)
   obtain ⟨hjun, oj, hoj, hall⟩ := mem_ready.1 hj
   have hno : ∀ e ∈ oj.after, Region.binds md e = true → e.on ≠ i := fun e he hb heq => by
    have g1 := hall e he hb
    have g0 := (mem_ready.1 hr).1
    rw [heq] at g1
    rcases Nat.lt_or_ge i ls.size with h9 | h9
    ·
     simp [h9] at g0 g1
     rw [g0] at g1; cases g1
    ·
     simp [Array.getElem?_eq_none h9] at g1
   have h2 := wpOp_putIf hoj (hfree j oj hoj hji hjun hno) (fun cs b => hsel i oi cs b hi) (fun cs b => hsel j oj cs b hoj) hQ hy h1
   refine wpOp_mono (fun a' w' h3 => ⟨fun _ => h3.2.1 hjL, ih (ls.setIfInBounds j true) a' w' ?_ (ready_mono hr (Ne.symm hji)) h3.1 (h3.2.1 hjL) ?_⟩) h2
   ·
    intro m om hm hmi hun hnm
    refine hfree m om hm hmi ?_ hnm
    by_cases hjm : j = m
    ·
     subst hjm; exact hjun
    ·
     rw [getD_set_ne true hjm] at hun; exact hun
   ·
    rw [Array.setIfInBounds_comm _ _ hji]
    exact h3.2.2
theorem g4h {oi : Oper} {ls : Array Bool} {a : Act} (hi : ops[i]? = some oi)
  (hs : Region.noSelect ops = true) (hf : Region.free md ops ls i = true) (hr : (Region.ready md ops ls).contains i = true)
  (hQ : ∀ c a w, Q (.panic c) (a.put oi.dst v) w → Q (.panic c) a w) (hw : q7v md ops L i = true) (hiL : i ≠ L) (hy : YieldsIf P ops S oi v a) (hS : S w)
  (h : t0q P md ops Q S L k (ls.setIfInBounds i true) (a.put oi.dst v) w) : t0q P md ops Q S L (k + 1) ls a w :=
 x8k hi (Region.noSelect_spec hs) hQ hw hiL k ls a w (Region.free_spec hi hf) (by simpa using hr) hy hS h
def z0q (P : Program) (md : Region.Mode) (ops : Array Oper) (Q : Exit → Act → World → Prop) (S : World → Prop) (L k : Nat) (ls : Array Bool) (a : Act) (w : World) (rs : List Nat) : Prop :=
 ∀ i ∈ rs, wpOp P ops Q i (fun a' w' => (i ≠ L → S w') ∧ t0q P md ops Q S L k (ls.setIfInBounds i true) a' w') a w
theorem y6q {rs : List Nat} {ls : Array Bool} {a : Act} (hr : Region.ready md ops ls = rs) (hne : rs ≠ []) (h : z0q P md ops Q S L k ls a w rs) : t0q P md ops Q S L (k + 1) ls a w :=
 ⟨fun h0 => absurd (hr ▸ h0) hne, fun i hi => h i (hr ▸ hi)⟩
theorem z0q.nil {ls : Array Bool} {a : Act} : z0q P md ops Q S L k ls a w [] := fun _ h => by cases h
theorem z0q.cons {ls : Array Bool} {a : Act} {o : Oper} {rs : List Nat} (ho : ops[i]? = some o)
  (h : ∀ K : Act → World → Prop, Shut (∀ a w, (i ≠ L → S w) → ((i ≠ L → S w) → t0q P md ops Q S L k (ls.setIfInBounds i true) a w) → K a w) → if Region.wanted o (yielded ops a.tmps) = true then Oper.wp P o a w K Q else K (a.put o.dst undef) w)
  (hs : z0q P md ops Q S L k ls a w rs) : z0q P md ops Q S L k ls a w (i :: rs) := fun j hj => by
 rcases List.mem_cons.1 hj with e | hj
 ·
  rw [e]
  exact wpOp_step ho (fun K' hK => h K' (fun a w hS hW => hK a w ⟨hS, hW hS⟩))
 ·
  exact hs j hj
theorem d3q {ls : Array Bool} {a : Act} (hr : Region.ready md ops ls = []) (h : Q .normal a w) : ∀ k, t0q P md ops Q S L k ls a w
 | 0 => ⟨hr, h⟩
 | _ + 1 => ⟨fun _ => h, by rw [hr]; simp⟩
theorem h2q {id : Nat} {a : Act} (L : Nat) (S : World → Prop) (hm : P.follows .mixedOrders = true) (hS : S w.drew)
  (h : S w.drew → t0q P .any ops Q S L ops.size (Array.replicate ops.size false) a w.drew) : (Code.region id ops true).wp P Q a w :=
 wp_region_any hm (u4z _ _ _ _ (h hS))
end
theorem tt {P : Program} {ops : Array Oper} {Q : Exit → Act → World → Prop} {md : Region.Mode} {S : World → Prop} {L : Nat} (i : Nat) {oi : Oper} {v : Value} {k : Nat} {ls ls' : Array Bool} {a a' : Act} {w : World} (h : t0q P md ops Q S L k ls' a' w) (hi : ops[i]? = some oi := by rfl) (hs : Region.noSelect ops = true := by kernel_rfl) (hf : Region.free md ops ls i = true := by kernel_rfl) (hr : (Region.ready md ops ls).contains i = true := by kernel_rfl) (hQ : ∀ c a w, Q (.panic c) (a.put oi.dst v) w → Q (.panic c) a w := by exact fun _ _ _ h => h) (hw : q7v md ops L i = true := by kernel_rfl) (hiL : i ≠ L := by decide)
  (hy : YieldsIf P ops S oi v a := by (refine Or.inl ⟨by kernel_rfl, ?_⟩; intro w hSw; (try dsimp only at hSw); go_simp; try with_reducible rfl)) (hS : S w := by assumption) (ha : a.put oi.dst v = a' := by (try simp only [Act.put, List.getElem_toArray, List.getElem_cons_zero, List.getElem_cons_succ, List.setIfInBounds_toArray, List.set_cons_zero, List.set_cons_succ]); exact rfl) (hl : ls.setIfInBounds i true = ls' := by (try simp only [Act.put, List.getElem_toArray, List.getElem_cons_zero, List.getElem_cons_succ, List.setIfInBounds_toArray, List.set_cons_zero, List.set_cons_succ]); exact rfl) : t0q P md ops Q S L (k + 1) ls a w := g4h hi hs hf hr hQ hw hiL hy hS (by rw [ha, hl]; exact h)
theorem lyt {P : Program} {ops : Array Oper} {Q : Exit → Act → World → Prop} {md : Region.Mode} {S : World → Prop} {L : Nat} {k : Nat} {ls ls' : Array Bool} {a a' : Act} {w : World} (h : t0q P md ops Q S L k ls' a' w) (ha : a = a' := by (try simp only [Act.put, List.getElem_toArray, List.getElem_cons_zero, List.getElem_cons_succ, List.setIfInBounds_toArray, List.set_cons_zero, List.set_cons_succ]); exact rfl) (hl : ls = ls' := by (try simp only [Act.put, List.getElem_toArray, List.getElem_cons_zero, List.getElem_cons_succ, List.setIfInBounds_toArray, List.set_cons_zero, List.set_cons_succ]); exact rfl) : t0q P md ops Q S L k ls a w := by rw [ha, hl]; exact h
theorem u1k : (Tryz.prog.info? 4).map (fun i => (i.zero, i.size, i.bytes)) = some (some (Value.bool false), 1, 1) := by kernel_rfl
section
attribute [local go_sem ↓] Go.wp_at_zero Go.wp_at_succ
end
end Go.Proofs.YtkkbmlkpgknhgaaGreat
namespace Go.Proofs.YtkkbmlkpgknhgaaGreat
open Go.RowKit
attribute [local go_sem ↓] Go.wp_at_zero Go.wp_at_succ
variable {B G N base c fc fn gc gn i k n o rc rn xc xn yc yn zc zn : Nat} {K : t1q} {a fa ga ra xa ya za : Option Addr} {bs : List Bool} {q : Rat} {qs : List Rat} {rs : List (List Rat × Int × Rat)} {u v x : Value} {w w' : World} {z : Int}
theorem a4q {y z : Value} {t : TypeId} (h : w.heap[B]? = some (.cells #[x, y, z, u] t (0, 0))) :
  (w.setCell ⟨B, 3, none⟩ v).heap[B]? = some (.cells #[x, y, z, v] t (0, 0)) := heap_setCell_same _ _ 3 _ _ _ h
theorem w6q (w : World) (B : Nat) (v : Value) : z9q B w (w.setCell ⟨B, 3, none⟩ v) := (z9q.refl B w).setCell 3 v
theorem u1q : ∀ (j k : Nat), (#[Value.int .i64 z, Value.slice fa fn fc, Value.slice ga gn gc, Value.slice ra rn rc] : Array Value)[j]? ≠ some (U k) := by
 intro j k h
 rcases j with _ | _ | _ | _ | j <;> simp [U] at h
def r3q (K : t1q) (w : World) (base : Nat) (v : Value) (P : Pm) : Prop :=
 ∃ fa fc ga gc ra rc mid, v = .agg #[.int .i64 P.vars, .slice fa P.free.length fc, .slice ga P.goal.length gc, .slice ra P.rows.length rc] ∧ f3q w fa P.free ∧ K.L w (.slice ga P.goal.length gc) P.goal ∧ LRo K w mid (.slice ra P.rows.length rc) P.rows ∧ base ≤ mid ∧ (∀ x, fa = some x → x.block < mid) ∧ (∀ g, (Value.slice ga P.goal.length gc).ownBlock = some g → g < mid) ∧ mid ≤ w.heap.size
theorem r4q {o : Oper} {a : Act} {K : Act → World → Prop} {Q : Exit → Act → World → Prop} (ho : o.op = .alloc 26)
  (h : ∀ G w', w'.heap[G]? = some (.cells #[.int .i64 0, .slice none 0 0, .slice none 0 0, .slice none 0 0] 26 (0, 0)) → w.heap.size ≤ G → Below w.heap.size w w' → K (a.put o.dst (.pointer (some ⟨G, 0, none⟩))) w') : Oper.wp Tryz.prog o a w K Q := by
 have h9 := h w.heap.size (w.alloc (Obj.cells #[.int .i64 0, .slice none 0 0, .slice none 0 0, .slice none 0 0] 26)) (heap_alloc_new w _) qm ((qb).alloc qm _)
 unfold Oper.wp execOp
 simp only [ho]
 go_simp
 exact h9
theorem r5q {o : Oper} {a : Act} {K : Act → World → Prop} {Q : Exit → Act → World → Prop} (x y : Operand) (ho : o.op = .store 26 x y)
  (g : Nat) (hx : a.eval x = .pointer (some ⟨g, 0, none⟩)) (v0 v1 v2 v3 : Value) (hy : a.eval y = .agg #[v0, v1, v2, v3]) (cur : Array Value) (hg : w.heap[g]? = some (.cells cur 26 (0, 0))) (hs : cur.size = 4)
  (h1 : ∀ v ∈ (#[v0, v1, v2, v3] : Array Value).toList, v.oneCell' = true)
  (h : ∀ w', w'.heap[g]? = some (.cells #[v0, v1, v2, v3] 26 (0, 0)) → z9q g w w' → K (a.put o.dst undef) w') : Oper.wp Tryz.prog o a w K Q := by
 unfold Oper.wp execOp
 have hr := q6w (P := Tryz.prog) w g 26 26 cur #[v0, v1, v2, v3] hg (by kernel_rfl) (by rw [hs]; rfl) h1
 simp only [ho, hx, hy, Instr.storeAt, Instr.sureAddr, Sem.run_bind, Sem.run_pure, Result.andThen_ok, hr]
 exact h _ (setRow_heap w g cur _ _ _ hg) ⟨rfl, rfl, rfl, by simp [World.setRow], fun k hk => setRow_other w g k _ hk⟩
theorem f3q.other {cs : Array Value} {t : TypeId} {fr : Nat × Nat} (h : f3q w a bs) (hG : w.heap[G]? = some (.cells cs t fr)) (hcs : ∀ (j : Nat) (b : Bool), cs[j]? ≠ some (.bool b)) (ho : z9q G w w') : f3q w' a bs := fun i b hi => by
 obtain ⟨B, off, ha, hc⟩ := h i b hi
 have hne : B ≠ G := by
  intro e
  rw [e, cell_of_row _ _ _ _ _ _ hG] at hc
  exact hcs _ _ hc
 refine ⟨B, off, ha, ?_⟩
 simp only [World.cell?] at hc ⊢
 rw [ho.block B hne]
 exact hc
theorem g2q.apart {cs : Array Value} {t : TypeId} {fr : Nat × Nat} (h : g2q w (.slice a n c) qs) (hn : 0 < n) (hG : w.heap[G]? = some (.cells cs t fr)) (hcs : ∀ (j : Nat) (b : Bool), cs[j]? ≠ some (.bool b)) : ∀ g, (Value.slice a n c).ownBlock = some g → g ≠ G := by
 obtain ⟨B, off, b, a1, n1, c1, a2, n2, c2, rfl, hc, -⟩ := h.at (i := 0) hn
 intro g hg e
 have h9 : some B = some g := hg
 obtain rfl := Option.some.inj h9
 obtain ⟨k0, -, -⟩ := hc w qb
 rw [e, cell_of_row _ _ _ _ _ _ hG] at k0
 exact hcs _ _ k0
theorem k3q : ∀ (j : Nat) (b : Bool), (#[Value.int .i64 z, Value.slice fa fn fc, Value.slice ga gn gc, Value.slice ra rn rc] : Array Value)[j]? ≠ some (.bool b) := by
 intro j k h
 rcases j with _ | _ | _ | _ | j <;> simp at h
theorem g8q : (Tryz.prog.info? 26).map (·.size) = some 4 := by kernel_rfl
theorem LRo.clean (h : LRo K w base v rs) : Clean w v := h.elim fun _ h => h.2.1
theorem f3q.belowN (h : f3q w a bs) (hlt : ∀ x, a = some x → x.block < N) (hb : Below N w w') : f3q w' a bs := fun i b hi => by
 obtain ⟨B, off, ha, hc⟩ := h i b hi
 refine ⟨B, off, ha, ?_⟩
 have h9 := hlt _ ha
 simp only [World.cell?] at hc ⊢
 rw [hb.block B h9]
 exact hc
theorem LRo.low {base' : Nat} (h : LRo K w base v rs) (hb : base' ≤ base) : LRo K w base' v rs := by
 obtain ⟨xs, ho, hc, he⟩ := h
 refine ⟨xs, ⟨ho.1, ?_⟩, hc, fun j r hr => ?_⟩
 ·
  rcases ho.2 with h0 | ⟨g, cap, cur, hv, hbg, hrest⟩
  ·
   exact .inl h0
  ·
   exact .inr ⟨g, cap, cur, hv, Nat.le_trans hb hbg, hrest⟩
 ·
  obtain ⟨a, n, c, b, a1, n1, c1, a2, n2, c2, h0, h1, h2, h3, h4, hl, hf, hne⟩ := he j r hr
  exact ⟨a, n, c, b, a1, n1, c1, a2, n2, c2, h0, h1, h2, h3, h4, hl, hf, fun g hg => ⟨(hne g hg).1, (hne g hg).2.1, Nat.le_trans hb (hne g hg).2.2⟩⟩
theorem g2q.lt9 (h : g2q w v qs) : ∀ g, v.ownBlock = some g → g < w.heap.size := by
 obtain ⟨B, rfl, h⟩ := h
 intro g hg
 have h9 : some B = some g := hg
 obtain rfl := Option.some.inj h9
 exact h.lt
theorem j5y {n : Int} (hm : d2q n 1 = q) (h1 : -9223372036854775808 ≤ n) (h2 : n ≤ 9223372036854775807) : Calls Tryz.prog 65 #[.int .i64 n] w (h0q w q) := by
 obtain ⟨w1, hw1, HB1, HR1⟩ := al1 w #[.bool false, .slice none 0 0, .slice none 0 0] 43
 have HW1 := hdd hw1.symm
 clear hw1
 have KM : Hi (∀ w', Calls Tryz.prog 93 #[.int .i64 n, .int .i64 1] w' fun e w'' => (∃ r, e = .returned (.tuple #[r, .int .i64 0]) ∧ j3q w'' r q) ∧ Below w'.heap.size w' w'') := hdd (fun w' => by
  have h9 := v7z (w := w') n 1 h1 h2 (by decide) (by decide)
  have e9 : g7q ((1 : Int).natAbs) = false := f2q (by decide)
  rw [e9, hm] at h9
  exact h9.mono fun e w' h => ⟨by simpa using h.1, h.2⟩)
 obtain ⟨Q, hQ⟩ := qx (q)
 rw [← hQ] at KM ⊢
 clear hQ
 go_enter Tryz.func65, Tryz.ntmps65
 go_wp2_with fail
 rw [HW1.o]
 refine (KM.o _).mono ?_
 rintro en2 w2 ⟨⟨v2, rfl, f2⟩, hb2⟩
 obtain ⟨a2, n2, c2, i2, j2, k2, hq2⟩ := q8q f2
 subst hq2
 have HF2 := hdd f2
 clear f2
 go_wp2_with ((with_reducible refine j9q ?_); refine q6q rfl _ _ _ rfl w2.heap.size rfl _ rfl _ _ (heap_alloc_new _ _) v0q rfl x3q ?_; intro w3 h3 hon3; refine y0q ?_)
 have hb3 : Below w2.heap.size w2 w3 := q4q ((qb).alloc qm _) hon3 qm
 have hz3 := q0q hb2 hb3
 have HR3 : Hi (w3.heap[w.heap.size]? = some (.cells #[.bool false, .slice none 0 0, .slice none 0 0] 43 (0, 0))) := hdd ((hz3.block _ (lt_of_block HR1.o)).trans HR1.o)
 have HB3 := hdd (q0q HB1.o hz3)
 have HF3 := hdd ((HF2.o.below hb3).other HR3.o (q7q _ _ (decide (Q.num < 0)) (Value.slice a2 n2 c2) (Value.slice i2 j2 k2)))
 have RR := hdd (q1q h3)
 have s0 := RR.o 0 _ rfl _ qb
 have s1 := RR.o 1 _ rfl _ qb
 have s2 := RR.o 2 _ rfl _ qb
 have r0 := q1q HR3.o 0 _ rfl _ qb
 have r1 := q1q HR3.o 1 _ rfl _ qb
 have r2 := q1q HR3.o 2 _ rfl _ qb
 have g0 := frozen_of_row _ _ 0 _ _ HR3.o
 have g1 := frozen_of_row _ _ 1 _ _ HR3.o
 have g2 := frozen_of_row _ _ 2 _ _ HR3.o
 clear h3 hon3 hb3 hb2 hz3
 refine z2q ?_
 go_wp2_with fail
 exact bodyPost_ret (results_cell_row rfl _ _ w.heap.size _ _ _ _ rfl (z5q HR3.o) Tryz.underlying43 rfl v0q) rfl ⟨⟨_, rfl, HF3.o⟩, q4q HB3.o (q7q _ _ _ _ _) (by omega)⟩

theorem j3x {n : Int} (hm : d2q n 1 = q) (h1 : -9223372036854775808 ≤ n) (h2 : n ≤ 9223372036854775807) : Calls Tryz.prog 92 #[.int .i64 n] w (h0q w q) := by
 obtain ⟨w1, hw1, HB1, HR1⟩ := al1 w #[.bool false, .slice none 0 0, .slice none 0 0] 43
 have HW1 := hdd hw1.symm
 clear hw1
 have KM : Hi (∀ w', Calls Tryz.prog 118 #[.int .i64 n, .int .i64 1] w' fun e w'' => (∃ r, e = .returned (.tuple #[r, .int .i64 0]) ∧ j3q w'' r q) ∧ Below w'.heap.size w' w'') := hdd (fun w' => by
  have h9 := g7v (w := w') n 1 h1 h2 (by decide) (by decide)
  have e9 : g7q ((1 : Int).natAbs) = false := f2q (by decide)
  rw [e9, hm] at h9
  refine h9.mono fun e w' h => ?_
  unfold v4y at h
  simp only [Bool.false_eq_true, if_false] at h
  obtain ⟨⟨r, he, hf, -⟩, hb⟩ := h
  exact ⟨⟨r, he, hf⟩, hb⟩)
 obtain ⟨Q, hQ⟩ := qx (q)
 rw [← hQ] at KM ⊢
 clear hQ
 go_enter Tryz.func92, Tryz.ntmps92
 go_wp2_with fail
 rw [HW1.o]
 refine (KM.o _).mono ?_
 rintro en2 w2 ⟨⟨v2, rfl, f2⟩, hb2⟩
 obtain ⟨a2, n2, c2, i2, j2, k2, hq2⟩ := q8q f2
 subst hq2
 have HF2 := hdd f2
 clear f2
 go_wp2_with ((with_reducible refine j9q ?_); refine q6q rfl _ _ _ rfl w2.heap.size rfl _ rfl _ _ (heap_alloc_new _ _) v0q rfl x3q ?_; intro w3 h3 hon3; refine y0q ?_)
 have hb3 : Below w2.heap.size w2 w3 := q4q ((qb).alloc qm _) hon3 qm
 have hz3 := q0q hb2 hb3
 have HR3 : Hi (w3.heap[w.heap.size]? = some (.cells #[.bool false, .slice none 0 0, .slice none 0 0] 43 (0, 0))) := hdd ((hz3.block _ (lt_of_block HR1.o)).trans HR1.o)
 have HB3 := hdd (q0q HB1.o hz3)
 have HF3 := hdd ((HF2.o.below hb3).other HR3.o (q7q _ _ (decide (Q.num < 0)) (Value.slice a2 n2 c2) (Value.slice i2 j2 k2)))
 have RR := hdd (q1q h3)
 have s0 := RR.o 0 _ rfl _ qb
 have s1 := RR.o 1 _ rfl _ qb
 have s2 := RR.o 2 _ rfl _ qb
 have r0 := q1q HR3.o 0 _ rfl _ qb
 have r1 := q1q HR3.o 1 _ rfl _ qb
 have r2 := q1q HR3.o 2 _ rfl _ qb
 have g0 := frozen_of_row _ _ 0 _ _ HR3.o
 have g1 := frozen_of_row _ _ 1 _ _ HR3.o
 have g2 := frozen_of_row _ _ 2 _ _ HR3.o
 clear h3 hon3 hb3 hb2 hz3
 refine z2q ?_
 go_wp2_with fail
 exact bodyPost_ret (results_cell_row rfl _ _ w.heap.size _ _ _ _ rfl (z5q HR3.o) Tryz.underlying43 rfl v0q) rfl ⟨⟨_, rfl, HF3.o⟩, q4q HB3.o (q7q _ _ _ _ _) (by omega)⟩

end Go.Proofs.YtkkbmlkpgknhgaaGreat
namespace Go.Proofs.YtkkbmlkpgknhgaaGreat
open Go.RowKit
variable {B G N base c fc fn gc gn i k n o rc rn xc xn yc yn zc zn : Nat} {K : t1q} {a fa ga ra xa ya za : Option Addr} {bs : List Bool} {q : Rat} {qs : List Rat} {rs : List (List Rat × Int × Rat)} {u v x : Value} {w w' : World} {z : Int}
theorem x0k {L vs : List Value} (h : o + vs.length ≤ L.length) (hk : k < vs.length) : (L.take o ++ vs ++ L.drop (o + vs.length))[o + k]? = vs[k]? := by
 have h1 : (L.take o).length = o := by rw [List.length_take]; omega
 rw [List.append_assoc, List.getElem?_append_right (by omega), h1, List.getElem?_append_left (by omega)]
 congr 1
 omega
theorem u2h {L vs : List Value} (h : o + vs.length ≤ L.length) (hk : k < o ∨ o + vs.length ≤ k) : (L.take o ++ vs ++ L.drop (o + vs.length))[k]? = L[k]? := by
 have h1 : (L.take o).length = o := by rw [List.length_take]; omega
 rcases hk with hk | hk
 ·
  rw [List.append_assoc, List.getElem?_append_left (by omega), List.getElem?_take, if_pos hk]
 ·
  rw [List.getElem?_append_right (by rw [List.length_append]; omega), List.length_append, h1, List.getElem?_drop]
  congr 1
  omega
theorem LRo.put {g cap : Nat} {cur : Array Value} {r : List Rat × Int × Rat} {ar : Option Addr} {nr cr : Nat} {b : Bool} {a1 a2 : Option Addr} {n1 c1 n2 c2 : Nat}
  (h : LRo K w base (.slice (some ⟨g, 0, none⟩) n cap) rs) (hg : w.heap[g]? = some (.cells cur 45 (0, 0))) (hi : i < rs.length)
  (hw : w'.heap[g]? = some (.cells (cur.toList.take (i * 5) ++ [Value.slice ar nr cr, Value.int .i64 r.2.1, Value.bool b, Value.slice a1 n1 c1, Value.slice a2 n2 c2] ++ cur.toList.drop (i * 5 + 5)).toArray 45 (0, 0))) (hon : z9q g w w')
  (hL : K.L w (.slice ar nr cr) r.1) (hf : K.F w (.agg #[.bool b, .slice a1 n1 c1, .slice a2 n2 c2]) r.2.2) (hne : ∀ k, (Value.slice ar nr cr).ownBlock = some k → g ≠ k ∧ k < w.heap.size ∧ base ≤ k) : LRo K w' base (.slice (some ⟨g, 0, none⟩) n cap) (rs.set i r) := by
 obtain ⟨xs, ⟨hxl, ho⟩, hcl, hel⟩ := h
 rcases ho with ⟨h0, -⟩ | ⟨g', cap', cur', hv, hbg, hh, hnc, hcm, hcs, htake⟩
 ·
  cases h0
 simp only [Value.slice.injEq, Option.some.injEq, Addr.mk.injEq] at hv
 obtain ⟨⟨rfl, -, -⟩, hn, rfl⟩ := hv
 rw [hg] at hh
 simp only [Option.some.injEq, Obj.cells.injEq] at hh
 obtain ⟨rfl, -, -⟩ := hh
 have hcl0 : cur.toList.length = cap * 5 := by simpa using hcs
 have hfit : i * 5 + [Value.slice ar nr cr, Value.int .i64 r.2.1, Value.bool b, Value.slice a1 n1 c1, Value.slice a2 n2 c2].length ≤ cur.toList.length := by rw [hcl0]; simp only [List.length_cons, List.length_nil]; omega
 obtain ⟨vs, hvs⟩ := qx ([Value.slice ar nr cr, Value.int .i64 r.2.1, Value.bool b, Value.slice a1 n1 c1, Value.slice a2 n2 c2])
 have hv5 : vs.length = 5 := by rw [hvs]; rfl
 rw [← hvs] at hw hfit
 rw [show i * 5 + 5 = i * 5 + vs.length by rw [hv5]] at hw
 obtain ⟨L', hL'⟩ : ∃ L', L' = cur.toList.take (i * 5) ++ vs ++ cur.toList.drop (i * 5 + vs.length) := ⟨_, rfl⟩
 rw [← hL'] at hw
 have hlen' : L'.length = cap * 5 := by rw [hL']; simp only [List.length_append, List.length_take, List.length_drop]; omega
 have hcu : ∀ u ∈ cur.toList, NoU u := hcl g cur _ (0, 0) rfl hg
 have hvu : ∀ u ∈ vs, NoU u := by intro u hu k; rw [hvs] at hu; simp at hu; rcases hu with rfl | rfl | rfl | rfl | rfl <;> (intro e; cases e)
 have hu' : ∀ u ∈ L', NoU u := by
  intro u hu
  rw [hL'] at hu
  simp only [List.mem_append] at hu
  rcases hu with (hu | hu) | hu
  ·
   exact hcu u (List.mem_of_mem_take hu)
  ·
   exact hvu u hu
  ·
   exact hcu u (List.mem_of_mem_drop hu)
 have hnoU : ∀ (j k : Nat), cur[j]? ≠ some (U k) := fun j k e => hcu (U k) (Array.mem_toList_iff.2 (Array.mem_of_getElem? e)) k rfl
 have old : ∀ k, k < rs.length * 5 → xs[k]? = cur.toList[k]? := fun k hk => by rw [← htake, List.getElem?_take, if_pos hk]
 have new : ∀ k, k < rs.length * 5 → (L'.take (rs.length * 5))[k]? = L'[k]? := fun k hk => by rw [List.getElem?_take, if_pos hk]
 refine ⟨L'.take (rs.length * 5), ⟨by rw [List.length_take, List.length_set]; omega, .inr ⟨g, cap, L'.toArray, by rw [List.length_set, hn], hbg, hw, by rw [List.length_set]; exact hnc, hcm, by simpa using hlen', by rw [List.length_set]⟩⟩, ?_, fun j r' hr' => ?_⟩
 ·
  intro g2 cs2 e2 fr2 hb2 hh2 u hu
  have e9 : some g = some g2 := hb2
  obtain rfl := Option.some.inj e9
  rw [hw] at hh2
  simp only [Option.some.injEq, Obj.cells.injEq] at hh2
  obtain ⟨rfl, -, -⟩ := hh2
  exact hu' u hu
 ·
  by_cases hji : j = i
  ·
   subst hji
   rw [List.getElem?_set_self hi] at hr'
   cases hr'
   have at5 : ∀ c, c < 5 → (L'.take (rs.length * 5))[j * 5 + c]? = vs[c]? := fun c hc => by rw [new _ (by omega), hL']; exact x0k hfit (by omega)
   refine ⟨ar, nr, cr, b, a1, n1, c1, a2, n2, c2, by rw [show j * 5 = j * 5 + 0 by omega, at5 0 (by omega), hvs]; rfl, by rw [at5 1 (by omega), hvs]; rfl, by rw [at5 2 (by omega), hvs]; rfl, by rw [at5 3 (by omega), hvs]; rfl, by rw [at5 4 (by omega), hvs]; rfl, K.otherL hL hg hnoU hon (fun k hk => (hne k hk).1.symm), K.otherF hf hg hnoU hon, fun k hk => ⟨fun e => (hne k hk).1 (Option.some.inj e), by rw [hon.size]; exact (hne k hk).2.1, (hne k hk).2.2⟩⟩
  ·
   rw [List.getElem?_set_ne (fun e => hji e.symm)] at hr'
   have hjl := (List.getElem?_eq_some_iff.1 hr').1
   obtain ⟨a, n', c, b', b1, m1, d1, b2, m2, d2, h0, h1, h2, h3, h4, hl, hff, hn9⟩ := hel j r' hr'
   have at5 : ∀ c, c < 5 → (L'.take (rs.length * 5))[j * 5 + c]? = xs[j * 5 + c]? := fun c hc => by rw [new _ (by omega), old _ (by omega), hL']; exact u2h hfit (by omega)
   have e0 := at5 0 (by omega)
   simp only [Nat.add_zero] at e0
   exact ⟨a, n', c, b', b1, m1, d1, b2, m2, d2, by rw [e0]; exact h0, by rw [at5 1 (by omega)]; exact h1, by rw [at5 2 (by omega)]; exact h2, by rw [at5 3 (by omega)]; exact h3, by rw [at5 4 (by omega)]; exact h4, K.otherL hl hg hnoU hon (fun k hk e => (hn9 k hk).1 (by rw [e]; rfl)), K.otherF hff hg hnoU hon, fun k hk => ⟨(hn9 k hk).1, by rw [hon.size]; exact (hn9 k hk).2.1, (hn9 k hk).2.2⟩⟩
theorem LRo.at (h : LRo K w base (.slice a n c) rs) {i : Nat} (hi : i < n) :
  ∃ r B off ar nr cr b a1 n1 c1 a2 n2 c2, rs[i]? = some r ∧ a = some ⟨B, off, none⟩ ∧ (∀ w', Below w.heap.size w w' → w'.cell? ⟨B, off + i * 5, none⟩ = some (.slice ar nr cr) ∧ w'.cell? ⟨B, off + i * 5 + 1, none⟩ = some (.int .i64 r.2.1) ∧ w'.cell? ⟨B, off + i * 5 + 2, none⟩ = some (.bool b) ∧ w'.cell? ⟨B, off + i * 5 + 3, none⟩ = some (.slice a1 n1 c1) ∧ w'.cell? ⟨B, off + i * 5 + 4, none⟩ = some (.slice a2 n2 c2)) ∧
   K.L w (.slice ar nr cr) r.1 ∧ K.F w (.agg #[.bool b, .slice a1 n1 c1, .slice a2 n2 c2]) r.2.2 ∧ (∀ g, (Value.slice ar nr cr).ownBlock = some g → B ≠ g ∧ g < w.heap.size ∧ base ≤ g) := by
 obtain ⟨xs, ⟨hxl, ho⟩, hcl, hel⟩ := h
 have hcells := fun g hg => World.ownsRow.cells (⟨hxl, ho⟩ : w.ownsRow base 45 5 (.slice a n c) rs.length xs) (g := g) hg
 rcases ho with ⟨h0, h1⟩ | ⟨g, cap, cur, hv, -, -, -, -, -, -⟩
 ·
  simp only [Value.slice.injEq] at h0
  omega
 ·
  simp only [Value.slice.injEq] at hv
  obtain ⟨rfl, hn, rfl⟩ := hv
  have hil : i < rs.length := by omega
  obtain ⟨ar, nr, cr, b, a1, n1, c1, a2, n2, c2, h0, h1, h2, h3, h4, hl, hf, hne⟩ := hel i _ (List.getElem?_eq_getElem hil)
  have k0 := hcells g rfl _ _ h0
  have k1 := hcells g rfl _ _ h1
  have k2 := hcells g rfl _ _ h2
  have k3 := hcells g rfl _ _ h3
  have k4 := hcells g rfl _ _ h4
  rw [Addr.add_lit] at k0 k1 k2 k3 k4
  simp only [← Nat.add_assoc] at k1 k2 k3 k4
  exact ⟨rs[i], g, 0, ar, nr, cr, b, a1, n1, c1, a2, n2, c2, List.getElem?_eq_getElem hil, rfl, fun w' hb => ⟨q3q hb k0, q3q hb k1, q3q hb k2, q3q hb k3, q3q hb k4⟩, hl, hf, fun k hk => ⟨fun e => (hne k hk).1 (by rw [e]; rfl), (hne k hk).2.1, (hne k hk).2.2⟩⟩
end Go.Proofs.YtkkbmlkpgknhgaaGreat
namespace Go.Proofs.YtkkbmlkpgknhgaaGreat
open Go.RowKit
attribute [local go_sem ↓] Go.wp_at_zero Go.wp_at_succ
variable {B G N base c fc fn gc gn i k n o rc rn xc xn yc yn zc zn : Nat} {K : t1q} {a fa ga ra xa ya za : Option Addr} {bs : List Bool} {q : Rat} {qs : List Rat} {rs : List (List Rat × Int × Rat)} {u v x : Value} {w w' : World} {z : Int}
end Go.Proofs.YtkkbmlkpgknhgaaGreat
