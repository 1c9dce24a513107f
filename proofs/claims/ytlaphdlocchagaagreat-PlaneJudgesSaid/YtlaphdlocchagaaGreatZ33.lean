/- Several texts in one: K4. -/
import Derived.Test.YtlaphdlocchagaaGreatZ32
import Derived.Deep.RegionHeld3
import Derived.Deep.DrawnRows
/- signs, covers and worth of the reference. -/
namespace Go.Proofs.YtlaphdlocchagaaGreat
open Go.RowKit
attribute [local go_sem ↓] Go.wp_at_zero Go.wp_at_succ

theorem row_sense {P : Pm} (h : rightB2 P = true) {i : Nat} {r : List Rat × Int × Rat} (hr : P.rows[i]? = some r) : -1 ≤ r.2.1 ∧ r.2.1 ≤ 1 := by
  unfold rightB2 at h
  simp only [Bool.and_eq_true] at h
  have h9 := (List.all_eq_true.1 h.2) r (List.mem_of_getElem? hr)
  simp only [okRow, decide_eq_true_eq] at h9
  exact h9.2
def signsQ (P : Pm) (ys : List Rat) : Bool := decide (ys.length = P.rows.length) && signY P ys

set_option maxRecDepth 100000 in
set_option maxHeartbeats 8000000 in
theorem rsigns_w {N : Nat} {w : World} {v x : Value} {P : Pm} {ys : List Rat} (h : ProgF N w v P) (hy : ListF N w x ys) (hrb : rightB2 P = true) (hN : N ≤ 50) (hr100 : P.rows.length ≤ 100) (hv100 : P.vars ≤ 100) (hNn : N * P.rows.length ≤ 1000) :
    Calls Tryz.prog 33 #[v, x] w fun e w' => e = .returned (.bool (signsQ P ys)) ∧ Below w.heap.size w w' := by
  have HP := Lib.hid h
  have HY := Lib.hid hy

  have HRB := Lib.hid hrb
  obtain ⟨fa, fc, ga, gc, ra, rc, rfl, hz1, hz2, hB, -, hR⟩ := h
  have HBO := Lib.hid hB
  have HR := Lib.hid hR
  obtain ⟨ya, yc, rfl, -⟩ := hy
  obtain ⟨n, hn⟩ : ∃ n, n = P.free.length := ⟨_, rfl⟩
  obtain ⟨rn, hrn⟩ : ∃ n, n = P.rows.length := ⟨_, rfl⟩
  obtain ⟨yn, hyn⟩ : ∃ n, n = ys.length := ⟨_, rfl⟩
  obtain ⟨gn, hgn⟩ : ∃ n, n = P.goal.length := ⟨_, rfl⟩
  have hv : P.vars = (n : Int) := (by have := (right_goal hrb).2.1; omega)
  have hfl : P.free.length = n := by have := (right_goal hrb).2.1; omega
  have hn100 : n ≤ 100 := by omega
  rw [hv, hfl, ← hgn, ← hrn] at HP ⊢
  rw [← hyn] at HY ⊢
  rw [← hrn] at hr100
  have HNN : Hid (N * rn ≤ 1000) := Lib.hid (by rw [hrn]; exact hNn)
  have HEQ := Lib.hid (And.intro hrn (And.intro hyn (And.intro hn (And.intro hv hfl))))
  obtain ⟨w1, hw1⟩ : ∃ w1, w1 = w.alloc (Obj.cells #[Value.int .i64 (n : Int), Value.slice fa n fc, Value.slice ga gn gc, Value.slice ra rn rc] 26) := ⟨_, rfl⟩
  have HB1 : Hid (Below w.heap.size w w1) := Lib.hid (by rw [hw1]; exact (Below.refl _ _).alloc (Nat.le_refl _) _)
  have HX1 : Hid (w1.heap[w.heap.size]? = some (.cells #[Value.int .i64 (n : Int), Value.slice fa n fc, Value.slice ga gn gc, Value.slice ra rn rc] 26 (0, 0))) := Lib.hid (by rw [hw1]; exact heap_alloc_new w _)
  have HW1 := Lib.hid hw1.symm
  clear hw1 hB hR hNn hrb  hv hfl hn hrn hyn hgn hz1 hz2 hv100
  have RX := Lib.hid (cells_later HX1.out)
  have hb1 := Below.refl w1.heap.size w1
  have x0 := RX.out 0 _ rfl _ hb1
  have x1 := RX.out 1 _ rfl _ hb1
  have x2 := RX.out 2 _ rfl _ hb1
  have x3 := RX.out 3 _ rfl _ hb1
  by_cases hl : yn = rn
  case neg =>
    have t0 : (yn != rn) = true := by simpa using hl
    have t0' : ((yn : Int) != (rn : Int)) = true := by simp; omega
    have HE : Hid (signsQ P ys = false) := Lib.hid (by
      unfold signsQ
      have e : decide (ys.length = P.rows.length) = false := by rw [← HEQ.out.1, ← HEQ.out.2.1]; simpa using hl
      rw [e]; rfl)
    clear hl
    go_enter Tryz.func33, Tryz.ntmps33
    go_wp2_with fail
    rw [HW1.out]
    go_ret
    exact ⟨by rw [HE.out]; first | done | rfl, HB1.out⟩
  have t0 : (yn != rn) = false := by simpa using hl
  have t0' : ((yn : Int) != (rn : Int)) = false := by simp; omega
  have HYR := Lib.hid hl
  have HLEN : Hid (decide (ys.length = P.rows.length) = true) := Lib.hid (by rw [← HEQ.out.1, ← HEQ.out.2.1]; simpa using hl)
  clear hl
  go_enter Tryz.func33, Tryz.ntmps33
  go_wp2_with fail
  rw [HW1.out]
  go_loopw [17] (fun iv wr => ∃ i : Nat, i ≤ rn ∧ iv = .int .i64 i ∧ Hid (∀ j, j < i → ¬ (¬ sQ P j = 0 ∧ cmpQ (nthQ ys j) 0 = sQ P j)) ∧ Hid (Below w1.heap.size w1 wr)) (fun iv _ => rn - (intOf iv).toNat)
  case atStart => exact ⟨0, Nat.zero_le _, rfl, Lib.hid (fun j h => absurd h (Nat.not_lt_zero j)), Lib.hid hb1⟩
  case round =>
    obtain ⟨i, hi, rfl, hd, hZ⟩ := hrel
    obtain ⟨wo, rfl⟩ : ∃ wo : World, wo = wr := ⟨_, rfl⟩
    by_cases hin : i < rn
    · have t1 : decide ((i : Int) < (rn : Int)) = true := by simp; omega
      obtain ⟨r, B, off, a1, c1, b, a2, n2, c2, a3, n3, c3, hr, ha, hlr, hfr, hs3, hs4, hcr⟩ := HR.out.at (i := i) (by have := HEQ.out; omega)
      subst ha
      obtain ⟨f0, f1, f2, f3, f4⟩ := hcr wo (below_trans HB1.out hZ.out)
      have HRI := Lib.hid hr
      obtain ⟨q, B', off', b', a4, n4, c4, a5, n5, c5, hq, ha', hc, hf⟩ := HY.out.at (i := i) (by have := HYR.out; omega)
      subst ha'
      have HQ := Lib.hid (nthQ_of hq)
      have HF := Lib.hid hf
      have hsr := row_sense HRB.out hr
      obtain ⟨sn, hsn⟩ : ∃ n, n = r.2.1 := ⟨_, rfl⟩
      have HSQ : Hid (sQ P i = sn) := Lib.hid (by rw [sQ_of hr, hsn])
      rw [← hsn] at f1 hsr
      obtain ⟨rl, hrl⟩ : ∃ n, n = r.1.length := ⟨_, rfl⟩
      rw [← hrl] at f0
      have HC := Lib.hid (fun w' (hb : Below wo.heap.size wo w') => hc w' (below_trans (below_trans HB1.out hZ.out) hb))
      have hin2 : i < yn := by have := HYR.out; omega
      clear hcr hr hsn hrl hlr hfr hf hq hc hs3 hs4
      go_wp2_with ((with_reducible refine at_store ?_); refine wpList_store_var rfl _ _ _ rfl wo.heap.size rfl _ rfl _ _ (heap_alloc_new _ _) irow rfl row_one ?_; intro w4 h4 hon4; refine halt ?_)
      have hb4 : Below wo.heap.size wo w4 := below_only ((Below.refl _ _).alloc (Nat.le_refl _) _) hon4 (Nat.le_refl _)
      have HB4 := Lib.hid (below_trans hZ.out hb4)
      have RY := Lib.hid (cells_later h4)
      obtain ⟨k0, k1, k2⟩ := HC.out _ hb4
      have K := Lib.hid (rsign_f (HF.out.below (below_trans HB1.out HB4.out)) (by omega))
      have hc9 := cmpQ_small q 0
      obtain ⟨o, ho⟩ : ∃ o, o = cmpQ q 0 := ⟨_, rfl⟩
      rw [← ho] at K hc9
      obtain ⟨ho1, ho2⟩ := hc9
      have HO := Lib.hid ho
      clear h4 hon4 hb4 f0 f1 f2 f3 f4 ho
      refine go_on ?_
      go_wp2_with fail
      refine K.out.mono ?_
      rintro en5 w5 ⟨rfl, hb5⟩
      have HZ5 := Lib.hid (below_trans HB4.out hb5)
      have y0 := RY.out 0 _ rfl _ hb5
      have y1 := RY.out 1 _ rfl _ hb5
      have y2 := RY.out 2 _ rfl _ hb5
      have y3 := RY.out 3 _ rfl _ hb5
      have y4 := RY.out 4 _ rfl _ hb5
      have HSTEP : Hid ((sn = 0 ∨ ¬ o = sn) → ∀ j, j < i + 1 → ¬ (¬ sQ P j = 0 ∧ cmpQ (nthQ ys j) 0 = sQ P j)) := Lib.hid (fun h9 j hj => by
        by_cases e : j = i
        · subst e
          rw [HSQ.out, HQ.out, ← HO.out]
          rintro ⟨h8, h7⟩
          rcases h9 with h9 | h9
          · exact h8 h9
          · exact h9 h7
        · exact hd.out j (by omega))
      have HBAD : Hid ((¬ sn = 0 ∧ o = sn) → signsQ P ys = false) := Lib.hid (fun h9 => by
        have e : signY P ys = false := by
          unfold signY
          rw [decide_eq_false_iff_not]
          intro h
          exact h i (by have := HEQ.out; omega) ⟨by rw [HSQ.out]; exact h9.1, by rw [HQ.out, HSQ.out, ← HO.out]; exact h9.2⟩
        unfold signsQ; rw [e]; simp)
      clear hb5 k0 k1 k2
      rcases (show (sn = -1 ∧ o < 0) ∨ (sn = -1 ∧ ¬ o < 0) ∨ sn = 0 ∨ (sn = 1 ∧ 0 < o) ∨ (sn = 1 ∧ ¬ 0 < o) by omega) with ⟨h7, h8⟩ | ⟨h7, h8⟩ | h7 | ⟨h7, h8⟩ | ⟨h7, h8⟩
      · have u : decide (o < 0) = true := by simpa using h8
        have HE := Lib.hid (HBAD.out ⟨by omega, by omega⟩)
        subst h7
        clear h8
        go_wp2_with fail
        go_ret
        exact ⟨by rw [HE.out]; first | done | rfl, below_trans HB1.out HZ5.out⟩
      · have u : decide (o < 0) = false := by simpa using h8
        have HD := Lib.hid (HSTEP.out (by omega))
        subst h7
        clear h8
        go_wp2_with fail
        go_roundw
        case rel => exact ⟨i + 1, by omega, by go_num, HD, HZ5⟩
        case measure => simp [intOf]; omega
      · have HD := Lib.hid (HSTEP.out (by omega))
        subst h7
        go_wp2_with fail
        go_roundw
        case rel => exact ⟨i + 1, by omega, by go_num, HD, HZ5⟩
        case measure => simp [intOf]; omega
      · have u : decide (0 < o) = true := by simpa using h8
        have HE := Lib.hid (HBAD.out ⟨by omega, by omega⟩)
        subst h7
        clear h8
        go_wp2_with fail
        go_ret
        exact ⟨by rw [HE.out]; first | done | rfl, below_trans HB1.out HZ5.out⟩
      · have u : decide (0 < o) = false := by simpa using h8
        have HD := Lib.hid (HSTEP.out (by omega))
        subst h7
        clear h8
        go_wp2_with fail
        go_roundw
        case rel => exact ⟨i + 1, by omega, by go_num, HD, HZ5⟩
        case measure => simp [intOf]; omega
    · have t1 : decide ((i : Int) < (rn : Int)) = false := by simp; omega
      have HE : Hid (signsQ P ys = true) := Lib.hid (by
        have e : signY P ys = true := by
          unfold signY
          rw [decide_eq_true_eq]
          intro j hj
          exact hd.out j (by have := HEQ.out; have := HYR.out; omega)
        unfold signsQ; rw [HLEN.out, e]; rfl)
      go_wp2_with fail
      go_ret
      exact ⟨by rw [HE.out]; first | done | rfl, below_trans HB1.out hZ.out⟩

set_option maxRecDepth 100000 in
set_option maxHeartbeats 8000000 in
theorem rcovers_w {N : Nat} {w : World} {v x t : Value} {P : Pm} {ys goal : List Rat} (h : ProgF N w v P) (hy : ListF N w x ys) (hg : ListF N w t goal) (hrb : rightB2 P = true) (hgl : (goal.length : Int) = P.vars) (hyl : ys.length = P.rows.length) (hN : N ≤ 50) (hr100 : P.rows.length ≤ 100) (hv100 : P.vars ≤ 100) (hNn : N * P.rows.length ≤ 1000) :
    Calls Tryz.prog 34 #[v, x, t] w fun e w' => e = .returned (.bool (coverB P ys goal)) ∧ Below w.heap.size w w' := by
  have HP := Lib.hid h
  have HY := Lib.hid hy
  have HG := Lib.hid hg
  have HRB := Lib.hid hrb
  obtain ⟨fa, fc, ga, gc, ra, rc, rfl, hz1, hz2, hB, -, hR⟩ := h
  have HBO := Lib.hid hB
  have HR := Lib.hid hR
  obtain ⟨ya, yc, rfl, -⟩ := hy
  obtain ⟨ta, tc, rfl, -⟩ := hg
  obtain ⟨n, hn⟩ : ∃ n, n = goal.length := ⟨_, rfl⟩
  obtain ⟨rn, hrn⟩ : ∃ n, n = P.rows.length := ⟨_, rfl⟩
  obtain ⟨yn, hyn⟩ : ∃ n, n = ys.length := ⟨_, rfl⟩
  obtain ⟨gn, hgn⟩ : ∃ n, n = P.goal.length := ⟨_, rfl⟩
  have hv : P.vars = (n : Int) := (by omega)
  have hfl : P.free.length = n := by have := (right_goal hrb).2.1; omega
  have hn100 : n ≤ 100 := by omega
  rw [hv, hfl, ← hgn, ← hrn] at HP ⊢
  rw [← hn] at HG ⊢
  rw [← hyn] at HY ⊢
  rw [← hrn] at hr100
  have HNN : Hid (N * rn ≤ 1000) := Lib.hid (by rw [hrn]; exact hNn)
  have HEQ := Lib.hid (And.intro hrn (And.intro hyn (And.intro hn (And.intro hv hfl))))
  have HYR : Hid (yn = rn) := Lib.hid (by omega)
  obtain ⟨w1, hw1⟩ : ∃ w1, w1 = w.alloc (Obj.cells #[Value.int .i64 (n : Int), Value.slice fa n fc, Value.slice ga gn gc, Value.slice ra rn rc] 26) := ⟨_, rfl⟩
  have HB1 : Hid (Below w.heap.size w w1) := Lib.hid (by rw [hw1]; exact (Below.refl _ _).alloc (Nat.le_refl _) _)
  have HX1 : Hid (w1.heap[w.heap.size]? = some (.cells #[Value.int .i64 (n : Int), Value.slice fa n fc, Value.slice ga gn gc, Value.slice ra rn rc] 26 (0, 0))) := Lib.hid (by rw [hw1]; exact heap_alloc_new w _)
  have HW1 := Lib.hid hw1.symm
  clear hw1 hB hR hNn hrb hgl hyl hv hfl hn hrn hyn hgn hz1 hz2 hv100
  have RX := Lib.hid (cells_later HX1.out)
  have hb1 := Below.refl w1.heap.size w1
  have x0 := RX.out 0 _ rfl _ hb1
  have x1 := RX.out 1 _ rfl _ hb1
  have x2 := RX.out 2 _ rfl _ hb1
  have x3 := RX.out 3 _ rfl _ hb1
  obtain ⟨U0, hU0⟩ : ∃ U0, U0 = (0 : Rat) := ⟨_, rfl⟩
  have HU0 := Lib.hid hU0
  clear hU0
  go_enter Tryz.func34, Tryz.ntmps34
  go_wp2_with fail
  rw [HW1.out]
  go_loopw [7] (fun jv wr => ∃ j : Nat, j ≤ n ∧ jv = .int .i64 j ∧ Hid (∀ x, x < j → okCol P ys goal x) ∧ Hid (Below w1.heap.size w1 wr)) (fun jv _ => n - (intOf jv).toNat)
  case atStart => exact ⟨0, Nat.zero_le _, rfl, Lib.hid (fun j h => absurd h (Nat.not_lt_zero j)), Lib.hid hb1⟩
  case round =>
    obtain ⟨j, hjl, rfl, hdv, hZv⟩ := hrel
    obtain ⟨wv, rfl⟩ : ∃ wv : World, wv = wr := ⟨_, rfl⟩
    have x0 := RX.out 0 _ rfl _ hZv.out
    by_cases hjn : j < n
    · have t2 : decide ((j : Int) < (n : Int)) = true := by simp; omega
      obtain ⟨g, hg9⟩ : ∃ g : Nat → Rat, g = fun i => nthQ ys i * aQ P j i := ⟨_, rfl⟩
      have HGG : Hid (∀ i, g i = nthQ ys i * aQ P j i) := Lib.hid (fun i => by rw [hg9])
      have HGT : Hid (∀ i q qa, nthQ ys i = q → aQ P j i = qa → g i = q * qa) := Lib.hid (fun i q qa h1 h2 => by rw [HGG.out, h1, h2])
      have HSZ : Hid (∀ i, i ≤ rn → lenQ (sumR g 0 i) ≤ 4002) := Lib.hid (fun i hi => len_sum9 (N := N) (fun x hx => by
        rw [HGG.out]
        exact sz_mul (sz_nth HY.out (by have := HYR.out; have := HEQ.out; omega)) (sz_aQ HP.out (by have := HEQ.out; omega) (row_has HRB.out HEQ.out.2.2.2.1.symm hjn))) (by omega) (Nat.le_trans (Nat.mul_le_mul_left N hi) HNN.out))
      have HZPRE := hZv
      clear hg9
      go_wp2_with fail
      refine (whole0_w).mono ?_
      rintro en2 w2 ⟨⟨v2, rfl, f2⟩, hb2⟩
      have f2' : FracV w2 v2 U0 := by rw [HU0.out]; exact f2
      obtain ⟨a2', n2', c2', i2, j2, k2', hq2⟩ := frac_form f2'
      subst hq2
      have HF2 := Lib.hid f2'
      have HZ2 := Lib.hid (below_trans HZPRE.out hb2)
      clear f2 f2' hb2
      go_wp2_with ((with_reducible refine at_store ?_); refine wpList_store_var rfl _ _ _ rfl w2.heap.size rfl _ rfl _ _ (heap_alloc_new _ _) ifrac rfl frac_one ?_; intro w3 h3 hon3; refine halt ?_)
      have hb3 : Below w2.heap.size w2 w3 := below_only ((Below.refl _ _).alloc (Nat.le_refl _) _) hon3 (Nat.le_refl _)
      obtain ⟨Ba, hBa⟩ : ∃ B, B = w2.heap.size := ⟨_, rfl⟩
      have hBw1 : w1.heap.size ≤ Ba := by have h9 := HZ2.out.size; omega
      have HROW3 : Hid (w3.heap[Ba]? = some (.cells #[Value.bool (decide (U0.num < 0)), Value.slice a2' n2' c2', Value.slice i2 j2 k2'] 47 (0, 0))) := Lib.hid (by rw [hBa]; exact h3)
      have HF3 : Hid (FracV w3 (.agg #[Value.bool (decide (U0.num < 0)), Value.slice a2' n2' c2', Value.slice i2 j2 k2']) (sumR g 0 0)) := Lib.hid (by
        have h7 := HF2.out.below hb3
        rw [HU0.out] at h7 ⊢
        exact h7)
      have HZ3 := Lib.hid (below_trans HZ2.out hb3)
      rw [← hBa]
      clear h3 hon3 hb3 hBa
      refine go_on ?_
      have x0 := RX.out 0 _ rfl _ HZ3.out
      have x3 := RX.out 3 _ rfl _ HZ3.out
      go_wp2_with fail
      go_loopw [22] (fun iv wr => ∃ (i : Nat) (ra' : Bool) (ab : Option Addr) (an ac : Nat) (ai : Option Addr) (aj ak : Nat), i ≤ rn ∧ iv = .int .i64 i ∧ Hid (wr.heap[Ba]? = some (.cells #[Value.bool ra', Value.slice ab an ac, Value.slice ai aj ak] 47 (0, 0))) ∧ Hid (FracV wr (.agg #[Value.bool ra', Value.slice ab an ac, Value.slice ai aj ak]) (sumR g 0 i)) ∧ Hid (Below w1.heap.size w1 wr)) (fun iv _ => rn - (intOf iv).toNat)
      case atStart => exact ⟨0, _, _, _, _, _, _, _, Nat.zero_le _, rfl, HROW3, HF3, HZ3⟩
      case round =>
        obtain ⟨i, ra', ab, an, ac, ai, aj, ak, hi, rfl, hrow, hfa, hZ⟩ := hrel
        obtain ⟨wo, rfl⟩ : ∃ wo : World, wo = wr := ⟨_, rfl⟩
        by_cases hin : i < rn
        · have t5 : decide ((i : Int) < (rn : Int)) = true := by simp; omega
          obtain ⟨r, B, off, a1, c1, b, a2, n2, c2, a3, n3, c3, hr, ha, hlr, hfr, hs3, hs4, hcr⟩ := HR.out.at (i := i) (by have := HEQ.out; omega)
          subst ha
          obtain ⟨f0, f1, f2, f3, f4⟩ := hcr wo (below_trans HB1.out hZ.out)
          have HRI := Lib.hid hr
          obtain ⟨q, B', off', b', a4, n4, c4, a5, n5, c5, hq, ha', hc, hf⟩ := HY.out.at (i := i) (by have := HYR.out; omega)
          subst ha'
          have HQ := Lib.hid (nthQ_of hq)
          have HFY := Lib.hid hf
          have hin2 : i < yn := by have := HYR.out; omega
          have HC := Lib.hid (fun w' (hb : Below wo.heap.size wo w') => hc w' (below_trans (below_trans HB1.out hZ.out) hb))
          have hrl0 := row_len HRB.out hr
          obtain ⟨rl, hrl⟩ : ∃ n, n = r.1.length := ⟨_, rfl⟩
          have hrln : rl = n := by have := HEQ.out; omega
          rw [← hrl] at f0 hlr
          subst hrln
          obtain ⟨qa, Ba2, offa, b6, a8, n8, c8, a9, n9, c9, hqa, haa, hca, hfe⟩ := hlr.at (i := j) hjn
          subst haa
          have HEL : Hid (aQ P j i = qa) := Lib.hid (by rw [aQ_of hr]; exact nthQ_of hqa)
          have HFE := Lib.hid hfe
          have HCA := Lib.hid (fun w' (hb : Below wo.heap.size wo w') => hca w' (below_trans (below_trans HB1.out hZ.out) hb))
          clear hqa hca hfe
          have HW := Lib.hid (below_trans HB1.out hZ.out)
          clear hcr hr hrl hlr hfr hf hq hc hs3 hs4 hrl0
          go_wp2_with ((with_reducible refine at_store ?_); refine wpList_store_var rfl _ _ _ rfl wo.heap.size rfl _ rfl _ _ (heap_alloc_new _ _) irow rfl row_one ?_; intro w4 h4 hon4; refine halt ?_)
          have hb4 : Below wo.heap.size wo w4 := below_only ((Below.refl _ _).alloc (Nat.le_refl _) _) hon4 (Nat.le_refl _)
          have HO4 := Lib.hid hb4
          have HW4 := Lib.hid (below_trans HW.out hb4)
          have RY := Lib.hid (cells_later h4)
          have hb5 := Below.refl w4.heap.size w4
          have y0 := RY.out 0 _ rfl _ hb5
          have y1 := RY.out 1 _ rfl _ hb5
          have y2 := RY.out 2 _ rfl _ hb5
          have y3 := RY.out 3 _ rfl _ hb5
          have y4 := RY.out 4 _ rfl _ hb5
          obtain ⟨k0, k1, k2⟩ := HC.out _ hb4
          have HROW4 : Hid (w4.heap[Ba]? = some (.cells #[Value.bool ra', Value.slice ab an ac, Value.slice ai aj ak] 47 (0, 0))) := Lib.hid ((hb4.block _ (lt_of_block hrow.out)).trans hrow.out)
          have RA := Lib.hid (cells_later HROW4.out)
          have FA := Lib.hid (frozen_at HROW4.out)
          have s0 := RA.out 0 _ rfl _ hb5
          have s1 := RA.out 1 _ rfl _ hb5
          have s2 := RA.out 2 _ rfl _ hb5
          have HFA4 := Lib.hid (hfa.out.below hb4)
          have HZ4 := Lib.hid (below_trans hZ.out hb4)
          have HNX : Hid (sumR g 0 i + g i = sumR g 0 (i + 1)) := Lib.hid (sumR_next g i)
          obtain ⟨Q, hQ⟩ : ∃ Q, Q = sumR g 0 (i + 1) := ⟨_, rfl⟩
          have HQ9 := Lib.hid hQ
          have HLQ : Hid (lenQ Q ≤ 4096) := Lib.hid (by rw [hQ]; have := HSZ.out (i + 1) (by omega); omega)
          have HLP : Hid (lenQ (sumR g 0 i) ≤ 4096) := Lib.hid (by have := HSZ.out i (by omega); omega)
          obtain ⟨M, hM⟩ : ∃ M, q * qa = M := ⟨_, rfl⟩
          have HLM : Hid (lenQ M ≤ 4096) := Lib.hid (by rw [← hM]; have h9 := len_mul q qa; have := HFY.out.len; have := HFE.out.len; omega)
          have HGQ : Hid (g i = M) := Lib.hid (by rw [← hM]; exact HGT.out i q qa HQ.out HEL.out)
          have K1 := Lib.hid (fun w' (hb : Below w4.heap.size w4 w') => rmul_f (w := w') (HFY.out.below (below_trans HW4.out hb)) (HFE.out.below (below_trans HW4.out hb)) (by omega) hM)
          have K2 := Lib.hid (fun w' y (hb : Below w4.heap.size w4 w') (hy : FracV w' y M) => radd_v (w := w') (Q := Q) (HFA4.out.below hb) hy HLP.out HLM.out HLQ.out (by rw [← HGQ.out, HNX.out, HQ9.out]))
          obtain ⟨m0, m1, m2⟩ := HCA.out _ HO4.out
          clear h4 hon4 hb4 f0 f1 f2 f3 f4 hQ hM
          have hz0 : Below w4.heap.size w4 w4.drew := below_drewN hb5 1
          refine go_on ?_
          go_wp2_with fail
          go_region_with (first | (go_at_call 78; refine (K1.out _ hz0).mono ?_; rintro en6 w6 ⟨⟨r6, rfl, f6⟩, hb6⟩; obtain ⟨a6, n6, c6, i6, j6, k6, hq6⟩ := frac_form f6; subst hq6; have hz6 := below_trans hz0 hb6; have s0 := RA.out 0 _ rfl _ hz6; have s1 := RA.out 1 _ rfl _ hz6; have s2 := RA.out 2 _ rfl _ hz6) | (go_at_call 77; refine (K2.out _ _ hz6 f6).mono ?_; rintro en7 w7 ⟨⟨r7, rfl, f7⟩, hb7⟩; obtain ⟨a7, n7, c7, i7, j7, k7, hq7⟩ := frac_form f7; subst hq7; have hz7 := below_trans hz6 hb7; have s0 := RA.out 0 _ rfl _ hz7; have s1 := RA.out 1 _ rfl _ hz7; have s2 := RA.out 2 _ rfl _ hz7; have g0 := FA.out 0 _ hz7; have g1 := FA.out 1 _ hz7; have g2 := FA.out 2 _ hz7))
          all_goals
            have HROW7 : Hid (w7.heap[Ba]? = some (.cells #[Value.bool ra', Value.slice ab an ac, Value.slice ai aj ak] 47 (0, 0))) := Lib.hid ((hz7.block _ (lt_of_block HROW4.out)).trans HROW4.out)
            have HON : Hid (Only Ba w7 (frac3 w7 Ba (decide (Q.num < 0)) (Value.slice a7 n7 c7) (Value.slice i7 j7 k7))) := Lib.hid (frac3_only _ _ _ _ _)
            have HROW8 : Hid ((frac3 w7 Ba (decide (Q.num < 0)) (Value.slice a7 n7 c7) (Value.slice i7 j7 k7)).heap[Ba]? = some (.cells #[Value.bool (decide (Q.num < 0)), Value.slice a7 n7 c7, Value.slice i7 j7 k7] 47 (0, 0))) := Lib.hid (frac_row HROW7.out)
            have HF8 : Hid (FracV (frac3 w7 Ba (decide (Q.num < 0)) (Value.slice a7 n7 c7) (Value.slice i7 j7 k7)) (.agg #[Value.bool (decide (Q.num < 0)), Value.slice a7 n7 c7, Value.slice i7 j7 k7]) (sumR g 0 (i + 1))) := Lib.hid (by rw [← HQ9.out]; exact f7.other HROW7.out HON.out)
            have HZ8 := Lib.hid (below_only (below_trans HZ4.out hz7) HON.out hBw1)
            go_wp2_with fail
            go_roundw
          all_goals first
            | exact ⟨i + 1, _, _, _, _, _, _, _, by omega, by go_num, HROW8, HF8, HZ8⟩
            | (simp [intOf]; omega)
        · have t5 : decide ((i : Int) < (rn : Int)) = false := by simp; omega
          obtain rfl : i = rn := by omega
          have HS : Hid (sumR g 0 i = colQ P j ys) := Lib.hid (by
            unfold colQ
            rw [← HEQ.out.2.1, HYR.out]
            exact sumR_congr fun x hx => by rw [HGG.out, Rat.mul_comm])
          obtain ⟨D, hD⟩ : ∃ D, D = sumR g 0 i := ⟨_, rfl⟩
          have HD0 : Hid (D = colQ P j ys) := Lib.hid (by rw [hD, HS.out])
          have HLD : Hid (lenQ D ≤ 4096) := Lib.hid (by rw [hD]; have := HSZ.out i (by omega); omega)
          have HFD : Hid (FracV wo (.agg #[Value.bool ra', Value.slice ab an ac, Value.slice ai aj ak]) D) := Lib.hid (by rw [hD]; exact hfa.out)
          clear hD
          obtain ⟨q, B, off, b, a1, n1, c1, a2, n2, c2, hq, ha, hc, hf⟩ := HG.out.at hjn
          subst ha
          have HW := Lib.hid (below_trans HB1.out hZ.out)
          have HCG := Lib.hid (fun w' (hb : Below wo.heap.size wo w') => hc w' (below_trans HW.out hb))
          have HQ := Lib.hid (nthQ_of hq)
          have HF := Lib.hid hf
          obtain ⟨o, ho⟩ : ∃ o, o = cmpQ D q := ⟨_, rfl⟩
          have HO := Lib.hid ho
          have KC := Lib.hid (fun w' (hb : Below wo.heap.size wo w') => rcmp_s (w := w') (n := 4096) (m := 2 * N) ((HFD.out.below hb).sz HLD.out HLD.out) ((HF.out.below (below_trans HW.out hb)).sz) (by omega) (by omega))
          rw [← ho] at KC
          clear hc hf hq ho
          obtain ⟨fb, Bf, of, hfb, hfa', hcf⟩ := HBO.out.at (i := j) (by have := HEQ.out; omega)
          subst hfa'
          have HFB := Lib.hid hfb
          have HCF := Lib.hid (fun w' (hb : Below w1.heap.size w1 w') => hcf w' (below_trans HB1.out hb))
          clear hfb hcf
          have RA := Lib.hid (cells_later hrow.out)
          have hz0 : Below wo.heap.size wo wo.drew := below_drewN (Below.refl _ _) 1
          have hji : (j : Int) < (n : Int) := by omega
          have hj0 : (0 : Int) ≤ (j : Int) := by omega
          go_wp2_with fail
          go_region_held3 (fun w' => w'.cell? ⟨Ba, 0, none⟩ = some (.bool ra') ∧ w'.cell? ⟨Ba, 1, none⟩ = some (.slice ab an ac) ∧ w'.cell? ⟨Ba, 2, none⟩ = some (.slice ai aj ak) ∧ w'.cell? ⟨B, off + j * 3, none⟩ = some (.bool b) ∧ w'.cell? ⟨B, off + j * 3 + 1, none⟩ = some (.slice a1 n1 c1) ∧ w'.cell? ⟨B, off + j * 3 + 2, none⟩ = some (.slice a2 n2 c2))
            (((try dsimp only); refine ⟨?_, ?_, ?_, ?_, ?_, ?_⟩ <;> (first | exact RA.out 0 _ rfl _ (by assumption) | exact RA.out 1 _ rfl _ (by assumption) | exact RA.out 2 _ rfl _ (by assumption) | exact (HCG.out _ (by assumption)).1 | exact (HCG.out _ (by assumption)).2.1 | exact (HCG.out _ (by assumption)).2.2)))
            (first | (go_at_call 35; refine (KC.out _ hz0).mono ?_; rintro en7 w7 ⟨rfl, hb7⟩; have hz7 := below_trans hz0 hb7))
          all_goals
            have HZ7 := Lib.hid (below_trans hZ.out hz7)
            clear hz0 hz7 hb7
            have x1 := RX.out 1 _ rfl _ HZ7.out
            have f0 := HCF.out _ HZ7.out
            have HNOT : Hid (¬ okCol P ys goal j → coverB P ys goal = false) := Lib.hid (fun h9 => by
              unfold coverB
              rw [decide_eq_false_iff_not]
              intro h
              exact h9 (h j (by have := HEQ.out; omega)))
            have HOKC : Hid (okCol P ys goal j ↔ (0 ≤ o ∧ (0 < o → fb = false))) := Lib.hid (by
              unfold okCol
              rw [HQ.out, ← HD0.out, ← HO.out, HFB.out]
              simp)
            have HYES : Hid (okCol P ys goal j → ∀ x, x < j + 1 → okCol P ys goal x) := Lib.hid (fun h9 x hx => by
              by_cases e : x = j
              · subst e; exact h9
              · exact hdv.out x (by omega))
            rcases (by omega : o < 0 ∨ o = 0 ∨ 0 < o) with h8 | h8 | h8
            · have u1 : decide (o < 0) = true := by simpa using h8
              have HE := Lib.hid (HNOT.out (fun h => by have := HOKC.out.1 h; omega))
              clear h8
              go_wp2_with fail
              go_ret
              exact ⟨by rw [HE.out]; first | done | rfl, below_trans HB1.out HZ7.out⟩
            · subst h8
              have HDV := Lib.hid (HYES.out (HOKC.out.2 ⟨by omega, fun h => by omega⟩))
              cases fb with
              | true =>
                go_wp2_with fail
                go_roundw
                case rel => exact ⟨j + 1, by omega, by go_num, HDV, HZ7⟩
                case measure => simp [intOf]; omega
              | false =>
                go_wp2_with fail
                go_roundw
                case rel => exact ⟨j + 1, by omega, by go_num, HDV, HZ7⟩
                case measure => simp [intOf]; omega
            · have u1 : decide (o < 0) = false := by simp; omega
              have u2 : (o != 0) = true := by simp; omega
              cases fb with
              | true =>
                have HE := Lib.hid (HNOT.out (fun h => by have := (HOKC.out.1 h).2 h8; cases this))
                clear h8
                go_wp2_with fail
                go_ret
                exact ⟨by rw [HE.out]; first | done | rfl, below_trans HB1.out HZ7.out⟩
              | false =>
                have HDV := Lib.hid (HYES.out (HOKC.out.2 ⟨by omega, fun _ => rfl⟩))
                clear h8
                go_wp2_with fail
                go_roundw
                case rel => exact ⟨j + 1, by omega, by go_num, HDV, HZ7⟩
                case measure => simp [intOf]; omega
    · have t2 : decide ((j : Int) < (n : Int)) = false := by simp; omega
      have HE : Hid (coverB P ys goal = true) := Lib.hid (by
        unfold coverB
        rw [decide_eq_true_eq]
        intro x hx
        exact hdv.out x (by have := HEQ.out; omega))
      go_wp2_with fail
      go_ret
      exact ⟨by rw [HE.out]; first | done | rfl, below_trans HB1.out hZv.out⟩
end Go.Proofs.YtlaphdlocchagaaGreat
