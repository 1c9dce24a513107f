/- Several texts in one: Yl, Ym. -/
import Derived.Test.YtafenoohjcpjgaaGreatZ39
import Derived.Deep.RegionHeld3
import Derived.Deep.DrawnRows
/- Fixed of what does not go together. -/
namespace Go.Proofs.YtafenoohjcpjgaaGreat
open Go.RowKit
attribute [local go_sem ↓] Go.wp_at_zero Go.wp_at_succ

set_option maxRecDepth 100000 in
set_option maxHeartbeats 2000000 in
set_option linter.unusedSimpArgs false in
theorem pfixd_bad {N m m2 vc bc : Nat} {w : World} {v : Value} {P : Pm} {va ba : Option Addr} {l bs : List Int} (h : ProgF N w v P) (hrb : rightB2 P = true) (hv1 : P.vars ≤ 160) (hr1 : P.rows.length ≤ 200) (hl : IntsF w va l) (hbs : IntsF w ba bs) (hm : m = l.length) (hm2 : m2 = bs.length) (hm9 : m ≤ 160) (hbad : (decide (l.length = bs.length) && (okV P.vars l && !(bs.any badB))) = false) :
    Calls Tryz.prog 10 #[v, .slice va m vc, .slice ba m2 bc] w fun e w' => e = .returned (.tuple #[zeroP, .int .i64 20]) ∧ Below w.heap.size w w' := by
  have HP := Lib.hid h
  have KR := Lib.hid (fun w' (hb : Below w.heap.size w w') => pright_w (h.below hb) ⟨hv1, by omega, by have := right_goal hrb; omega, by have := right_goal hrb; omega⟩)
  rw [right_0 hrb] at KR
  have HI := Lib.hid hl
  have HIB := Lib.hid hbs
  have HM : Hid (m = l.length ∧ m2 = bs.length) := Lib.hid ⟨hm, hm2⟩
  have HBAD := Lib.hid hbad
  have HV0 : Hid (1 ≤ P.vars ∧ P.vars ≤ 160) := Lib.hid ⟨(right_goal hrb).2.2, hv1⟩
  obtain ⟨fa, fc, ga, gc, ra, rc, rfl, -, -, -, -, -⟩ := h
  clear hrb hv1 hr1 hl hbs hm hm2 hbad
  obtain ⟨z, hz⟩ : ∃ z, z = P.vars := ⟨_, rfl⟩
  obtain ⟨fn, hfn⟩ : ∃ n, n = P.free.length := ⟨_, rfl⟩
  obtain ⟨gn, hgn⟩ : ∃ n, n = P.goal.length := ⟨_, rfl⟩
  obtain ⟨rn, hrn⟩ : ∃ n, n = P.rows.length := ⟨_, rfl⟩
  have HEQ := Lib.hid (And.intro hz (And.intro hfn (And.intro hgn hrn)))
  simp only [← hz, ← hfn, ← hgn, ← hrn] at KR HV0 HBAD HP ⊢
  clear hz hfn hgn hrn
  obtain ⟨w1, hw1⟩ : ∃ w1, w1 = (w.alloc (Obj.cells #[Value.int .i64 z, Value.slice fa fn fc, Value.slice ga gn gc, Value.slice ra rn rc] 26)).alloc (Obj.cells #[Value.int .i64 0, Value.slice none 0 0, Value.slice none 0 0, Value.slice none 0 0] 26) := ⟨_, rfl⟩
  have HB1 : Hid (Below w.heap.size w w1) := Lib.hid (by rw [hw1]; exact ((Below.refl _ _).alloc (Nat.le_refl _) _).alloc (by simp) _)
  have HX1 : Hid (w1.heap[w.heap.size]? = some (.cells #[Value.int .i64 z, Value.slice fa fn fc, Value.slice ga gn gc, Value.slice ra rn rc] 26 (0, 0))) := Lib.hid (by rw [hw1]; exact heap_alloc2_old w _ _)
  have HO1 : Hid (w1.heap[w.heap.size + 1]? = some (.cells #[Value.int .i64 0, Value.slice none 0 0, Value.slice none 0 0, Value.slice none 0 0] 26 (0, 0))) := Lib.hid (by rw [hw1]; exact heap_alloc2_new w _ _)
  have HW1 := Lib.hid hw1.symm
  clear hw1
  have RX := Lib.hid (cells_later HX1.out)
  have hb1 := Below.refl w1.heap.size w1
  have x0 := RX.out 0 _ rfl _ hb1
  have x1 := RX.out 1 _ rfl _ hb1
  have x2 := RX.out 2 _ rfl _ hb1
  have x3 := RX.out 3 _ rfl _ hb1
  obtain ⟨n, hn⟩ : ∃ n : Nat, z = (n : Int) := ⟨z.toNat, by have := HV0.out; omega⟩
  subst hn
  have hn160 : n ≤ 160 := by have := HV0.out; omega
  go_enter Tryz.func10, Tryz.ntmps10
  go_wp2_with fail
  rw [HW1.out]
  refine (KR.out _ HB1.out).mono ?_
  rintro en2 w2 ⟨rfl, hb2⟩
  have HZ2 := Lib.hid hb2
  have x0 := RX.out 0 _ rfl _ hb2
  have x1 := RX.out 1 _ rfl _ hb2
  have x2 := RX.out 2 _ rfl _ hb2
  have x3 := RX.out 3 _ rfl _ hb2
  clear hb2
  by_cases hmm : m = m2
  rotate_left
  · have tnn : ((m : Int) != (m2 : Int)) = true := by simp; omega
    clear hmm
    have HR9 := ((HZ2.out).block _ (lt_of_block HO1.out)).trans HO1.out
    go_wp2_with ((with_reducible refine at_store ?_); refine wpList_store_var rfl _ _ _ rfl (w.heap.size + 1) rfl _ rfl _ _ HR9 info_prog9 rfl prog_one ?_; intro w9 h9 hon9; refine halt ?_)
    refine go_on ?_
    go_wp2_with fail
    exact bodyPost_ret (results_row_tmp rfl _ _ (w.heap.size + 1) _ _ _ _ rfl h9 Tryz.underlying26 rfl info_prog9) rfl ⟨rfl, below_only (below_trans HB1.out (HZ2.out)) hon9 (Nat.le_succ _)⟩
  subst hmm
  have tnn : ((m : Int) != (m : Int)) = false := by simp
  have HB9 : Hid ((okV (n : Int) l && !(bs.any badB)) = false) := Lib.hid (by
    have h1 := HBAD.out
    have h2 : decide (l.length = bs.length) = true := by have := HM.out; simp; omega
    rw [h2, Bool.true_and] at h1
    exact h1)
  have KD := Lib.hid (fun w' (hb : Below w.heap.size w w') => distinct_w (w := w') (n := n) (fa := fa) (ga := ga) (ra := ra) (fn := fn) (fc := fc) (gn := gn) (gc := gc) (rn := rn) (rc := rc) (c := vc) (HI.out.below hb) HM.out.1 (by omega) (by omega))
  have KA := Lib.hid (fun w' (hb : Below w.heap.size w w') => anyfixed_w (w := w') (c := bc) (HIB.out.below hb) HM.out.2 (by omega))
  obtain ⟨ob, hob⟩ : ∃ b, b = okV (n : Int) l := ⟨_, rfl⟩
  obtain ⟨ab, hab⟩ : ∃ b, b = bs.any badB := ⟨_, rfl⟩
  rw [← hob] at KD HB9
  rw [← hab] at KA HB9
  clear hob hab
  go_wp2_with fail
  refine (KD.out _ (below_trans HB1.out HZ2.out)).mono ?_
  rintro en4 w4 ⟨rfl, hb4⟩
  have HZ4 := Lib.hid (below_trans HZ2.out hb4)
  clear hb4 x0 x1 x2 x3
  cases ob with
  | false =>
    have HR9 := ((HZ4.out).block _ (lt_of_block HO1.out)).trans HO1.out
    go_wp2_with ((with_reducible refine at_store ?_); refine wpList_store_var rfl _ _ _ rfl (w.heap.size + 1) rfl _ rfl _ _ HR9 info_prog9 rfl prog_one ?_; intro w9 h9 hon9; refine halt ?_)
    refine go_on ?_
    go_wp2_with fail
    exact bodyPost_ret (results_row_tmp rfl _ _ (w.heap.size + 1) _ _ _ _ rfl h9 Tryz.underlying26 rfl info_prog9) rfl ⟨rfl, below_only (below_trans HB1.out (HZ4.out)) hon9 (Nat.le_succ _)⟩
  | true =>
    obtain rfl : ab = true := by
      have h1 := HB9.out
      simpa using h1
    go_wp2_with fail
    refine (KA.out _ (below_trans HB1.out HZ4.out)).mono ?_
    rintro en5 w5 ⟨rfl, hb5⟩
    have HZ5 := Lib.hid (below_trans HZ4.out hb5)
    clear hb5
    have HR9 := ((HZ5.out).block _ (lt_of_block HO1.out)).trans HO1.out
    go_wp2_with ((with_reducible refine at_store ?_); refine wpList_store_var rfl _ _ _ rfl (w.heap.size + 1) rfl _ rfl _ _ HR9 info_prog9 rfl prog_one ?_; intro w9 h9 hon9; refine halt ?_)
    refine go_on ?_
    go_wp2_with fail
    exact bodyPost_ret (results_row_tmp rfl _ _ (w.heap.size + 1) _ _ _ _ rfl h9 Tryz.underlying26 rfl info_prog9) rfl ⟨rfl, below_only (below_trans HB1.out (HZ5.out)) hon9 (Nat.le_succ _)⟩
end Go.Proofs.YtafenoohjcpjgaaGreat

/- Fixed of the reference, of what does not go together. -/
namespace Go.Proofs.YtafenoohjcpjgaaGreat
open Go.RowKit
attribute [local go_sem ↓] Go.wp_at_zero Go.wp_at_succ

set_option maxRecDepth 100000 in
set_option maxHeartbeats 2000000 in
set_option linter.unusedSimpArgs false in
theorem rfixd_bad {N m m2 vc bc : Nat} {w : World} {v : Value} {P : Pm} {va ba : Option Addr} {l bs : List Int} (h : ProgF N w v P) (hrb : rightB2 P = true) (hv1 : P.vars ≤ 160) (hr1 : P.rows.length ≤ 200) (hl : IntsF w va l) (hbs : IntsF w ba bs) (hm : m = l.length) (hm2 : m2 = bs.length) (hm9 : m ≤ 160) (hvc : m ≤ vc) (hbad : (decide (l.length = bs.length) && (okV P.vars l && !(bs.any badB))) = false) :
    Calls Tryz.prog 11 #[v, .slice va m vc, .slice ba m2 bc] w fun e w' => e = .returned (.tuple #[zeroP, .int .i64 20]) ∧ Below w.heap.size w w' := by
  have HP := Lib.hid h
  have KR := Lib.hid (fun w' (hb : Below w.heap.size w w') => rright2_w (h.below hb) ⟨hv1, by omega, by have := right_goal hrb; omega, by have := right_goal hrb; omega⟩)
  rw [right_0 hrb] at KR
  have HI := Lib.hid hl
  have HIB := Lib.hid hbs
  have HM : Hid (m = l.length ∧ m2 = bs.length) := Lib.hid ⟨hm, hm2⟩
  have HBAD := Lib.hid hbad
  have HV0 : Hid (1 ≤ P.vars ∧ P.vars ≤ 160) := Lib.hid ⟨(right_goal hrb).2.2, hv1⟩
  have HVC := Lib.hid hvc
  clear hvc
  obtain ⟨fa, fc, ga, gc, ra, rc, rfl, -, -, -, -, -⟩ := h
  clear hrb hv1 hr1 hl hbs hm hm2 hbad
  obtain ⟨z, hz⟩ : ∃ z, z = P.vars := ⟨_, rfl⟩
  obtain ⟨fn, hfn⟩ : ∃ n, n = P.free.length := ⟨_, rfl⟩
  obtain ⟨gn, hgn⟩ : ∃ n, n = P.goal.length := ⟨_, rfl⟩
  obtain ⟨rn, hrn⟩ : ∃ n, n = P.rows.length := ⟨_, rfl⟩
  have HEQ := Lib.hid (And.intro hz (And.intro hfn (And.intro hgn hrn)))
  simp only [← hz, ← hfn, ← hgn, ← hrn] at KR HV0 HBAD HP ⊢
  clear hz hfn hgn hrn
  obtain ⟨w1, hw1⟩ : ∃ w1, w1 = (w.alloc (Obj.cells #[Value.int .i64 z, Value.slice fa fn fc, Value.slice ga gn gc, Value.slice ra rn rc] 26)).alloc (Obj.cells #[Value.int .i64 0, Value.slice none 0 0, Value.slice none 0 0, Value.slice none 0 0] 26) := ⟨_, rfl⟩
  have HB1 : Hid (Below w.heap.size w w1) := Lib.hid (by rw [hw1]; exact ((Below.refl _ _).alloc (Nat.le_refl _) _).alloc (by simp) _)
  have HX1 : Hid (w1.heap[w.heap.size]? = some (.cells #[Value.int .i64 z, Value.slice fa fn fc, Value.slice ga gn gc, Value.slice ra rn rc] 26 (0, 0))) := Lib.hid (by rw [hw1]; exact heap_alloc2_old w _ _)
  have HO1 : Hid (w1.heap[w.heap.size + 1]? = some (.cells #[Value.int .i64 0, Value.slice none 0 0, Value.slice none 0 0, Value.slice none 0 0] 26 (0, 0))) := Lib.hid (by rw [hw1]; exact heap_alloc2_new w _ _)
  have HW1 := Lib.hid hw1.symm
  clear hw1
  have RX := Lib.hid (cells_later HX1.out)
  have hb1 := Below.refl w1.heap.size w1
  have x0 := RX.out 0 _ rfl _ hb1
  have x1 := RX.out 1 _ rfl _ hb1
  have x2 := RX.out 2 _ rfl _ hb1
  have x3 := RX.out 3 _ rfl _ hb1
  obtain ⟨n, hn⟩ : ∃ n : Nat, z = (n : Int) := ⟨z.toNat, by have := HV0.out; omega⟩
  subst hn
  have hn160 : n ≤ 160 := by have := HV0.out; omega
  go_enter Tryz.func11, Tryz.ntmps11
  go_wp2_with fail
  rw [HW1.out]
  refine (KR.out _ HB1.out).mono ?_
  rintro en2 w2 ⟨rfl, hb2⟩
  have HZ2 := Lib.hid hb2
  have x0 := RX.out 0 _ rfl _ hb2
  have x1 := RX.out 1 _ rfl _ hb2
  have x2 := RX.out 2 _ rfl _ hb2
  have x3 := RX.out 3 _ rfl _ hb2
  clear hb2
  by_cases hmm : m = m2
  rotate_left
  · have tnn : ((m : Int) != (m2 : Int)) = true := by simp; omega
    clear hmm
    have HR9 := ((HZ2.out).block _ (lt_of_block HO1.out)).trans HO1.out
    go_wp2_with ((with_reducible refine at_store ?_); refine wpList_store_var rfl _ _ _ rfl (w.heap.size + 1) rfl _ rfl _ _ HR9 info_prog9 rfl prog_one ?_; intro w9 h9 hon9; refine halt ?_)
    refine go_on ?_
    go_wp2_with fail
    exact bodyPost_ret (results_row_tmp rfl _ _ (w.heap.size + 1) _ _ _ _ rfl h9 Tryz.underlying26 rfl info_prog9) rfl ⟨rfl, below_only (below_trans HB1.out (HZ2.out)) hon9 (Nat.le_succ _)⟩
  subst hmm
  have tnn : ((m : Int) != (m : Int)) = false := by simp
  have HB9 : Hid ((okV (n : Int) l && !(bs.any badB)) = false) := Lib.hid (by
    have h1 := HBAD.out
    have h2 : decide (l.length = bs.length) = true := by have := HM.out; simp; omega
    rw [h2, Bool.true_and] at h1
    exact h1)
  obtain ⟨i0, v0, z0, hv0, hz0, hbad0⟩ := okB_first HB9.out (by have := HM.out; omega)
  have HFIRST : Hid (∃ (i : Nat) (v z : Int), i < m ∧ l[i]? = some v ∧ bs[i]? = some z ∧ (okAt (n : Int) l i = false ∨ badB z = true)) := Lib.hid ⟨i0, v0, z0, by have := (List.getElem?_eq_some_iff.1 hv0).1; have := HM.out; omega, hv0, hz0, hbad0⟩
  clear hv0 hz0 hbad0 x0 x1 x2 x3
  go_wp2_with fail
  go_loopw [28] (fun iv wr => ∃ i : Nat, i ≤ m ∧ iv = .int .i64 i ∧ Hid (Below w1.heap.size w1 wr) ∧ Hid (∀ (j : Nat) (z : Int), j < i → bs[j]? = some z → okAt (n : Int) l j = true ∧ badB z = false)) (fun iv _ => m - (intOf iv).toNat)
  case atStart => exact ⟨0, Nat.zero_le _, rfl, HZ2, Lib.hid (fun j z hj => absurd hj (Nat.not_lt_zero _))⟩
  case round =>
    obtain ⟨i, hi, rfl, hZ, hgood⟩ := hrel
    obtain ⟨wo, rfl⟩ : ∃ wo : World, wo = wr := ⟨_, rfl⟩
    by_cases hin : i < m
    · have t0 : decide ((i : Int) < (m : Int)) = true := by simp; omega
      obtain ⟨z, Bv, offv, hz, ha, hzb, hcv⟩ := HI.out.at (i := i) (by have := HM.out; omega)
      obtain ⟨bz, Bb, offb, hbz, hab, hzb2, hcb⟩ := HIB.out.at (i := i) (by have := HM.out; omega)
      subst ha
      subst hab
      have e1 := hcv wo (below_trans HB1.out hZ.out)
      have x0 := RX.out 0 _ rfl _ hZ.out
      have hiv : i ≤ vc := by have := HVC.out; omega
      have HCB := Lib.hid hcb
      have HBZ := Lib.hid hbz
      have HVZ := Lib.hid hz
      have KWI := Lib.hid (rwithin_w (w := wo) (c := vc) (v := z) (m := i) (HI.out.below (below_trans HB1.out hZ.out)) (by have := HM.out; omega) (by omega))
      clear hcv hcb hz hbz
      by_cases hz0 : z < 0
      · have t1 : decide (z < 0) = true := by simpa using hz0
        have HR9 := ((hZ.out).block _ (lt_of_block HO1.out)).trans HO1.out
        go_wp2_with ((with_reducible refine at_store ?_); refine wpList_store_var rfl _ _ _ rfl (w.heap.size + 1) rfl _ rfl _ _ HR9 info_prog9 rfl prog_one ?_; intro w9 h9 hon9; refine halt ?_)
        refine go_on ?_
        go_wp2_with fail
        exact bodyPost_ret (results_row_tmp rfl _ _ (w.heap.size + 1) _ _ _ _ rfl h9 Tryz.underlying26 rfl info_prog9) rfl ⟨rfl, below_only (below_trans HB1.out (hZ.out)) hon9 (Nat.le_succ _)⟩
      · have t1 : decide (z < 0) = false := by simpa using hz0
        by_cases hzn : z < (n : Int)
        rotate_left
        · have t2 : decide (z ≥ (n : Int)) = true := by simp; omega
          have t3 : decide ((n : Int) ≤ z) = true := by simp; omega
          have HR9 := ((hZ.out).block _ (lt_of_block HO1.out)).trans HO1.out
          go_wp2_with ((with_reducible refine at_store ?_); refine wpList_store_var rfl _ _ _ rfl (w.heap.size + 1) rfl _ rfl _ _ HR9 info_prog9 rfl prog_one ?_; intro w9 h9 hon9; refine halt ?_)
          refine go_on ?_
          go_wp2_with fail
          exact bodyPost_ret (results_row_tmp rfl _ _ (w.heap.size + 1) _ _ _ _ rfl h9 Tryz.underlying26 rfl info_prog9) rfl ⟨rfl, below_only (below_trans HB1.out (hZ.out)) hon9 (Nat.le_succ _)⟩
        · have t2 : decide (z ≥ (n : Int)) = false := by simp; omega
          have t3 : decide ((n : Int) ≤ z) = false := by simp; omega
          obtain ⟨cb, hcb⟩ : ∃ b, b = (l.take i).contains z := ⟨_, rfl⟩
          rw [← hcb] at KWI
          have HOA : Hid (okAt (n : Int) l i = !cb) := Lib.hid (by
            rw [okAt_of HVZ.out, hcb]
            have h9 : decide (0 ≤ z ∧ z < (n : Int)) = true := by simp; omega
            rw [h9, Bool.true_and])
          clear hcb
          go_wp2_with fail
          refine KWI.out.mono ?_
          rintro en4 w4 ⟨rfl, hb4⟩
          have HZ4 := Lib.hid (below_trans hZ.out hb4)
          have e2 := HCB.out w4 (below_trans HB1.out HZ4.out)
          clear hb4 e1 x0
          cases cb with
          | true =>
            have HR9 := ((HZ4.out).block _ (lt_of_block HO1.out)).trans HO1.out
            go_wp2_with ((with_reducible refine at_store ?_); refine wpList_store_var rfl _ _ _ rfl (w.heap.size + 1) rfl _ rfl _ _ HR9 info_prog9 rfl prog_one ?_; intro w9 h9 hon9; refine halt ?_)
            refine go_on ?_
            go_wp2_with fail
            exact bodyPost_ret (results_row_tmp rfl _ _ (w.heap.size + 1) _ _ _ _ rfl h9 Tryz.underlying26 rfl info_prog9) rfl ⟨rfl, below_only (below_trans HB1.out (HZ4.out)) hon9 (Nat.le_succ _)⟩
          | false =>
            by_cases hb0 : bz = 0
            · subst hb0
              have HG9 : Hid (∀ (j : Nat) (z : Int), j < i + 1 → bs[j]? = some z → okAt (n : Int) l j = true ∧ badB z = false) := Lib.hid (fun j y hj hy => by
                by_cases hji : j = i
                · subst hji
                  rw [HBZ.out] at hy
                  cases hy
                  exact ⟨HOA.out, rfl⟩
                · exact hgood.out j y (by omega) hy)
              go_wp2_with fail
              go_roundw
              case rel => exact ⟨i + 1, by omega, by go_num, HZ4, HG9⟩
              case measure => simp [intOf]; omega
            · by_cases hb1 : bz = 1
              · subst hb1
                have HG9 : Hid (∀ (j : Nat) (z : Int), j < i + 1 → bs[j]? = some z → okAt (n : Int) l j = true ∧ badB z = false) := Lib.hid (fun j y hj hy => by
                  by_cases hji : j = i
                  · subst hji
                    rw [HBZ.out] at hy
                    cases hy
                    exact ⟨HOA.out, rfl⟩
                  · exact hgood.out j y (by omega) hy)
                go_wp2_with fail
                go_roundw
                case rel => exact ⟨i + 1, by omega, by go_num, HZ4, HG9⟩
                case measure => simp [intOf]; omega
              · have u0 : (bz != 0) = true := by simpa using hb0
                have u1 : (bz != 1) = true := by simpa using hb1
                have u2 : decide (bz = 0) = false := by simpa using hb0
                have u3 : decide (bz = 1) = false := by simpa using hb1
                have HR9 := ((HZ4.out).block _ (lt_of_block HO1.out)).trans HO1.out
                go_wp2_with ((with_reducible refine at_store ?_); refine wpList_store_var rfl _ _ _ rfl (w.heap.size + 1) rfl _ rfl _ _ HR9 info_prog9 rfl prog_one ?_; intro w9 h9 hon9; refine halt ?_)
                refine go_on ?_
                go_wp2_with fail
                exact bodyPost_ret (results_row_tmp rfl _ _ (w.heap.size + 1) _ _ _ _ rfl h9 Tryz.underlying26 rfl info_prog9) rfl ⟨rfl, below_only (below_trans HB1.out (HZ4.out)) hon9 (Nat.le_succ _)⟩
    · exfalso
      obtain ⟨j, v, y, hj, hv, hy, hb⟩ := HFIRST.out
      have h9 := hgood.out j y (by omega) hy
      rw [h9.1, h9.2] at hb
      simp at hb
end Go.Proofs.YtafenoohjcpjgaaGreat
