/- Several texts in one: Yj, Yk. -/
import Derived.Test.YtafenoohjcpjgaaGreatZ38
import Derived.Test.YtafenoohjcpjgaaGreatZ28
import Derived.Deep.RegionHeld3
import Derived.Deep.DrawnRows
import Derived.Test.YtafenoohjcpjgaaGreatZ34
import Derived.Test.YtafenoohjcpjgaaGreatZ36
/- What is not right: Normal, Dual, Fixed tell the error. -/
namespace Go.Proofs.YtafenoohjcpjgaaGreat
open Go.RowKit
attribute [local go_sem ↓] Go.wp_at_zero Go.wp_at_succ

/-- The zero program. -/
def zeroP : Value := .agg #[.int .i64 0, .slice none 0 0, .slice none 0 0, .slice none 0 0]
theorem okB_first {n : Int} {l bs : List Int} (h : (okV n l && !(bs.any badB)) = false) (hl : l.length = bs.length) : ∃ (i : Nat) (v z : Int), l[i]? = some v ∧ bs[i]? = some z ∧ (okAt n l i = false ∨ badB z = true) := by
  cases ho : okV n l with
  | false =>
    unfold okV at ho
    obtain ⟨i, hi, h1⟩ := List.all_eq_false.1 ho
    simp only [List.mem_range] at hi
    exact ⟨i, _, _, List.getElem?_eq_getElem hi, List.getElem?_eq_getElem (by omega), .inl (by simpa using h1)⟩
  | true =>
    rw [ho] at h
    simp only [Bool.true_and, Bool.not_eq_false'] at h
    obtain ⟨z, hz, hb⟩ := List.any_eq_true.1 h
    obtain ⟨i, hi, rfl⟩ := List.mem_iff_getElem.1 hz
    exact ⟨i, _, _, List.getElem?_eq_getElem (by omega), List.getElem?_eq_getElem hi, .inr hb⟩
set_option maxRecDepth 100000 in
set_option maxHeartbeats 2000000 in
set_option linter.unusedSimpArgs false in
theorem pnormal_no {N : Nat} {w : World} {v : Value} {P : Pm} (h : ProgF N w v P) (hrb : rightB2 P = false) (hf : Fit P) :
    Calls Tryz.prog 6 #[v] w fun e w' => e = .returned (.tuple #[zeroP, .int .i64 20]) ∧ Below w.heap.size w w' := by
  have HP := Lib.hid h
  have KR := Lib.hid (fun w' (hb : Below w.heap.size w w') => pright_w (h.below hb) hf)
  rw [right_20 hrb] at KR
  obtain ⟨fa, fc, ga, gc, ra, rc, rfl, -, -, -, -, -⟩ := h
  clear hrb hf
  obtain ⟨z, hz⟩ : ∃ z, z = P.vars := ⟨_, rfl⟩
  obtain ⟨fn, hfn⟩ : ∃ n, n = P.free.length := ⟨_, rfl⟩
  obtain ⟨gn, hgn⟩ : ∃ n, n = P.goal.length := ⟨_, rfl⟩
  obtain ⟨rn, hrn⟩ : ∃ n, n = P.rows.length := ⟨_, rfl⟩
  have HEQ := Lib.hid (And.intro hz (And.intro hfn (And.intro hgn hrn)))
  simp only [← hz, ← hfn, ← hgn, ← hrn] at KR HP ⊢
  clear hz hfn hgn hrn
  obtain ⟨w1, hw1⟩ : ∃ w1, w1 = (w.alloc (Obj.cells #[Value.int .i64 z, Value.slice fa fn fc, Value.slice ga gn gc, Value.slice ra rn rc] 26)).alloc (Obj.cells #[Value.int .i64 0, Value.slice none 0 0, Value.slice none 0 0, Value.slice none 0 0] 26) := ⟨_, rfl⟩
  have HB1 : Hid (Below w.heap.size w w1) := Lib.hid (by rw [hw1]; exact ((Below.refl _ _).alloc (Nat.le_refl _) _).alloc (by simp) _)
  have HX1 : Hid (w1.heap[w.heap.size]? = some (.cells #[Value.int .i64 z, Value.slice fa fn fc, Value.slice ga gn gc, Value.slice ra rn rc] 26 (0, 0))) := Lib.hid (by rw [hw1]; exact heap_alloc2_old w _ _)
  have HO1 : Hid (w1.heap[w.heap.size + 1]? = some (.cells #[Value.int .i64 0, Value.slice none 0 0, Value.slice none 0 0, Value.slice none 0 0] 26 (0, 0))) := Lib.hid (by rw [hw1]; exact heap_alloc2_new w _ _)
  have HW1 := Lib.hid hw1.symm
  clear hw1
  have RX := Lib.hid (cells_later HX1.out)
  have hb1 := Below.refl w1.heap.size w1
  have x0 := RX.out 0 _ rfl _ hb1
  have x1 := RX.out 1 _ rfl _ hb1
  have x2 := RX.out 2 _ rfl _ hb1
  have x3 := RX.out 3 _ rfl _ hb1
  go_enter Tryz.func6, Tryz.ntmps6
  go_wp2_with fail
  rw [HW1.out]
  refine (KR.out _ HB1.out).mono ?_
  rintro en2 w2 ⟨rfl, hb2⟩
  have HZ2 := Lib.hid hb2
  clear hb2 x0 x1 x2 x3
  have HR9 := ((HZ2.out).block _ (lt_of_block HO1.out)).trans HO1.out
  go_wp2_with ((with_reducible refine at_store ?_); refine wpList_store_var rfl _ _ _ rfl (w.heap.size + 1) rfl _ rfl _ _ HR9 info_prog9 rfl prog_one ?_; intro w9 h9 hon9; refine halt ?_)
  refine go_on ?_
  go_wp2_with fail
  exact bodyPost_ret (results_row_tmp rfl _ _ (w.heap.size + 1) _ _ _ _ rfl h9 Tryz.underlying26 rfl info_prog9) rfl ⟨rfl, below_only (below_trans HB1.out (HZ2.out)) hon9 (Nat.le_succ _)⟩
set_option maxRecDepth 100000 in
set_option maxHeartbeats 2000000 in
set_option linter.unusedSimpArgs false in
theorem rnormal_no {N : Nat} {w : World} {v : Value} {P : Pm} (h : ProgF N w v P) (hrb : rightB2 P = false) (hf : Fit P) :
    Calls Tryz.prog 7 #[v] w fun e w' => e = .returned (.tuple #[zeroP, .int .i64 20]) ∧ Below w.heap.size w w' := by
  have HP := Lib.hid h
  have KR := Lib.hid (fun w' (hb : Below w.heap.size w w') => rright2_w (h.below hb) hf)
  rw [right_20 hrb] at KR
  obtain ⟨fa, fc, ga, gc, ra, rc, rfl, -, -, -, -, -⟩ := h
  clear hrb hf
  obtain ⟨z, hz⟩ : ∃ z, z = P.vars := ⟨_, rfl⟩
  obtain ⟨fn, hfn⟩ : ∃ n, n = P.free.length := ⟨_, rfl⟩
  obtain ⟨gn, hgn⟩ : ∃ n, n = P.goal.length := ⟨_, rfl⟩
  obtain ⟨rn, hrn⟩ : ∃ n, n = P.rows.length := ⟨_, rfl⟩
  have HEQ := Lib.hid (And.intro hz (And.intro hfn (And.intro hgn hrn)))
  simp only [← hz, ← hfn, ← hgn, ← hrn] at KR HP ⊢
  clear hz hfn hgn hrn
  obtain ⟨w1, hw1⟩ : ∃ w1, w1 = (w.alloc (Obj.cells #[Value.int .i64 z, Value.slice fa fn fc, Value.slice ga gn gc, Value.slice ra rn rc] 26)).alloc (Obj.cells #[Value.int .i64 0, Value.slice none 0 0, Value.slice none 0 0, Value.slice none 0 0] 26) := ⟨_, rfl⟩
  have HB1 : Hid (Below w.heap.size w w1) := Lib.hid (by rw [hw1]; exact ((Below.refl _ _).alloc (Nat.le_refl _) _).alloc (by simp) _)
  have HX1 : Hid (w1.heap[w.heap.size]? = some (.cells #[Value.int .i64 z, Value.slice fa fn fc, Value.slice ga gn gc, Value.slice ra rn rc] 26 (0, 0))) := Lib.hid (by rw [hw1]; exact heap_alloc2_old w _ _)
  have HO1 : Hid (w1.heap[w.heap.size + 1]? = some (.cells #[Value.int .i64 0, Value.slice none 0 0, Value.slice none 0 0, Value.slice none 0 0] 26 (0, 0))) := Lib.hid (by rw [hw1]; exact heap_alloc2_new w _ _)
  have HW1 := Lib.hid hw1.symm
  clear hw1
  have RX := Lib.hid (cells_later HX1.out)
  have hb1 := Below.refl w1.heap.size w1
  have x0 := RX.out 0 _ rfl _ hb1
  have x1 := RX.out 1 _ rfl _ hb1
  have x2 := RX.out 2 _ rfl _ hb1
  have x3 := RX.out 3 _ rfl _ hb1
  go_enter Tryz.func7, Tryz.ntmps7
  go_wp2_with fail
  rw [HW1.out]
  refine (KR.out _ HB1.out).mono ?_
  rintro en2 w2 ⟨rfl, hb2⟩
  have HZ2 := Lib.hid hb2
  clear hb2 x0 x1 x2 x3
  have HR9 := ((HZ2.out).block _ (lt_of_block HO1.out)).trans HO1.out
  go_wp2_with ((with_reducible refine at_store ?_); refine wpList_store_var rfl _ _ _ rfl (w.heap.size + 1) rfl _ rfl _ _ HR9 info_prog9 rfl prog_one ?_; intro w9 h9 hon9; refine halt ?_)
  refine go_on ?_
  go_wp2_with fail
  exact bodyPost_ret (results_row_tmp rfl _ _ (w.heap.size + 1) _ _ _ _ rfl h9 Tryz.underlying26 rfl info_prog9) rfl ⟨rfl, below_only (below_trans HB1.out (HZ2.out)) hon9 (Nat.le_succ _)⟩
set_option maxRecDepth 100000 in
set_option maxHeartbeats 2000000 in
set_option linter.unusedSimpArgs false in
theorem pfixd_no {N m m2 vc bc : Nat} {w : World} {v : Value} {P : Pm} {va ba : Option Addr} (h : ProgF N w v P) (hrb : rightB2 P = false) (hf : Fit P) :
    Calls Tryz.prog 10 #[v, .slice va m vc, .slice ba m2 bc] w fun e w' => e = .returned (.tuple #[zeroP, .int .i64 20]) ∧ Below w.heap.size w w' := by
  have HP := Lib.hid h
  have KR := Lib.hid (fun w' (hb : Below w.heap.size w w') => pright_w (h.below hb) hf)
  rw [right_20 hrb] at KR
  obtain ⟨fa, fc, ga, gc, ra, rc, rfl, -, -, -, -, -⟩ := h
  clear hrb hf
  obtain ⟨z, hz⟩ : ∃ z, z = P.vars := ⟨_, rfl⟩
  obtain ⟨fn, hfn⟩ : ∃ n, n = P.free.length := ⟨_, rfl⟩
  obtain ⟨gn, hgn⟩ : ∃ n, n = P.goal.length := ⟨_, rfl⟩
  obtain ⟨rn, hrn⟩ : ∃ n, n = P.rows.length := ⟨_, rfl⟩
  have HEQ := Lib.hid (And.intro hz (And.intro hfn (And.intro hgn hrn)))
  simp only [← hz, ← hfn, ← hgn, ← hrn] at KR HP ⊢
  clear hz hfn hgn hrn
  obtain ⟨w1, hw1⟩ : ∃ w1, w1 = (w.alloc (Obj.cells #[Value.int .i64 z, Value.slice fa fn fc, Value.slice ga gn gc, Value.slice ra rn rc] 26)).alloc (Obj.cells #[Value.int .i64 0, Value.slice none 0 0, Value.slice none 0 0, Value.slice none 0 0] 26) := ⟨_, rfl⟩
  have HB1 : Hid (Below w.heap.size w w1) := Lib.hid (by rw [hw1]; exact ((Below.refl _ _).alloc (Nat.le_refl _) _).alloc (by simp) _)
  have HX1 : Hid (w1.heap[w.heap.size]? = some (.cells #[Value.int .i64 z, Value.slice fa fn fc, Value.slice ga gn gc, Value.slice ra rn rc] 26 (0, 0))) := Lib.hid (by rw [hw1]; exact heap_alloc2_old w _ _)
  have HO1 : Hid (w1.heap[w.heap.size + 1]? = some (.cells #[Value.int .i64 0, Value.slice none 0 0, Value.slice none 0 0, Value.slice none 0 0] 26 (0, 0))) := Lib.hid (by rw [hw1]; exact heap_alloc2_new w _ _)
  have HW1 := Lib.hid hw1.symm
  clear hw1
  have RX := Lib.hid (cells_later HX1.out)
  have hb1 := Below.refl w1.heap.size w1
  have x0 := RX.out 0 _ rfl _ hb1
  have x1 := RX.out 1 _ rfl _ hb1
  have x2 := RX.out 2 _ rfl _ hb1
  have x3 := RX.out 3 _ rfl _ hb1
  go_enter Tryz.func10, Tryz.ntmps10
  go_wp2_with fail
  rw [HW1.out]
  refine (KR.out _ HB1.out).mono ?_
  rintro en2 w2 ⟨rfl, hb2⟩
  have HZ2 := Lib.hid hb2
  clear hb2 x0 x1 x2 x3
  have HR9 := ((HZ2.out).block _ (lt_of_block HO1.out)).trans HO1.out
  go_wp2_with ((with_reducible refine at_store ?_); refine wpList_store_var rfl _ _ _ rfl (w.heap.size + 1) rfl _ rfl _ _ HR9 info_prog9 rfl prog_one ?_; intro w9 h9 hon9; refine halt ?_)
  refine go_on ?_
  go_wp2_with fail
  exact bodyPost_ret (results_row_tmp rfl _ _ (w.heap.size + 1) _ _ _ _ rfl h9 Tryz.underlying26 rfl info_prog9) rfl ⟨rfl, below_only (below_trans HB1.out (HZ2.out)) hon9 (Nat.le_succ _)⟩
set_option maxRecDepth 100000 in
set_option maxHeartbeats 2000000 in
set_option linter.unusedSimpArgs false in
theorem rfixd_no {N m m2 vc bc : Nat} {w : World} {v : Value} {P : Pm} {va ba : Option Addr} (h : ProgF N w v P) (hrb : rightB2 P = false) (hf : Fit P) :
    Calls Tryz.prog 11 #[v, .slice va m vc, .slice ba m2 bc] w fun e w' => e = .returned (.tuple #[zeroP, .int .i64 20]) ∧ Below w.heap.size w w' := by
  have HP := Lib.hid h
  have KR := Lib.hid (fun w' (hb : Below w.heap.size w w') => rright2_w (h.below hb) hf)
  rw [right_20 hrb] at KR
  obtain ⟨fa, fc, ga, gc, ra, rc, rfl, -, -, -, -, -⟩ := h
  clear hrb hf
  obtain ⟨z, hz⟩ : ∃ z, z = P.vars := ⟨_, rfl⟩
  obtain ⟨fn, hfn⟩ : ∃ n, n = P.free.length := ⟨_, rfl⟩
  obtain ⟨gn, hgn⟩ : ∃ n, n = P.goal.length := ⟨_, rfl⟩
  obtain ⟨rn, hrn⟩ : ∃ n, n = P.rows.length := ⟨_, rfl⟩
  have HEQ := Lib.hid (And.intro hz (And.intro hfn (And.intro hgn hrn)))
  simp only [← hz, ← hfn, ← hgn, ← hrn] at KR HP ⊢
  clear hz hfn hgn hrn
  obtain ⟨w1, hw1⟩ : ∃ w1, w1 = (w.alloc (Obj.cells #[Value.int .i64 z, Value.slice fa fn fc, Value.slice ga gn gc, Value.slice ra rn rc] 26)).alloc (Obj.cells #[Value.int .i64 0, Value.slice none 0 0, Value.slice none 0 0, Value.slice none 0 0] 26) := ⟨_, rfl⟩
  have HB1 : Hid (Below w.heap.size w w1) := Lib.hid (by rw [hw1]; exact ((Below.refl _ _).alloc (Nat.le_refl _) _).alloc (by simp) _)
  have HX1 : Hid (w1.heap[w.heap.size]? = some (.cells #[Value.int .i64 z, Value.slice fa fn fc, Value.slice ga gn gc, Value.slice ra rn rc] 26 (0, 0))) := Lib.hid (by rw [hw1]; exact heap_alloc2_old w _ _)
  have HO1 : Hid (w1.heap[w.heap.size + 1]? = some (.cells #[Value.int .i64 0, Value.slice none 0 0, Value.slice none 0 0, Value.slice none 0 0] 26 (0, 0))) := Lib.hid (by rw [hw1]; exact heap_alloc2_new w _ _)
  have HW1 := Lib.hid hw1.symm
  clear hw1
  have RX := Lib.hid (cells_later HX1.out)
  have hb1 := Below.refl w1.heap.size w1
  have x0 := RX.out 0 _ rfl _ hb1
  have x1 := RX.out 1 _ rfl _ hb1
  have x2 := RX.out 2 _ rfl _ hb1
  have x3 := RX.out 3 _ rfl _ hb1
  go_enter Tryz.func11, Tryz.ntmps11
  go_wp2_with fail
  rw [HW1.out]
  refine (KR.out _ HB1.out).mono ?_
  rintro en2 w2 ⟨rfl, hb2⟩
  have HZ2 := Lib.hid hb2
  clear hb2 x0 x1 x2 x3
  have HR9 := ((HZ2.out).block _ (lt_of_block HO1.out)).trans HO1.out
  go_wp2_with ((with_reducible refine at_store ?_); refine wpList_store_var rfl _ _ _ rfl (w.heap.size + 1) rfl _ rfl _ _ HR9 info_prog9 rfl prog_one ?_; intro w9 h9 hon9; refine halt ?_)
  refine go_on ?_
  go_wp2_with fail
  exact bodyPost_ret (results_row_tmp rfl _ _ (w.heap.size + 1) _ _ _ _ rfl h9 Tryz.underlying26 rfl info_prog9) rfl ⟨rfl, below_only (below_trans HB1.out (HZ2.out)) hon9 (Nat.le_succ _)⟩
set_option maxRecDepth 100000 in
set_option maxHeartbeats 2000000 in
set_option linter.unusedSimpArgs false in
theorem pdual_no {N : Nat} {w : World} {v : Value} {P : Pm} (h : ProgF N w v P) (hrb : rightB2 P = false) (hf : Fit P) :
    Calls Tryz.prog 8 #[v] w fun e w' => e = .returned (.tuple #[zeroP, .int .i64 20]) ∧ Below w.heap.size w w' := by
  have HP := Lib.hid h
  have KR := Lib.hid (fun w' (hb : Below w.heap.size w w') => pnormal_no (h.below hb) hrb hf)
  obtain ⟨fa, fc, ga, gc, ra, rc, rfl, -, -, -, -, -⟩ := h
  clear hrb hf
  obtain ⟨z, hz⟩ : ∃ z, z = P.vars := ⟨_, rfl⟩
  obtain ⟨fn, hfn⟩ : ∃ n, n = P.free.length := ⟨_, rfl⟩
  obtain ⟨gn, hgn⟩ : ∃ n, n = P.goal.length := ⟨_, rfl⟩
  obtain ⟨rn, hrn⟩ : ∃ n, n = P.rows.length := ⟨_, rfl⟩
  have HEQ := Lib.hid (And.intro hz (And.intro hfn (And.intro hgn hrn)))
  simp only [← hz, ← hfn, ← hgn, ← hrn] at KR HP ⊢
  clear hz hfn hgn hrn
  obtain ⟨w1, hw1⟩ : ∃ w1, w1 = (w.alloc (Obj.cells #[Value.int .i64 z, Value.slice fa fn fc, Value.slice ga gn gc, Value.slice ra rn rc] 26)).alloc (Obj.cells #[Value.int .i64 0, Value.slice none 0 0, Value.slice none 0 0, Value.slice none 0 0] 26) := ⟨_, rfl⟩
  have HB1 : Hid (Below w.heap.size w w1) := Lib.hid (by rw [hw1]; exact ((Below.refl _ _).alloc (Nat.le_refl _) _).alloc (by simp) _)
  have HX1 : Hid (w1.heap[w.heap.size]? = some (.cells #[Value.int .i64 z, Value.slice fa fn fc, Value.slice ga gn gc, Value.slice ra rn rc] 26 (0, 0))) := Lib.hid (by rw [hw1]; exact heap_alloc2_old w _ _)
  have HO1 : Hid (w1.heap[w.heap.size + 1]? = some (.cells #[Value.int .i64 0, Value.slice none 0 0, Value.slice none 0 0, Value.slice none 0 0] 26 (0, 0))) := Lib.hid (by rw [hw1]; exact heap_alloc2_new w _ _)
  have HW1 := Lib.hid hw1.symm
  clear hw1
  have RX := Lib.hid (cells_later HX1.out)
  have hb1 := Below.refl w1.heap.size w1
  have x0 := RX.out 0 _ rfl _ hb1
  have x1 := RX.out 1 _ rfl _ hb1
  have x2 := RX.out 2 _ rfl _ hb1
  have x3 := RX.out 3 _ rfl _ hb1
  go_enter Tryz.func8, Tryz.ntmps8
  go_wp2_with fail
  rw [HW1.out]
  refine (KR.out _ HB1.out).mono ?_
  rintro en2 w2 ⟨rfl, hb2⟩
  have HZ2 := Lib.hid hb2
  unfold zeroP
  clear hb2 x0 x1 x2 x3
  go_wp2_with ((with_reducible refine at_store ?_); refine wpList_store_var rfl _ _ _ rfl w2.heap.size rfl _ rfl _ _ (heap_alloc_new _ _) info_prog9 rfl prog_one ?_; intro w3 h3 hon3; refine halt ?_)
  have HZ3 := Lib.hid (below_trans HZ2.out (below_only ((Below.refl _ _).alloc (Nat.le_refl _) _) hon3 (Nat.le_refl _)))
  clear h3 hon3
  refine go_on ?_
  have HR9 := ((HZ3.out).block _ (lt_of_block HO1.out)).trans HO1.out
  go_wp2_with ((with_reducible refine at_store ?_); refine wpList_store_var rfl _ _ _ rfl (w.heap.size + 1) rfl _ rfl _ _ HR9 info_prog9 rfl prog_one ?_; intro w9 h9 hon9; refine halt ?_)
  refine go_on ?_
  go_wp2_with fail
  exact bodyPost_ret (results_row_tmp rfl _ _ (w.heap.size + 1) _ _ _ _ rfl h9 Tryz.underlying26 rfl info_prog9) rfl ⟨rfl, below_only (below_trans HB1.out (HZ3.out)) hon9 (Nat.le_succ _)⟩
set_option maxRecDepth 100000 in
set_option maxHeartbeats 2000000 in
set_option linter.unusedSimpArgs false in
theorem rdual_no {N : Nat} {w : World} {v : Value} {P : Pm} (h : ProgF N w v P) (hrb : rightB2 P = false) (hf : Fit P) :
    Calls Tryz.prog 9 #[v] w fun e w' => e = .returned (.tuple #[zeroP, .int .i64 20]) ∧ Below w.heap.size w w' := by
  have HP := Lib.hid h
  have KR := Lib.hid (fun w' (hb : Below w.heap.size w w') => rnormal_no (h.below hb) hrb hf)
  obtain ⟨fa, fc, ga, gc, ra, rc, rfl, -, -, -, -, -⟩ := h
  clear hrb hf
  obtain ⟨z, hz⟩ : ∃ z, z = P.vars := ⟨_, rfl⟩
  obtain ⟨fn, hfn⟩ : ∃ n, n = P.free.length := ⟨_, rfl⟩
  obtain ⟨gn, hgn⟩ : ∃ n, n = P.goal.length := ⟨_, rfl⟩
  obtain ⟨rn, hrn⟩ : ∃ n, n = P.rows.length := ⟨_, rfl⟩
  have HEQ := Lib.hid (And.intro hz (And.intro hfn (And.intro hgn hrn)))
  simp only [← hz, ← hfn, ← hgn, ← hrn] at KR HP ⊢
  clear hz hfn hgn hrn
  obtain ⟨w1, hw1⟩ : ∃ w1, w1 = (w.alloc (Obj.cells #[Value.int .i64 z, Value.slice fa fn fc, Value.slice ga gn gc, Value.slice ra rn rc] 26)).alloc (Obj.cells #[Value.int .i64 0, Value.slice none 0 0, Value.slice none 0 0, Value.slice none 0 0] 26) := ⟨_, rfl⟩
  have HB1 : Hid (Below w.heap.size w w1) := Lib.hid (by rw [hw1]; exact ((Below.refl _ _).alloc (Nat.le_refl _) _).alloc (by simp) _)
  have HX1 : Hid (w1.heap[w.heap.size]? = some (.cells #[Value.int .i64 z, Value.slice fa fn fc, Value.slice ga gn gc, Value.slice ra rn rc] 26 (0, 0))) := Lib.hid (by rw [hw1]; exact heap_alloc2_old w _ _)
  have HO1 : Hid (w1.heap[w.heap.size + 1]? = some (.cells #[Value.int .i64 0, Value.slice none 0 0, Value.slice none 0 0, Value.slice none 0 0] 26 (0, 0))) := Lib.hid (by rw [hw1]; exact heap_alloc2_new w _ _)
  have HW1 := Lib.hid hw1.symm
  clear hw1
  have RX := Lib.hid (cells_later HX1.out)
  have hb1 := Below.refl w1.heap.size w1
  have x0 := RX.out 0 _ rfl _ hb1
  have x1 := RX.out 1 _ rfl _ hb1
  have x2 := RX.out 2 _ rfl _ hb1
  have x3 := RX.out 3 _ rfl _ hb1
  go_enter Tryz.func9, Tryz.ntmps9
  go_wp2_with fail
  rw [HW1.out]
  refine (KR.out _ HB1.out).mono ?_
  rintro en2 w2 ⟨rfl, hb2⟩
  have HZ2 := Lib.hid hb2
  unfold zeroP
  clear hb2 x0 x1 x2 x3
  go_wp2_with ((with_reducible refine at_store ?_); refine wpList_store_var rfl _ _ _ rfl w2.heap.size rfl _ rfl _ _ (heap_alloc_new _ _) info_prog9 rfl prog_one ?_; intro w3 h3 hon3; refine halt ?_)
  have HZ3 := Lib.hid (below_trans HZ2.out (below_only ((Below.refl _ _).alloc (Nat.le_refl _) _) hon3 (Nat.le_refl _)))
  clear h3 hon3
  refine go_on ?_
  have HR9 := ((HZ3.out).block _ (lt_of_block HO1.out)).trans HO1.out
  go_wp2_with ((with_reducible refine at_store ?_); refine wpList_store_var rfl _ _ _ rfl (w.heap.size + 1) rfl _ rfl _ _ HR9 info_prog9 rfl prog_one ?_; intro w9 h9 hon9; refine halt ?_)
  refine go_on ?_
  go_wp2_with fail
  exact bodyPost_ret (results_row_tmp rfl _ _ (w.heap.size + 1) _ _ _ _ rfl h9 Tryz.underlying26 rfl info_prog9) rfl ⟨rfl, below_only (below_trans HB1.out (HZ3.out)) hon9 (Nat.le_succ _)⟩
end Go.Proofs.YtafenoohjcpjgaaGreat

/- Dual of a program without rows. -/
namespace Go.Proofs.YtafenoohjcpjgaaGreat
open Go.RowKit
attribute [local go_sem ↓] Go.wp_at_zero Go.wp_at_succ

set_option maxRecDepth 100000 in
set_option maxHeartbeats 2000000 in
set_option linter.unusedSimpArgs false in
theorem pdual_nil {N : Nat} {w : World} {v : Value} {P : Pm} (h : ProgF N w v P) (hrb : rightB2 P = true) (hN : N ≤ 500) (hv1 : P.vars ≤ 160) (hr0 : P.rows.length = 0) :
    Calls Tryz.prog 8 #[v] w fun e w' => e = .returned (.tuple #[zeroP, .int .i64 20]) ∧ Below w.heap.size w w' := by
  have HP := Lib.hid h
  have KR := Lib.hid (fun w' (hb : Below w.heap.size w w') => pnormal_w (h.below hb) hrb hN hv1 (by omega))
  have HR0 := Lib.hid hr0
  obtain ⟨fa, fc, ga, gc, ra, rc, rfl, -, -, -, -, -⟩ := h
  clear hrb hN hv1 hr0
  obtain ⟨z, hz⟩ : ∃ z, z = P.vars := ⟨_, rfl⟩
  obtain ⟨fn, hfn⟩ : ∃ n, n = P.free.length := ⟨_, rfl⟩
  obtain ⟨gn, hgn⟩ : ∃ n, n = P.goal.length := ⟨_, rfl⟩
  obtain ⟨rn, hrn⟩ : ∃ n, n = P.rows.length := ⟨_, rfl⟩
  have HEQ := Lib.hid (And.intro hz (And.intro hfn (And.intro hgn hrn)))
  simp only [← hz, ← hfn, ← hgn, ← hrn] at KR HP ⊢
  clear hz hfn hgn hrn
  obtain ⟨w1, hw1⟩ : ∃ w1, w1 = (w.alloc (Obj.cells #[Value.int .i64 z, Value.slice fa fn fc, Value.slice ga gn gc, Value.slice ra rn rc] 26)).alloc (Obj.cells #[Value.int .i64 0, Value.slice none 0 0, Value.slice none 0 0, Value.slice none 0 0] 26) := ⟨_, rfl⟩
  have HB1 : Hid (Below w.heap.size w w1) := Lib.hid (by rw [hw1]; exact ((Below.refl _ _).alloc (Nat.le_refl _) _).alloc (by simp) _)
  have HX1 : Hid (w1.heap[w.heap.size]? = some (.cells #[Value.int .i64 z, Value.slice fa fn fc, Value.slice ga gn gc, Value.slice ra rn rc] 26 (0, 0))) := Lib.hid (by rw [hw1]; exact heap_alloc2_old w _ _)
  have HO1 : Hid (w1.heap[w.heap.size + 1]? = some (.cells #[Value.int .i64 0, Value.slice none 0 0, Value.slice none 0 0, Value.slice none 0 0] 26 (0, 0))) := Lib.hid (by rw [hw1]; exact heap_alloc2_new w _ _)
  have HW1 := Lib.hid hw1.symm
  clear hw1
  have RX := Lib.hid (cells_later HX1.out)
  have hb1 := Below.refl w1.heap.size w1
  have x0 := RX.out 0 _ rfl _ hb1
  have x1 := RX.out 1 _ rfl _ hb1
  have x2 := RX.out 2 _ rfl _ hb1
  have x3 := RX.out 3 _ rfl _ hb1
  go_enter Tryz.func8, Tryz.ntmps8
  go_wp2_with fail
  rw [HW1.out]
  refine (KR.out _ HB1.out).mono ?_
  rintro en2 w2 ⟨⟨r2, rfl, hn2⟩, hb2⟩
  obtain ⟨fa', fc', ga', gc', oa, oc, mid, rfl, -, -, -, -, -, -, -⟩ := hn2
  obtain ⟨rl, hrl⟩ : ∃ x, x = (normP P).rows.length := ⟨_, rfl⟩
  obtain ⟨gl, hgl⟩ : ∃ x, x = (normP P).goal.length := ⟨_, rfl⟩
  obtain ⟨fl, hfl⟩ : ∃ x, x = (normP P).free.length := ⟨_, rfl⟩
  obtain ⟨vl, hvl⟩ : ∃ x, x = (normP P).vars := ⟨_, rfl⟩
  rw [← hrl, ← hgl, ← hfl, ← hvl]
  have hrl0 : rl = 0 := by
    rw [hrl]
    show (P.rows.map turnR).length = 0
    rw [List.length_map]
    exact HR0.out
  clear hrl hgl hfl hvl
  subst hrl0
  have HZ2 := Lib.hid hb2
  clear hb2 x0 x1 x2 x3
  go_wp2_with ((with_reducible refine at_store ?_); refine wpList_store_var rfl _ _ _ rfl w2.heap.size rfl _ rfl _ _ (heap_alloc_new _ _) info_prog9 rfl prog_one ?_; intro w3 h3 hon3; refine halt ?_)
  have HZ3 := Lib.hid (below_trans HZ2.out (below_only ((Below.refl _ _).alloc (Nat.le_refl _) _) hon3 (Nat.le_refl _)))
  have n3 := cells_later h3 3 _ rfl _ (Below.refl _ _)
  clear h3 hon3
  refine go_on ?_
  have HR9 := ((HZ3.out).block _ (lt_of_block HO1.out)).trans HO1.out
  go_wp2_with ((with_reducible refine at_store ?_); refine wpList_store_var rfl _ _ _ rfl (w.heap.size + 1) rfl _ rfl _ _ HR9 info_prog9 rfl prog_one ?_; intro w9 h9 hon9; refine halt ?_)
  refine go_on ?_
  go_wp2_with fail
  exact bodyPost_ret (results_row_tmp rfl _ _ (w.heap.size + 1) _ _ _ _ rfl h9 Tryz.underlying26 rfl info_prog9) rfl ⟨rfl, below_only (below_trans HB1.out (HZ3.out)) hon9 (Nat.le_succ _)⟩
set_option maxRecDepth 100000 in
set_option maxHeartbeats 2000000 in
set_option linter.unusedSimpArgs false in
theorem rdual_nil {N : Nat} {w : World} {v : Value} {P : Pm} (h : ProgF N w v P) (hrb : rightB2 P = true) (hN : N ≤ 500) (hv1 : P.vars ≤ 160) (hr0 : P.rows.length = 0) :
    Calls Tryz.prog 9 #[v] w fun e w' => e = .returned (.tuple #[zeroP, .int .i64 20]) ∧ Below w.heap.size w w' := by
  have HP := Lib.hid h
  have KR := Lib.hid (fun w' (hb : Below w.heap.size w w') => rnormal_w (h.below hb) hrb hN hv1 (by omega))
  have HR0 := Lib.hid hr0
  obtain ⟨fa, fc, ga, gc, ra, rc, rfl, -, -, -, -, -⟩ := h
  clear hrb hN hv1 hr0
  obtain ⟨z, hz⟩ : ∃ z, z = P.vars := ⟨_, rfl⟩
  obtain ⟨fn, hfn⟩ : ∃ n, n = P.free.length := ⟨_, rfl⟩
  obtain ⟨gn, hgn⟩ : ∃ n, n = P.goal.length := ⟨_, rfl⟩
  obtain ⟨rn, hrn⟩ : ∃ n, n = P.rows.length := ⟨_, rfl⟩
  have HEQ := Lib.hid (And.intro hz (And.intro hfn (And.intro hgn hrn)))
  simp only [← hz, ← hfn, ← hgn, ← hrn] at KR HP ⊢
  clear hz hfn hgn hrn
  obtain ⟨w1, hw1⟩ : ∃ w1, w1 = (w.alloc (Obj.cells #[Value.int .i64 z, Value.slice fa fn fc, Value.slice ga gn gc, Value.slice ra rn rc] 26)).alloc (Obj.cells #[Value.int .i64 0, Value.slice none 0 0, Value.slice none 0 0, Value.slice none 0 0] 26) := ⟨_, rfl⟩
  have HB1 : Hid (Below w.heap.size w w1) := Lib.hid (by rw [hw1]; exact ((Below.refl _ _).alloc (Nat.le_refl _) _).alloc (by simp) _)
  have HX1 : Hid (w1.heap[w.heap.size]? = some (.cells #[Value.int .i64 z, Value.slice fa fn fc, Value.slice ga gn gc, Value.slice ra rn rc] 26 (0, 0))) := Lib.hid (by rw [hw1]; exact heap_alloc2_old w _ _)
  have HO1 : Hid (w1.heap[w.heap.size + 1]? = some (.cells #[Value.int .i64 0, Value.slice none 0 0, Value.slice none 0 0, Value.slice none 0 0] 26 (0, 0))) := Lib.hid (by rw [hw1]; exact heap_alloc2_new w _ _)
  have HW1 := Lib.hid hw1.symm
  clear hw1
  have RX := Lib.hid (cells_later HX1.out)
  have hb1 := Below.refl w1.heap.size w1
  have x0 := RX.out 0 _ rfl _ hb1
  have x1 := RX.out 1 _ rfl _ hb1
  have x2 := RX.out 2 _ rfl _ hb1
  have x3 := RX.out 3 _ rfl _ hb1
  go_enter Tryz.func9, Tryz.ntmps9
  go_wp2_with fail
  rw [HW1.out]
  refine (KR.out _ HB1.out).mono ?_
  rintro en2 w2 ⟨⟨r2, rfl, hn2⟩, hb2⟩
  obtain ⟨fa', fc', ga', gc', oa, oc, mid, rfl, -, -, -, -, -, -, -⟩ := hn2
  obtain ⟨rl, hrl⟩ : ∃ x, x = (normP P).rows.length := ⟨_, rfl⟩
  obtain ⟨gl, hgl⟩ : ∃ x, x = (normP P).goal.length := ⟨_, rfl⟩
  obtain ⟨fl, hfl⟩ : ∃ x, x = (normP P).free.length := ⟨_, rfl⟩
  obtain ⟨vl, hvl⟩ : ∃ x, x = (normP P).vars := ⟨_, rfl⟩
  rw [← hrl, ← hgl, ← hfl, ← hvl]
  have hrl0 : rl = 0 := by
    rw [hrl]
    show (P.rows.map turnR).length = 0
    rw [List.length_map]
    exact HR0.out
  clear hrl hgl hfl hvl
  subst hrl0
  have HZ2 := Lib.hid hb2
  clear hb2 x0 x1 x2 x3
  go_wp2_with ((with_reducible refine at_store ?_); refine wpList_store_var rfl _ _ _ rfl w2.heap.size rfl _ rfl _ _ (heap_alloc_new _ _) info_prog9 rfl prog_one ?_; intro w3 h3 hon3; refine halt ?_)
  have HZ3 := Lib.hid (below_trans HZ2.out (below_only ((Below.refl _ _).alloc (Nat.le_refl _) _) hon3 (Nat.le_refl _)))
  have n3 := cells_later h3 3 _ rfl _ (Below.refl _ _)
  clear h3 hon3
  refine go_on ?_
  have HR9 := ((HZ3.out).block _ (lt_of_block HO1.out)).trans HO1.out
  go_wp2_with ((with_reducible refine at_store ?_); refine wpList_store_var rfl _ _ _ rfl (w.heap.size + 1) rfl _ rfl _ _ HR9 info_prog9 rfl prog_one ?_; intro w9 h9 hon9; refine halt ?_)
  refine go_on ?_
  go_wp2_with fail
  exact bodyPost_ret (results_row_tmp rfl _ _ (w.heap.size + 1) _ _ _ _ rfl h9 Tryz.underlying26 rfl info_prog9) rfl ⟨rfl, below_only (below_trans HB1.out (HZ3.out)) hon9 (Nat.le_succ _)⟩
end Go.Proofs.YtafenoohjcpjgaaGreat
