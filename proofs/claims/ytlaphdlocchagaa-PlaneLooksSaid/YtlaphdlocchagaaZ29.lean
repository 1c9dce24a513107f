/- Several texts in one: G2, G3, H2. -/
import Derived.Test.YtlaphdlocchagaaZ28
import Derived.Deep.DrawnRows
import Derived.Deep.DeepCutAuto
import Derived.Test.YtlaphdlocchagaaZ27
import Derived.Deep.AppendLies
import Derived.Test.YtlaphdlocchagaaZ20
/- Lists of fractions: sums of products of the reference. -/
namespace Go.Proofs.Ytlaphdlocchagaa
open Go.RowKit
attribute [local go_sem ↓] Go.wp_at_zero Go.wp_at_succ

set_option maxRecDepth 8000 in
set_option maxHeartbeats 8000000 in
theorem rdot_wG {N : Nat} {w : World} {v v' : Value} {qs ps : List Rat} (hl : ListF N w v qs) (hl2 : ListF N w v' ps) (hN : N ≤ 50) (hn : qs.length ≤ 100) (hn2 : ps.length ≤ 100) (hNn : N * qs.length ≤ 1000) :
    Calls Try.prog 20 #[v, v'] w (RTell w (sumR (fun i => nthQ qs i * nthQ ps i) 0 (min qs.length ps.length))) := by
  obtain ⟨a, c, rfl, -⟩ := id hl
  obtain ⟨a', c', rfl, -⟩ := id hl2
  obtain ⟨n, hnn⟩ : ∃ n, n = qs.length := ⟨_, rfl⟩
  obtain ⟨n', hnn'⟩ : ∃ n, n = ps.length := ⟨_, rfl⟩
  rw [← hnn] at hl hn hNn ⊢
  rw [← hnn'] at hl2 hn2 ⊢
  obtain ⟨g, hg⟩ : ∃ g, g = fun i => nthQ qs i * nthQ ps i := ⟨_, rfl⟩
  rw [← hg]
  have HGI : Hid (∀ i, g i = nthQ qs i * nthQ ps i) := Lib.hid (fun i => by rw [hg])
  obtain ⟨w1, hw1⟩ : ∃ w1, w1 = w.alloc (Obj.cells #[Value.bool false, Value.slice none 0 0, Value.slice none 0 0] 34) := ⟨_, rfl⟩
  have HB1 : Hid (Below w.heap.size w w1) := Lib.hid (by rw [hw1]; exact (Below.refl _ _).alloc (Nat.le_refl _) _)
  have HR : Hid (w1.heap[w.heap.size]? = some (.cells #[Value.bool false, Value.slice none 0 0, Value.slice none 0 0] 34 (0, 0))) := Lib.hid (by rw [hw1]; exact heap_alloc_new w _)
  have HW1 := Lib.hid hw1.symm
  have HL := Lib.hid hl
  have HL2 := Lib.hid hl2
  obtain ⟨k, hk⟩ : ∃ k, k = min n n' := ⟨_, rfl⟩
  rw [← hk]
  have HK : Hid (k ≤ n ∧ k ≤ n' ∧ (∀ i, i < n → i < n' → i < k) ∧ (∀ i, i ≤ k → (¬ i < n ∨ ¬ i < n') → i = k)) := Lib.hid ⟨by omega, by omega, fun i h1 h2 => by omega, fun i h1 h2 => by omega⟩
  have HSZ : Hid (∀ i, i ≤ k → lenQ (sumR g 0 i) ≤ 4096) := Lib.hid (fun i hi => by
    have h := sz_len (sz_sum (g := g) (lo := 0) (n := i) (m := 2 * N) fun j h1 h2 => by
      obtain ⟨q, B, off, b, a1, n1, c1, a2, n2, c2, hq, -, -, hf⟩ := hl.at (i := j) (by omega)
      obtain ⟨q', B', off', b', a3, n3, c3, a4, n4, c4, hq', -, -, hf'⟩ := hl2.at (i := j) (by omega)
      rw [HGI.out, nthQ_of hq, nthQ_of hq']; exact sz_mul (few_sz hf) (few_sz hf')) (by omega)
    have h9 : 2 * N * i ≤ 2 * (N * n) := Nat.le_trans (Nat.mul_le_mul_left (2 * N) (show i ≤ n by omega)) (Nat.le_of_eq (Nat.mul_assoc _ _ _))
    omega)
  clear hw1 hl hl2 hnn hnn' hg hk hNn
  go_enter Try.func20, Try.ntmps20
  go_wp2_with fail
  rw [HW1.out]
  refine rzero_w.mono ?_
  rintro en2 w2 ⟨⟨v2, rfl, f2⟩, hb2⟩
  obtain ⟨a2, n2, c2, i2, j2, k2, hq2⟩ := frac_form f2
  subst hq2
  go_wp2_with ((with_reducible refine at_store ?_); refine wpList_store_var rfl _ _ _ rfl w2.heap.size rfl _ rfl _ _ (heap_alloc_new _ _) ifrac rfl frac_one ?_; intro w3 h3 hon3; refine halt ?_)
  have hb3 : Below w2.heap.size w2 w3 := below_only ((Below.refl _ _).alloc (Nat.le_refl _) _) hon3 (Nat.le_refl _)
  obtain ⟨Ba, hBa⟩ : ∃ B, B = w2.heap.size := ⟨_, rfl⟩
  have hBw : w.heap.size + 1 ≤ Ba := by have h8 := lt_of_block HR.out; have h9 := hb2.size; omega
  have hBw1 : w1.heap.size ≤ Ba := by have h9 := hb2.size; omega
  have HROW3 : Hid (w3.heap[Ba]? = some (.cells #[Value.bool (decide ((0 : Rat).num < 0)), Value.slice a2 n2 c2, Value.slice i2 j2 k2] 34 (0, 0))) := Lib.hid (by rw [hBa]; exact h3)
  have HF3 := Lib.hid (f2.below hb3)
  have HZ3 := Lib.hid (below_trans hb2 hb3)
  rw [← hBa]
  clear h3 hon3 hb3 hb2 f2 hBa
  refine go_on ?_
  go_wp2_with fail
  go_loopw [6] (fun iv wr => ∃ (i : Nat) (ra : Bool) (ab : Option Addr) (an ac : Nat) (ai : Option Addr) (aj ak : Nat), i ≤ k ∧ iv = .int .i64 i ∧ Hid (wr.heap[Ba]? = some (.cells #[Value.bool ra, Value.slice ab an ac, Value.slice ai aj ak] 34 (0, 0))) ∧ Hid (FracV wr (.agg #[Value.bool ra, Value.slice ab an ac, Value.slice ai aj ak]) (sumR g 0 i)) ∧ Hid (Below w1.heap.size w1 wr)) (fun iv _ => k - (intOf iv).toNat)
  case atStart => exact ⟨0, _, _, _, _, _, _, _, Nat.zero_le _, rfl, HROW3, HF3, HZ3⟩
  case round =>
    obtain ⟨i, ra, ab, an, ac, ai, aj, ak, hi, rfl, hrow, hfa, hZ⟩ := hrel
    obtain ⟨wo, rfl⟩ : ∃ wo : World, wo = wr := ⟨_, rfl⟩
    have hk9 : k ≤ 100 := by have := HK.out.1; omega
    by_cases hin : i < n
    · have t0 : decide ((i : Int) < (n : Int)) = true := by simp; omega
      by_cases hin2 : i < n'
      · have t1 : decide ((i : Int) < (n' : Int)) = true := by simp; omega
        have hik := HK.out.2.2.1 i hin hin2
        obtain ⟨q, B, off, b, a1, n1, c1, a2, n2, c2, hq, ha, hc, hf⟩ := HL.out.at hin
        subst ha
        obtain ⟨q', B', off', b', a3, n3, c3, a4, n4, c4, hq', ha', hc', hf'⟩ := HL2.out.at hin2
        subst ha'
        have HW := Lib.hid (below_trans HB1.out hZ.out)
        have RC : Hid (∀ w', Below wo.heap.size wo w' → (w'.cell? ⟨B, off + i * 3, none⟩ = some (.bool b) ∧ w'.cell? ⟨B, off + i * 3 + 1, none⟩ = some (.slice a1 n1 c1) ∧ w'.cell? ⟨B, off + i * 3 + 2, none⟩ = some (.slice a2 n2 c2)) ∧ (w'.cell? ⟨B', off' + i * 3, none⟩ = some (.bool b') ∧ w'.cell? ⟨B', off' + i * 3 + 1, none⟩ = some (.slice a3 n3 c3) ∧ w'.cell? ⟨B', off' + i * 3 + 2, none⟩ = some (.slice a4 n4 c4))) := Lib.hid (fun w' h => ⟨hc w' (below_trans HW.out h), hc' w' (below_trans HW.out h)⟩)
        have RA := Lib.hid (cells_later hrow.out)
        have FA := Lib.hid (frozen_at hrow.out)
        have HGQ : Hid (g i = q * q') := Lib.hid (by rw [HGI.out, nthQ_of hq, nthQ_of hq'])
        have HNX : Hid (sumR g 0 i + g i = sumR g 0 (i + 1)) := Lib.hid (sumR_next g i)
        have hw0 := Below.refl wo.heap.size wo
        obtain ⟨⟨x0, x1, x2⟩, y0, y1, y2⟩ := RC.out _ hw0
        have hln1 : n1 ≤ 1073741824 := by
          obtain ⟨_, _, _, ⟨_, _, he, hu, _⟩, _, _, _⟩ := hf
          simp only [Value.agg.injEq, Array.mk.injEq, List.cons.injEq, and_true] at he
          obtain ⟨-, rfl, -⟩ := he
          have := hu.lenE; have := hu.len; omega
        have hln3 : n3 ≤ 1073741824 := by
          obtain ⟨_, _, _, ⟨_, _, he, hu, _⟩, _, _, _⟩ := hf'
          simp only [Value.agg.injEq, Array.mk.injEq, List.cons.injEq, and_true] at he
          obtain ⟨-, rfl, -⟩ := he
          have := hu.lenE; have := hu.len; omega
        by_cases h1 : 0 < n1
        · have u1 : decide ((0 : Int) < (n1 : Int)) = true := by simp; omega
          by_cases h3 : 0 < n3
          · have u3 : decide ((0 : Int) < (n3 : Int)) = true := by simp; omega
            obtain ⟨Q, hQ⟩ : ∃ Q, Q = sumR g 0 (i + 1) := ⟨_, rfl⟩
            have HQ := Lib.hid hQ
            have HLQ : Hid (lenQ Q ≤ 4096) := Lib.hid (by rw [hQ]; exact HSZ.out (i + 1) (by omega))
            obtain ⟨M, hM⟩ : ∃ M, q * q' = M := ⟨_, rfl⟩
            have HLM : Hid (lenQ M ≤ 4096) := Lib.hid (by rw [← hM]; have h9 := len_mul q q'; have := hf.len; have := hf'.len; omega)
            have K1 := Lib.hid (fun w' (hb : Below wo.heap.size wo w') => rmul_f (w := w') (hf.below (below_trans HW.out hb)) (hf'.below (below_trans HW.out hb)) (by omega) hM)
            have K2 := Lib.hid (fun w' y (hb : Below wo.heap.size wo w') (hy : FracV w' y M) => radd_v (w := w') (Q := Q) (hfa.out.below hb) hy (HSZ.out i hi) HLM.out HLQ.out (by rw [← hM, ← HGQ.out, HNX.out, hQ]))
            have s0 := RA.out 0 _ rfl _ hw0
            have s1 := RA.out 1 _ rfl _ hw0
            have s2 := RA.out 2 _ rfl _ hw0
            have hz0 : Below wo.heap.size wo wo.drew := below_drewN hw0 1
            clear hc hc' hf hf' hq hq' hQ hM
            go_wp2_with fail
            go_region_with (first | (go_at_call 37; refine (K1.out _ hz0).mono ?_; rintro en3 w3 ⟨⟨r3, rfl, f3⟩, hb3⟩; obtain ⟨a3', n3', c3', i3', j3', k3', hq3⟩ := frac_form f3; subst hq3; have hz3 := below_trans hz0 hb3; have s0 := RA.out 0 _ rfl _ hz3; have s1 := RA.out 1 _ rfl _ hz3; have s2 := RA.out 2 _ rfl _ hz3) | (go_at_call 36; refine (K2.out _ _ hz3 f3).mono ?_; rintro en4 w4 ⟨⟨r4, rfl, f4⟩, hb4⟩; obtain ⟨a4', n4', c4', i4', j4', k4', hq4⟩ := frac_form f4; subst hq4; have hz4 := below_trans hz3 hb4; have s0 := RA.out 0 _ rfl _ hz4; have s1 := RA.out 1 _ rfl _ hz4; have s2 := RA.out 2 _ rfl _ hz4; have g0 := FA.out 0 _ hz4; have g1 := FA.out 1 _ hz4; have g2 := FA.out 2 _ hz4))
            all_goals
              have HROW4 : Hid (w4.heap[Ba]? = some (.cells #[Value.bool ra, Value.slice ab an ac, Value.slice ai aj ak] 34 (0, 0))) := Lib.hid ((hz4.block _ (lt_of_block hrow.out)).trans hrow.out)
              have HON : Hid (Only Ba w4 (frac3 w4 Ba (decide (Q.num < 0)) (Value.slice a4' n4' c4') (Value.slice i4' j4' k4'))) := Lib.hid (frac3_only _ _ _ _ _)
              have HROW5 : Hid ((frac3 w4 Ba (decide (Q.num < 0)) (Value.slice a4' n4' c4') (Value.slice i4' j4' k4')).heap[Ba]? = some (.cells #[Value.bool (decide (Q.num < 0)), Value.slice a4' n4' c4', Value.slice i4' j4' k4'] 34 (0, 0))) := Lib.hid (frac_row HROW4.out)
              have HF5 : Hid (FracV (frac3 w4 Ba (decide (Q.num < 0)) (Value.slice a4' n4' c4') (Value.slice i4' j4' k4')) (.agg #[Value.bool (decide (Q.num < 0)), Value.slice a4' n4' c4', Value.slice i4' j4' k4']) (sumR g 0 (i + 1))) := Lib.hid (by rw [← HQ.out]; exact f4.other HROW4.out HON.out)
              have HZ5 := Lib.hid (below_only (below_trans hZ.out hz4) HON.out hBw1)
              go_wp2_with fail
              go_roundw
            all_goals first
              | exact ⟨i + 1, _, _, _, _, _, _, _, by omega, by go_num, HROW5, HF5, HZ5⟩
              | (simp [intOf]; omega)
          · have u3 : decide ((0 : Int) < (n3 : Int)) = false := by simp; omega
            have HSAME : Hid (sumR g 0 (i + 1) = sumR g 0 i) := Lib.hid (by
              rw [← HNX.out, HGQ.out, few_zero hf' (by omega), Rat.mul_zero, Rat.add_zero])
            clear hc hc' hf hf' hq hq'
            go_wp2_with fail
            go_roundw
            case rel => exact ⟨i + 1, _, _, _, _, _, _, _, by omega, by go_num, hrow, Lib.hid (by rw [HSAME.out]; exact hfa.out), hZ⟩
            case measure => simp [intOf]; omega
        · have u1 : decide ((0 : Int) < (n1 : Int)) = false := by simp; omega
          have HSAME : Hid (sumR g 0 (i + 1) = sumR g 0 i) := Lib.hid (by
            rw [← HNX.out, HGQ.out, few_zero hf (by omega), Rat.zero_mul, Rat.add_zero])
          clear hc hc' hf hf' hq hq'
          go_wp2_with fail
          go_roundw
          case rel => exact ⟨i + 1, _, _, _, _, _, _, _, by omega, by go_num, hrow, Lib.hid (by rw [HSAME.out]; exact hfa.out), hZ⟩
          case measure => simp [intOf]; omega
      · have t1 : decide ((i : Int) < (n' : Int)) = false := by simp; omega
        have he : i = k := HK.out.2.2.2 i hi (Or.inr hin2)
        subst he
        have HRe : Hid (wo.heap[w.heap.size]? = some (.cells #[Value.bool false, Value.slice none 0 0, Value.slice none 0 0] 34 (0, 0))) := Lib.hid ((hZ.out.block _ (lt_of_block HR.out)).trans HR.out)
        have HF9 := Lib.hid (hfa.out.other HRe.out (frac3_only _ _ ra (Value.slice ab an ac) (Value.slice ai aj ak)))
        have HB9 := Lib.hid (below_trans HB1.out hZ.out)
        have r0 := cells_later HRe.out 0 _ rfl _ (Below.refl _ _)
        have r1 := cells_later HRe.out 1 _ rfl _ (Below.refl _ _)
        have r2 := cells_later HRe.out 2 _ rfl _ (Below.refl _ _)
        have f0 := frozen_of_row _ _ 0 _ _ HRe.out
        have f1 := frozen_of_row _ _ 1 _ _ HRe.out
        have f2 := frozen_of_row _ _ 2 _ _ HRe.out
        have s0 := cells_later hrow.out 0 _ rfl _ (Below.refl _ _)
        have s1 := cells_later hrow.out 1 _ rfl _ (Below.refl _ _)
        have s2 := cells_later hrow.out 2 _ rfl _ (Below.refl _ _)
        go_wp2_with fail
        exact bodyPost_ret (results_cell_row rfl _ _ (w.heap.size) _ _ _ _ rfl (frac3_heap HRe.out) Try.underlying34 rfl ifrac) rfl ⟨⟨_, rfl, HF9.out⟩, below_only HB9.out (frac3_only _ _ _ _ _) (by omega)⟩
    · have t0 : decide ((i : Int) < (n : Int)) = false := by simp; omega
      have he : i = k := HK.out.2.2.2 i hi (Or.inl hin)
      subst he
      have HRe : Hid (wo.heap[w.heap.size]? = some (.cells #[Value.bool false, Value.slice none 0 0, Value.slice none 0 0] 34 (0, 0))) := Lib.hid ((hZ.out.block _ (lt_of_block HR.out)).trans HR.out)
      have HF9 := Lib.hid (hfa.out.other HRe.out (frac3_only _ _ ra (Value.slice ab an ac) (Value.slice ai aj ak)))
      have HB9 := Lib.hid (below_trans HB1.out hZ.out)
      have r0 := cells_later HRe.out 0 _ rfl _ (Below.refl _ _)
      have r1 := cells_later HRe.out 1 _ rfl _ (Below.refl _ _)
      have r2 := cells_later HRe.out 2 _ rfl _ (Below.refl _ _)
      have f0 := frozen_of_row _ _ 0 _ _ HRe.out
      have f1 := frozen_of_row _ _ 1 _ _ HRe.out
      have f2 := frozen_of_row _ _ 2 _ _ HRe.out
      have s0 := cells_later hrow.out 0 _ rfl _ (Below.refl _ _)
      have s1 := cells_later hrow.out 1 _ rfl _ (Below.refl _ _)
      have s2 := cells_later hrow.out 2 _ rfl _ (Below.refl _ _)
      go_wp2_with fail
      exact bodyPost_ret (results_cell_row rfl _ _ (w.heap.size) _ _ _ _ rfl (frac3_heap HRe.out) Try.underlying34 rfl ifrac) rfl ⟨⟨_, rfl, HF9.out⟩, below_only HB9.out (frac3_only _ _ _ _ _) (by omega)⟩
theorem rdot_w {N : Nat} {w : World} {v v' : Value} {qs ps : List Rat} (hl : ListF N w v qs) (hl2 : ListF N w v' ps) (hN : N ≤ 50) (hn : qs.length ≤ 20) (hn2 : ps.length ≤ 20) :
    Calls Try.prog 20 #[v, v'] w (RTell w (sumR (fun i => nthQ qs i * nthQ ps i) 0 (min qs.length ps.length))) :=
  rdot_wG hl hl2 hN (by omega) (by omega) (Nat.le_trans (Nat.mul_le_mul hN hn) (by omega))
end Go.Proofs.Ytlaphdlocchagaa

/- Lists of fractions: copies. -/
namespace Go.Proofs.Ytlaphdlocchagaa
open Go.RowKit
attribute [local go_sem ↓] Go.wp_at_zero Go.wp_at_succ

theorem IsW.keep {w w' : World} {v : Value} {l : List Nat} (h : IsW w v l) (hs : w.heap.size ≤ w'.heap.size) (hb : l ≠ [] → ∀ b, v.ownBlock = some b → w'.heap[b]? = w.heap[b]?) : IsW w' v l := by
  by_cases hl : l = []
  · subst hl; exact h.empty
  have hb := hb hl
  obtain ⟨a, cap, rfl, h1, h2, h3, h4, h5⟩ := h
  refine ⟨a, cap, rfl, h1, h2, h3, h4.of_blocks hs ?_, fun hne x hx => Nat.lt_of_lt_of_le (h5 hne x hx) hs⟩
  rintro x rfl
  exact hb _ (by simp [Value.ownBlock])
theorem IsW.ne0 {w : World} {a : Option Addr} {n c : Nat} {l : List Nat} (h : IsW w (.slice a n c) l) : l ≠ [] ↔ n ≠ 0 := by
  obtain ⟨a', c', hv, -⟩ := h
  simp only [Value.slice.injEq] at hv
  obtain ⟨-, rfl, -⟩ := hv
  simp
theorem FewF.keep {N : Nat} {w w' : World} {b : Bool} {a1 a2 : Option Addr} {n1 c1 n2 c2 : Nat} {q : Rat} (h : FewF N w (.agg #[.bool b, .slice a1 n1 c1, .slice a2 n2 c2]) q) (hs : w.heap.size ≤ w'.heap.size)
    (h1 : n1 ≠ 0 → ∀ x, (Value.slice a1 n1 c1).ownBlock = some x → w'.heap[x]? = w.heap[x]?) (h2 : n2 ≠ 0 → ∀ x, (Value.slice a2 n2 c2).ownBlock = some x → w'.heap[x]? = w.heap[x]?) : FewF N w' (.agg #[.bool b, .slice a1 n1 c1, .slice a2 n2 c2]) q := by
  obtain ⟨b', l, m, ⟨u, d, he, hu, hd⟩, hq, hl, hm⟩ := h
  simp only [Value.agg.injEq, Array.mk.injEq, List.cons.injEq, and_true] at he
  obtain ⟨hb, rfl, rfl⟩ := he
  exact ⟨b', l, m, ⟨_, _, by rw [hb], hu.keep hs (fun e => h1 (hu.ne0.1 e)), hd.keep hs (fun e => h2 (hd.ne0.1 e))⟩, hq, hl, hm⟩
theorem FewF.own {N : Nat} {w : World} {b : Bool} {a1 a2 : Option Addr} {n1 c1 n2 c2 : Nat} {q : Rat} (h : FewF N w (.agg #[.bool b, .slice a1 n1 c1, .slice a2 n2 c2]) q) : (n1 ≠ 0 → ∀ x, (Value.slice a1 n1 c1).ownBlock = some x → x < w.heap.size) ∧ (n2 ≠ 0 → ∀ x, (Value.slice a2 n2 c2).ownBlock = some x → x < w.heap.size) := by
  obtain ⟨b', l, m, ⟨u, d, he, hu, hd⟩, -, -, -⟩ := h
  simp only [Value.agg.injEq, Array.mk.injEq, List.cons.injEq, and_true] at he
  obtain ⟨-, rfl, rfl⟩ := he
  exact ⟨fun e => hu.own_lt (hu.ne0.2 e), fun e => hd.own_lt (hd.ne0.2 e)⟩

/-- A list of fractions of the call's own, its words in other blocks than the list. -/
def OFs (N : Nat) (w : World) (base : Nat) (v : Value) (qs : List Rat) : Prop :=
  ∃ xs, w.ownsRow base 34 3 v qs.length xs ∧ ∀ j q, qs[j]? = some q → ∃ b a1 n1 c1 a2 n2 c2, xs[j * 3]? = some (.bool b) ∧ xs[j * 3 + 1]? = some (.slice a1 n1 c1) ∧ xs[j * 3 + 2]? = some (.slice a2 n2 c2) ∧
    FewF N w (.agg #[.bool b, .slice a1 n1 c1, .slice a2 n2 c2]) q ∧ (n1 ≠ 0 → ∀ x, (Value.slice a1 n1 c1).ownBlock = some x → v.ownBlock ≠ some x) ∧ (n2 ≠ 0 → ∀ x, (Value.slice a2 n2 c2).ownBlock = some x → v.ownBlock ≠ some x)
theorem OFs.below {N : Nat} {w w' : World} {base : Nat} {v : Value} {qs : List Rat} (h : OFs N w base v qs) (hb : Below w.heap.size w w') : OFs N w' base v qs := by
  obtain ⟨xs, ho, he⟩ := h
  refine ⟨xs, World.ownsRow.kept (row := none) ho ⟨hb.os, hb.tape, hb.output, hb.size, fun k hk _ => hb.block k hk⟩ (by cases hv : v.ownBlock <;> simp), fun j q hq => ?_⟩
  obtain ⟨b, a1, n1, c1, a2, n2, c2, h0, h1, h2, hf, g1, g2⟩ := he j q hq
  exact ⟨b, a1, n1, c1, a2, n2, c2, h0, h1, h2, hf.below hb, g1, g2⟩
theorem OFs.nil (N : Nat) (w : World) (base : Nat) : OFs N w base (.slice none 0 0) [] := ⟨[], World.ownsRow_nil w base _ 3, fun j q h => by simp at h⟩
theorem OFs.list {N : Nat} {w : World} {base : Nat} {v : Value} {qs : List Rat} (h : OFs N w base v qs) : ListF N w v qs := by
  obtain ⟨xs, ho, he⟩ := h
  have hcells := fun g hg => World.ownsRow.cells ho (g := g) hg
  rcases ho.2 with ⟨rfl, h0⟩ | ⟨g, cap, cur, rfl, _, _, _, _, _, _⟩
  · refine ⟨none, 0, by rw [h0], fun i q hq => ?_⟩
    have := List.eq_nil_of_length_eq_zero h0
    subst this
    simp at hq
  · refine ⟨_, cap, rfl, fun i q hq => ?_⟩
    obtain ⟨b, a1, n1, c1, a2, n2, c2, h0, h1, h2, hf, -, -⟩ := he i q hq
    have k0 := hcells g rfl _ _ h0
    have k1 := hcells g rfl _ _ h1
    have k2 := hcells g rfl _ _ h2
    rw [Addr.add_lit] at k0 k1 k2
    exact ⟨g, 0, b, a1, n1, c1, a2, n2, c2, rfl, k0, by rw [Nat.add_assoc]; exact k1, by rw [Nat.add_assoc]; exact k2, hf⟩
theorem OFs.form {N : Nat} {w : World} {base : Nat} {v : Value} {qs : List Rat} (h : OFs N w base v qs) : ∃ a n c, v = .slice a n c := by
  obtain ⟨xs, ho, -⟩ := h
  rcases ho.2 with ⟨rfl, -⟩ | ⟨g, cap, cur, rfl, -⟩
  · exact ⟨_, _, _, rfl⟩
  · exact ⟨_, _, _, rfl⟩
theorem info_frac : (Try.prog.info? 34).map (fun i => (i.zero, i.size, i.bytes)) = some (some (.agg #[Value.bool false, Value.slice none 0 0, Value.slice none 0 0]), 3, 56) := by kernel_rfl
/-- One more. -/
theorem OFs.push {N : Nat} {w w' : World} {base : Nat} {v v' : Value} {qs : List Rat} {q : Rat} {xs : List Value} {b : Bool} {a1 a2 : Option Addr} {n1 c1 n2 c2 : Nat}
    (he : ∀ j q, qs[j]? = some q → ∃ b a1 n1 c1 a2 n2 c2, xs[j * 3]? = some (.bool b) ∧ xs[j * 3 + 1]? = some (.slice a1 n1 c1) ∧ xs[j * 3 + 2]? = some (.slice a2 n2 c2) ∧
      FewF N w (.agg #[.bool b, .slice a1 n1 c1, .slice a2 n2 c2]) q ∧ (n1 ≠ 0 → ∀ x, (Value.slice a1 n1 c1).ownBlock = some x → v.ownBlock ≠ some x) ∧ (n2 ≠ 0 → ∀ x, (Value.slice a2 n2 c2).ownBlock = some x → v.ownBlock ≠ some x))
    (hxl : xs.length = qs.length * 3) (hf : FewF N w (.agg #[.bool b, .slice a1 n1 c1, .slice a2 n2 c2]) q) (g1 : n1 ≠ 0 → ∀ x, (Value.slice a1 n1 c1).ownBlock = some x → v.ownBlock ≠ some x) (g2 : n2 ≠ 0 → ∀ x, (Value.slice a2 n2 c2).ownBlock = some x → v.ownBlock ≠ some x)
    (hg : w.grownBy w' v.ownBlock) (hv : v'.ownBlock = v.ownBlock ∨ v'.ownBlock = some w.heap.size) (ho : w'.ownsRow base 34 3 v' (qs.length + 1) (xs ++ [.bool b, .slice a1 n1 c1, .slice a2 n2 c2])) : OFs N w' base v' (qs ++ [q]) := by
  have keep : ∀ {b : Bool} {a1 a2 : Option Addr} {n1 c1 n2 c2 : Nat} {q : Rat}, FewF N w (.agg #[.bool b, .slice a1 n1 c1, .slice a2 n2 c2]) q → (n1 ≠ 0 → ∀ x, (Value.slice a1 n1 c1).ownBlock = some x → v.ownBlock ≠ some x) → (n2 ≠ 0 → ∀ x, (Value.slice a2 n2 c2).ownBlock = some x → v.ownBlock ≠ some x) →
      FewF N w' (.agg #[.bool b, .slice a1 n1 c1, .slice a2 n2 c2]) q ∧ (n1 ≠ 0 → ∀ x, (Value.slice a1 n1 c1).ownBlock = some x → v'.ownBlock ≠ some x) ∧ (n2 ≠ 0 → ∀ x, (Value.slice a2 n2 c2).ownBlock = some x → v'.ownBlock ≠ some x) := by
    intro b a1 a2 n1 c1 n2 c2 q hf g1 g2
    have hl := hf.own
    refine ⟨hf.keep hg.size (fun hn x hx => hg.block x (hl.1 hn x hx) (fun e => g1 hn x hx e.symm)) (fun hn x hx => hg.block x (hl.2 hn x hx) (fun e => g2 hn x hx e.symm)), fun hn x hx e => ?_, fun hn x hx e => ?_⟩
    · rcases hv with h | h
      · exact g1 hn x hx (by rw [← h]; exact e)
      · rw [h] at e; have := hl.1 hn x hx; simp at e; omega
    · rcases hv with h | h
      · exact g2 hn x hx (by rw [← h]; exact e)
      · rw [h] at e; have := hl.2 hn x hx; simp at e; omega
  refine ⟨xs ++ [.bool b, .slice a1 n1 c1, .slice a2 n2 c2], by simpa using ho, fun j r hr => ?_⟩
  by_cases hj : j < qs.length
  · rw [List.getElem?_append_left hj] at hr
    obtain ⟨b', a1', n1', c1', a2', n2', c2', h0, h1, h2, hf', k1, k2⟩ := he j r hr
    obtain ⟨m1, m2, m3⟩ := keep hf' k1 k2
    exact ⟨b', a1', n1', c1', a2', n2', c2', by rw [List.getElem?_append_left (by omega)]; exact h0, by rw [List.getElem?_append_left (by omega)]; exact h1, by rw [List.getElem?_append_left (by omega)]; exact h2, m1, m2, m3⟩
  · have hjl : j = qs.length := by
      have h9 := (List.getElem?_eq_some_iff.1 hr).1
      simp at h9; omega
    subst hjl
    simp at hr
    subst hr
    obtain ⟨m1, m2, m3⟩ := keep hf g1 g2
    refine ⟨b, a1, n1, c1, a2, n2, c2, ?_, ?_, ?_, m1, m2, m3⟩
    · rw [List.getElem?_append_right (by omega), hxl]; simp
    · rw [List.getElem?_append_right (by omega), hxl, show qs.length * 3 + 1 - qs.length * 3 = 1 by omega]; rfl
    · rw [List.getElem?_append_right (by omega), hxl, show qs.length * 3 + 2 - qs.length * 3 = 2 by omega]; rfl

end Go.Proofs.Ytlaphdlocchagaa

/- FracLists answers true at every input, and what it is handed reads behind the call as it read before: the sum, the dot product, the least and the most of any lists are told as the reference tells them. No conditions. -/
namespace Go.Proofs.Ytlaphdlocchagaa
open Go.RowKit
attribute [local go_sem ↓] Go.wp_at_zero Go.wp_at_succ

/-- How many words a fraction of a list has above (k = 1) or below (k = 2). -/
def cellLen (w : World) (a : Option Addr) (k i : Nat) : Nat :=
  match a with
  | none => 0
  | some x => match w.cell? ⟨x.block, x.off + i * 3 + k, none⟩ with
    | some (.slice _ n _) => n
    | _ => 0
theorem ListI.cells {w : World} {v : Value} {a : Option Addr} {n c : Nat} (h : ListI w v a n c) {i : Nat} (hi : i < n) :
    ∃ B off b a1 c1 a2 c2, a = some ⟨B, off, none⟩ ∧ w.cell? ⟨B, off + i * 3, none⟩ = some (.bool b) ∧ w.cell? ⟨B, off + i * 3 + 1, none⟩ = some (.slice a1 (cellLen w a 1 i) c1) ∧ w.cell? ⟨B, off + i * 3 + 2, none⟩ = some (.slice a2 (cellLen w a 2 i) c2) ∧
      FracI w (.agg #[.bool b, .slice a1 (cellLen w a 1 i) c1, .slice a2 (cellLen w a 2 i) c2]) b a1 (cellLen w a 1 i) c1 a2 (cellLen w a 2 i) c2 := by
  obtain ⟨B, off, b, a1, n1, c1, a2, n2, c2, rfl, h0, h1, h2, hF⟩ := h.2 i hi
  have e1 : cellLen w (some ⟨B, off, none⟩) 1 i = n1 := by simp only [cellLen, h1]
  have e2 : cellLen w (some ⟨B, off, none⟩) 2 i = n2 := by simp only [cellLen, h2]
  rw [e1, e2]
  exact ⟨B, off, b, a1, c1, a2, c2, rfl, h0, h1, h2, hF⟩
theorem ListI.listF {w : World} {v : Value} {a : Option Addr} {n c N : Nat} (h : ListI w v a n c) (hN : N ≤ 1073741824) (hf : fewB N n (cellLen w a 1) (cellLen w a 2) = true) :
    ∃ qs, n = qs.length ∧ ListF N w (.slice a n c) qs := by
  have hf' : ∀ i, i < n → cellLen w a 1 i ≤ N ∧ cellLen w a 2 i ≤ N := by simpa [fewB] using hf
  have build : ∀ k, k ≤ n → ∃ qs : List Rat, qs.length = k ∧ ∀ i q, qs[i]? = some q → ∃ B off b a1 n1 c1 a2 n2 c2, a = some ⟨B, off, none⟩ ∧ w.cell? ⟨B, off + i * 3, none⟩ = some (.bool b) ∧ w.cell? ⟨B, off + i * 3 + 1, none⟩ = some (.slice a1 n1 c1) ∧ w.cell? ⟨B, off + i * 3 + 2, none⟩ = some (.slice a2 n2 c2) ∧ FewF N w (.agg #[.bool b, .slice a1 n1 c1, .slice a2 n2 c2]) q := by
    intro k
    induction k with
    | zero => intro _; exact ⟨[], rfl, fun i q hq => by simp at hq⟩
    | succ k ih =>
      intro hk
      obtain ⟨qs, hl, hqs⟩ := ih (by omega)
      obtain ⟨B, off, b, a1, c1, a2, c2, ha, h0, h1, h2, hF⟩ := h.cells (i := k) (by omega)
      obtain ⟨q, hq⟩ := hF.few hN (hf' k (by omega)).1 (hf' k (by omega)).2
      refine ⟨qs ++ [q], by simp [hl], fun i r hr => ?_⟩
      by_cases hi : i < qs.length
      · rw [List.getElem?_append_left hi] at hr
        exact hqs i r hr
      · have hik : i = k := by
          have h9 := (List.getElem?_eq_some_iff.1 hr).1
          simp at h9; omega
        subst hik
        rw [← hl] at hr
        simp at hr
        subst hr
        exact ⟨B, off, b, a1, _, c1, a2, _, c2, ha, h0, h1, h2, hq⟩
  obtain ⟨qs, hl, hqs⟩ := build n (Nat.le_refl _)
  exact ⟨qs, hl.symm, a, c, by rw [hl], hqs⟩
theorem ListF.form9 {N : Nat} {w : World} {v : Value} {qs : List Rat} (h : ListF N w v qs) : ∃ a n c, v = .slice a n c := by
  obtain ⟨a, c, rfl, -⟩ := h
  exact ⟨_, _, _, rfl⟩

/-- How long the sums are. -/
theorem sz_nth {N : Nat} {w : World} {v : Value} {qs : List Rat} (h : ListF N w v qs) {i : Nat} (hi : i < qs.length) : szQ N 1 (nthQ qs i) := by
  obtain ⟨a, c, rfl, h⟩ := h
  obtain ⟨B, off, b, a1, n1, c1, a2, n2, c2, -, -, -, -, hf⟩ := h i _ (List.getElem?_eq_getElem hi)
  rw [nthQ_of (List.getElem?_eq_getElem hi)]
  exact few_sz hf
theorem len_sums {N : Nat} {w : World} {v : Value} {qs : List Rat} (h : ListF N w v qs) (hN : N ≤ 50) (hn : qs.length ≤ 20) : lenQ (sumR (nthQ qs) 0 qs.length) ≤ 4096 := by
  have h1 := sz_len (sz_sum (g := nthQ qs) (lo := 0) (n := qs.length) fun i _ hi => sz_nth h (i := i) (by omega)) (by omega)
  have h2 : N * qs.length ≤ 50 * 20 := Nat.mul_le_mul hN hn
  omega
theorem len_dots {N : Nat} {w : World} {v v' : Value} {qs ps : List Rat} (h : ListF N w v qs) (h' : ListF N w v' ps) (hN : N ≤ 50) (hn : qs.length ≤ 20) : lenQ (sumR (fun i => nthQ qs i * nthQ ps i) 0 (min qs.length ps.length)) ≤ 4096 := by
  have h1 := sz_len (sz_sum (g := fun i => nthQ qs i * nthQ ps i) (lo := 0) (n := min qs.length ps.length) fun i _ hi => sz_mul (sz_nth h (i := i) (by omega)) (sz_nth h' (i := i) (by omega))) (by omega)
  have h2 : (2 * N) * min qs.length ps.length ≤ 100 * 20 := Nat.mul_le_mul (by omega) (by omega)
  omega

end Go.Proofs.Ytlaphdlocchagaa
