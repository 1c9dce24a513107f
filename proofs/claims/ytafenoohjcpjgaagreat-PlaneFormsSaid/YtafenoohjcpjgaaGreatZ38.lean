/- Several texts in one: Yi. -/
import Derived.Test.YtafenoohjcpjgaaGreatZ37
import Derived.Test.YtafenoohjcpjgaaGreatZ28
import Derived.Deep.RegionHeld3
import Derived.Deep.DrawnRows
/- Equal programs: sameProg. -/
namespace Go.Proofs.YtafenoohjcpjgaaGreat
open Go.RowKit
attribute [local go_sem ↓] Go.wp_at_zero Go.wp_at_succ

theorem one_lens {q : Rat} (h : lenQ q ≤ 4096) : ∀ i, i < [q].length → lenQ (nthQ [q] i) ≤ 4096 := by
  intro i hi
  have h0 : i = 0 := by simp at hi; omega
  subst h0
  exact h
theorem one_cell {w : World} {g : Nat} {b : Bool} {a1 a2 : Option Addr} {n1 c1 n2 c2 : Nat} (hr : w.heap[g]? = some (.cells #[Value.bool b, Value.slice a1 n1 c1, Value.slice a2 n2 c2] 43 (0, 0))) :
    w.cell? ⟨g, 0, none⟩ = some (.bool b) ∧ w.cell? ⟨g, 1, none⟩ = some (.slice a1 n1 c1) ∧ w.cell? ⟨g, 2, none⟩ = some (.slice a2 n2 c2) :=
  ⟨by rw [cell_of_row _ _ _ _ _ _ hr]; rfl, by rw [cell_of_row _ _ _ _ _ _ hr]; rfl, by rw [cell_of_row _ _ _ _ _ _ hr]; rfl⟩
theorem listV_one {w : World} {g : Nat} {b : Bool} {a1 a2 : Option Addr} {n1 c1 n2 c2 : Nat} {q : Rat} (hr : w.heap[g]? = some (.cells #[Value.bool b, Value.slice a1 n1 c1, Value.slice a2 n2 c2] 43 (0, 0))) (hf : FracV w (.agg #[.bool b, .slice a1 n1 c1, .slice a2 n2 c2]) q) : ListV w (.slice (some ⟨g, 0, none⟩) 1 1) [q] := by
  refine ⟨g, rfl, fun _ => (.bool b, .slice a1 n1 c1, .slice a2 n2 c2), ⟨_, hr, rfl, fun i hi => ?_⟩, fun i hi => ⟨_, _, _, _, _, _, _, rfl, fun _ => ?_⟩⟩
  · have h0 : i = 0 := by simp at hi; omega
    subst h0
    exact ⟨rfl, rfl, rfl⟩
  · have h0 : i = 0 := by simp at hi; omega
    subst h0
    exact hf
theorem listF_one {N : Nat} {w : World} {g : Nat} {b : Bool} {a1 a2 : Option Addr} {n1 c1 n2 c2 : Nat} {q : Rat} (hr : w.heap[g]? = some (.cells #[Value.bool b, Value.slice a1 n1 c1, Value.slice a2 n2 c2] 43 (0, 0))) (hf : FewF N w (.agg #[.bool b, .slice a1 n1 c1, .slice a2 n2 c2]) q) : ListF N w (.slice (some ⟨g, 0, none⟩) 1 1) [q] := by
  obtain ⟨k0, k1, k2⟩ := one_cell hr
  refine ⟨_, 1, rfl, fun i q' hi => ?_⟩
  have h0 : i = 0 := by
    have := (List.getElem?_eq_some_iff.1 hi).1
    simp at this; omega
  subst h0
  simp at hi
  subst hi
  exact ⟨g, 0, b, a1, n1, c1, a2, n2, c2, rfl, k0, k1, k2, hf⟩
set_option maxRecDepth 8000 in
theorem same_nil {w : World} : Calls Tryz.prog 35 #[.slice none 0 0, .slice none 0 0] w fun e w' => e = .returned (.bool true) ∧ Below w.heap.size w w' := by
  go_enter Tryz.func35, Tryz.ntmps35
  go_wp2_with fail
  go_loopw [14] (fun iv wr => iv = .int .i64 0 ∧ Hid (Below w.heap.size w wr)) (fun iv _ => 0)
  case atStart => exact ⟨rfl, Lib.hid (Below.refl _ _)⟩
  case round =>
    obtain ⟨rfl, hZ⟩ := hrel
    go_wp2_with fail
    go_ret
    exact ⟨rfl, hZ.out⟩
set_option maxRecDepth 100000 in
set_option maxHeartbeats 4000000 in
set_option linter.unusedSimpArgs false in
theorem same_prog {N base : Nat} {w : World} {v v' : Value} {P : Pm} (ha : ProgN rkV w base v P) (hb : ProgF N w v' P) (hN : N ≤ 2048) (hs : SmallP 4096 P) (hf : P.free.length ≤ 1000) (hg : P.goal.length ≤ 1000) (hr : P.rows.length ≤ 1000) (hrl : ∀ (i : Nat) (r : List Rat × Int × Rat), P.rows[i]? = some r → r.1.length ≤ 1000) :
    Calls Tryz.prog 12 #[v, v'] w fun e w' => e = .returned (.bool true) ∧ Below w.heap.size w w' := by
  obtain ⟨fa, fc, ga, gc, oa, oc, mid, rfl, hB, hG, hR, -, -, -, -⟩ := ha
  obtain ⟨fa', fc', ga', gc', ra', rc', rfl, -, -, hB', hG', hR'⟩ := hb
  have HG0 : Hid (ListV w (.slice ga P.goal.length gc) P.goal) := Lib.hid hG
  have HB0 := Lib.hid hB
  have HB0' := Lib.hid hB'
  have HR0 := Lib.hid hR
  have HR0' := Lib.hid hR'
  have HS := Lib.hid hs
  have HN := Lib.hid hN
  have HRL := Lib.hid hrl
  have KSG := Lib.hid (fun w' (hb : Below w.heap.size w w') => same_list (w := w') (HG0.out.below hb) (hG'.below hb) hN hg (fun i hi => hs.1 i hi))
  obtain ⟨z, hz⟩ : ∃ z, z = P.vars := ⟨_, rfl⟩
  obtain ⟨fn, hfn⟩ : ∃ n, n = P.free.length := ⟨_, rfl⟩
  obtain ⟨gn, hgn⟩ : ∃ n, n = P.goal.length := ⟨_, rfl⟩
  obtain ⟨rn, hrn⟩ : ∃ n, n = P.rows.length := ⟨_, rfl⟩
  simp only [← hz, ← hfn, ← hgn, ← hrn] at KSG HR0 hf hg hr ⊢
  have HEQ := Lib.hid (And.intro hz (And.intro hfn (And.intro hgn hrn)))
  have tz : (z != z) = false := by simp
  have tf : ((fn : Int) != (fn : Int)) = false := by simp
  have tr : ((rn : Int) != (rn : Int)) = false := by simp
  clear hB hB' hG hG' hR hR' hs hN hrl HG0 hz hfn hgn hrn
  obtain ⟨w1, hw1⟩ : ∃ w1, w1 = (w.alloc (Obj.cells #[Value.int .i64 z, Value.slice fa fn fc, Value.slice ga gn gc, Value.slice oa rn oc] 26)).alloc (Obj.cells #[Value.int .i64 z, Value.slice fa' fn fc', Value.slice ga' gn gc', Value.slice ra' rn rc'] 26) := ⟨_, rfl⟩
  have HB1 : Hid (Below w.heap.size w w1) := Lib.hid (by rw [hw1]; exact ((Below.refl _ _).alloc (Nat.le_refl _) _).alloc (by simp) _)
  have HX1 : Hid (w1.heap[w.heap.size]? = some (.cells #[Value.int .i64 z, Value.slice fa fn fc, Value.slice ga gn gc, Value.slice oa rn oc] 26 (0, 0))) := Lib.hid (by rw [hw1]; exact heap_alloc2_old w _ _)
  have HO1 : Hid (w1.heap[w.heap.size + 1]? = some (.cells #[Value.int .i64 z, Value.slice fa' fn fc', Value.slice ga' gn gc', Value.slice ra' rn rc'] 26 (0, 0))) := Lib.hid (by rw [hw1]; exact heap_alloc2_new w _ _)
  have HW1 := Lib.hid hw1.symm
  clear hw1
  have RX := Lib.hid (cells_later HX1.out)
  have RY := Lib.hid (cells_later HO1.out)
  have hb1 := Below.refl w1.heap.size w1
  have x0 := RX.out 0 _ rfl _ hb1
  have x1 := RX.out 1 _ rfl _ hb1
  have x2 := RX.out 2 _ rfl _ hb1
  have x3 := RX.out 3 _ rfl _ hb1
  have y0 := RY.out 0 _ rfl _ hb1
  have y1 := RY.out 1 _ rfl _ hb1
  have y2 := RY.out 2 _ rfl _ hb1
  have y3 := RY.out 3 _ rfl _ hb1
  go_enter Tryz.func12, Tryz.ntmps12
  go_wp2_with fail
  rw [HW1.out]
  refine (KSG.out _ HB1.out).mono ?_
  rintro en2 w2 ⟨rfl, hb2⟩
  have HZ2 := Lib.hid hb2
  have x1 := RX.out 1 _ rfl _ hb2
  clear hb2 x0 x2 x3 y0 y1 y2 y3
  go_wp2_with fail
  clear x1
  go_loopw [43] (fun iv wr => ∃ i : Nat, i ≤ fn ∧ iv = .int .i64 i ∧ Hid (Below w1.heap.size w1 wr)) (fun iv _ => fn - (intOf iv).toNat)
  case atStart => exact ⟨0, Nat.zero_le _, rfl, HZ2⟩
  case round =>
    obtain ⟨i, hi, rfl, hZ⟩ := hrel
    obtain ⟨wo, rfl⟩ : ∃ wo : World, wo = wr := ⟨_, rfl⟩
    by_cases hin : i < fn
    · have t0 : decide ((i : Int) < (fn : Int)) = true := by simp; omega
      obtain ⟨b, B, off, hbi, hab, hcb⟩ := HB0.out.at (i := i) (by have := HEQ.out; omega)
      obtain ⟨b', B', off', hbi', hab', hcb'⟩ := HB0'.out.at (i := i) (by have := HEQ.out; omega)
      obtain rfl : b' = b := by rw [hbi] at hbi'; exact (Option.some.inj hbi').symm
      subst hab
      subst hab'
      have e1 := hcb wo (below_trans HB1.out hZ.out)
      have e2 := hcb' wo (below_trans HB1.out hZ.out)
      have y1 := RY.out 1 _ rfl _ hZ.out
      have tb : (b' != b') = false := by simp
      clear hbi hbi' hcb hcb'
      go_wp2_with fail
      go_roundw
      case rel => exact ⟨i + 1, by omega, by go_num, hZ⟩
      case measure => simp [intOf]; omega
    · have t0 : decide ((i : Int) < (fn : Int)) = false := by simp; omega
      have x3 := RX.out 3 _ rfl _ hZ.out
      have HZ3 := hZ
      go_wp2_with fail
      clear x3 t0 hZ hin hi
      go_loopw [59] (fun iv wr => ∃ i : Nat, i ≤ rn ∧ iv = .int .i64 i ∧ Hid (Below w1.heap.size w1 wr)) (fun iv _ => rn - (intOf iv).toNat)
      case atStart => exact ⟨0, Nat.zero_le _, rfl, HZ3⟩
      case round =>
        obtain ⟨i, hi, rfl, hZ⟩ := hrel
        obtain ⟨wo, rfl⟩ : ∃ wo : World, wo = wr := ⟨_, rfl⟩
        by_cases hin : i < rn
        · have t0 : decide ((i : Int) < (rn : Int)) = true := by simp; omega
          obtain ⟨r, B, off, ar, nr, cr, b, a2, n2, c2, a3, n3, c3, hri, hab, hcb, hl, hf9, -⟩ := HR0.out.at (i := i) hin
          obtain ⟨r', B', off', a1', c1', b', a2', n2', c2', a3', n3', c3', hri', hab', hl', hf9', -, -, hcb'⟩ := HR0'.out.at (i := i) (by have := HEQ.out; omega)
          obtain rfl : r' = r := by rw [hri] at hri'; exact (Option.some.inj hri').symm
          subst hab
          subst hab'
          have hlv : ListV w (.slice ar nr cr) r'.1 := hl
          obtain ⟨ar9, hq9⟩ := hlv.form
          simp only [Value.slice.injEq] at hq9
          obtain ⟨-, hnr, hcr⟩ := hq9
          have hfv : FracV w (.agg #[.bool b, .slice a2 n2 c2, .slice a3 n3 c3]) r'.2.2 := hf9
          have HLB9 := (HS.out.2 i r' hri).2
          have HLL9 := (HS.out.2 i r' hri).1
          have hrl9 := HRL.out i r' hri
          obtain ⟨rl, hrl⟩ : ∃ x, x = r'.1.length := ⟨_, rfl⟩
          rw [← hrl] at hnr hcr hcb' hl'
          have hnr : rl = nr := hnr.symm
          have hcr : rl = cr := hcr.symm
          subst hnr
          subst hcr
          obtain ⟨sn, hsn⟩ : ∃ x, x = r'.2.1 := ⟨_, rfl⟩
          rw [← hsn] at hcb hcb'
          obtain ⟨q, hq⟩ : ∃ q, q = r'.2.2 := ⟨_, rfl⟩
          rw [← hq] at hfv hf9' HLB9
          have hW := below_trans HB1.out hZ.out
          obtain ⟨f0, f1, f2, f3, f4⟩ := hcb wo hW
          have HFV := Lib.hid hfv
          have HFF := Lib.hid hf9'
          have HLV := Lib.hid hlv
          have HLF := Lib.hid hl'
          have HLB0 := Lib.hid HLB9
          have HLL0 := Lib.hid HLL9
          have HRL0 : Hid (r'.1.length ≤ 1000) := Lib.hid hrl9
          have HCR0 := Lib.hid hcb'
          have HW := Lib.hid hW
          have tsn : (sn != sn) = false := by simp
          clear hcb hcb' hri hri' hl hl' hf9 hf9' hlv hfv HLB9 HLL9 hrl9 hrl hsn hq hW
          go_wp2_with ((with_reducible refine at_store ?_); refine wpList_store_var rfl _ _ _ rfl wo.heap.size rfl _ rfl _ _ (heap_alloc_new _ _) irow rfl row_one ?_; intro w5 h5 hon5; refine halt ?_)
          have hb5 : Below wo.heap.size wo w5 := below_only ((Below.refl _ _).alloc (Nat.le_refl _) _) hon5 (Nat.le_refl _)
          have HB5 := Lib.hid hb5
          have RR := Lib.hid (cells_later h5)
          have RYW := Lib.hid (fun o v h w' (hb : Below w5.heap.size w5 w') => RY.out o v h w' (below_trans hZ.out (below_trans HB5.out hb)))
          have HW5 := Lib.hid (fun w' (hb : Below w5.heap.size w5 w') => below_trans HW.out (below_trans HB5.out hb))
          have HCR := Lib.hid (fun w' (hb : Below w5.heap.size w5 w') => HCR0.out w' (HW5.out w' hb))
          have KSL := Lib.hid (fun w' (hb : Below w5.heap.size w5 w') => same_list (w := w') (HLV.out.below (HW5.out w' hb)) (HLF.out.below (HW5.out w' hb)) HN.out HRL0.out HLL0.out)
          have HFA : Hid (FracV w5 (.agg #[.bool b, .slice a2 n2 c2, .slice a3 n3 c3]) q) := Lib.hid (HFV.out.below (HW5.out w5 (Below.refl _ _)))
          have HFB : Hid (FewF N w5 (.agg #[.bool b', .slice a2' n2' c2', .slice a3' n3' c3']) q) := Lib.hid (HFF.out.below (HW5.out w5 (Below.refl _ _)))
          have HLB : Hid (lenQ q ≤ 4096) := Lib.hid HLB0.out
          clear h5 hon5 hb5 f0 f1 f2 f3 f4
          refine go_on ?_
          have hz : Below w5.heap.size w5 w5.drew := below_drewN (Below.refl _ _) 1
          go_wp2_with fail
          refine wp_region_held_drew (S := (fun w' => w'.cell? ⟨wo.heap.size, 0, none⟩ = some (.slice ar rl rl) ∧ w'.cell? ⟨wo.heap.size, 1, none⟩ = some (.int .i64 sn) ∧ w'.cell? ⟨wo.heap.size, 2, none⟩ = some (.bool b) ∧ w'.cell? ⟨wo.heap.size, 3, none⟩ = some (.slice a2 n2 c2) ∧ w'.cell? ⟨wo.heap.size, 4, none⟩ = some (.slice a3 n3 c3) ∧ w'.cell? ⟨w.heap.size + 1, 3, none⟩ = some (.slice (some ⟨B', off', none⟩) rn rc') ∧ w'.cell? ⟨B', off' + i * 5, none⟩ = some (.slice a1' rl c1') ∧ w'.cell? ⟨B', off' + i * 5 + 1, none⟩ = some (.int .i64 sn) ∧ w'.cell? ⟨B', off' + i * 5 + 2, none⟩ = some (.bool b') ∧ w'.cell? ⟨B', off' + i * 5 + 3, none⟩ = some (.slice a2' n2' c2') ∧ w'.cell? ⟨B', off' + i * 5 + 4, none⟩ = some (.slice a3' n3' c3'))) (by kernel_rfl) ?_ (fun hHeld => ?_)
          · (try dsimp only); refine ⟨?_, ?_, ?_, ?_, ?_, ?_, ?_, ?_, ?_, ?_, ?_⟩ <;> (first | exact RR.out 0 _ rfl _ (by assumption) | exact RR.out 1 _ rfl _ (by assumption) | exact RR.out 2 _ rfl _ (by assumption) | exact RR.out 3 _ rfl _ (by assumption) | exact RR.out 4 _ rfl _ (by assumption) | exact RYW.out 3 _ rfl _ (by assumption) | exact (HCR.out _ (by assumption)).1 | exact (HCR.out _ (by assumption)).2.1 | exact (HCR.out _ (by assumption)).2.2.1 | exact (HCR.out _ (by assumption)).2.2.2.1 | exact (HCR.out _ (by assumption)).2.2.2.2)
          refine wpAnyH_take (i := 0) (oi := _) (v := ?_) rfl (by kernel_rfl) (by kernel_rfl) (by kernel_rfl) (fun _ _ _ h => h) (Or.inl ⟨by kernel_rfl, ?_⟩) (by assumption) ?_
          rotate_left
          · intro w hSw
            (try dsimp only at hSw)
            go_simp
            try with_reducible rfl
          try simp only [Act.put, List.getElem_toArray, List.getElem_cons_zero, List.getElem_cons_succ, List.setIfInBounds_toArray, List.set_cons_zero, List.set_cons_succ]
          refine wpAnyH_take (i := 1) (oi := _) (v := ?_) rfl (by kernel_rfl) (by kernel_rfl) (by kernel_rfl) (fun _ _ _ h => h) (Or.inl ⟨by kernel_rfl, ?_⟩) (by assumption) ?_
          rotate_left
          · intro w hSw
            (try dsimp only at hSw)
            go_simp
            try with_reducible rfl
          try simp only [Act.put, List.getElem_toArray, List.getElem_cons_zero, List.getElem_cons_succ, List.setIfInBounds_toArray, List.set_cons_zero, List.set_cons_succ]
          refine wpAnyH_take (i := 2) (oi := _) (v := ?_) rfl (by kernel_rfl) (by kernel_rfl) (by kernel_rfl) (fun _ _ _ h => h) (Or.inl ⟨by kernel_rfl, ?_⟩) (by assumption) ?_
          rotate_left
          · intro w hSw
            (try dsimp only at hSw)
            go_simp
            try with_reducible rfl
          try simp only [Act.put, List.getElem_toArray, List.getElem_cons_zero, List.getElem_cons_succ, List.setIfInBounds_toArray, List.set_cons_zero, List.set_cons_succ]
          refine wpAnyH_take (i := 3) (oi := _) (v := ?_) rfl (by kernel_rfl) (by kernel_rfl) (by kernel_rfl) (fun _ _ _ h => h) (Or.inl ⟨by kernel_rfl, ?_⟩) (by assumption) ?_
          rotate_left
          · intro w hSw
            (try dsimp only at hSw)
            go_simp
            try with_reducible rfl
          try simp only [Act.put, List.getElem_toArray, List.getElem_cons_zero, List.getElem_cons_succ, List.setIfInBounds_toArray, List.set_cons_zero, List.set_cons_succ]
          refine wpAnyH_take (i := 4) (oi := _) (v := ?_) rfl (by kernel_rfl) (by kernel_rfl) (by kernel_rfl) (fun _ _ _ h => h) (Or.inl ⟨by kernel_rfl, ?_⟩) (by assumption) ?_
          rotate_left
          · intro w hSw
            (try dsimp only at hSw)
            go_simp
            try with_reducible rfl
          try simp only [Act.put, List.getElem_toArray, List.getElem_cons_zero, List.getElem_cons_succ, List.setIfInBounds_toArray, List.set_cons_zero, List.set_cons_succ]
          refine wpAnyH_take (i := 5) (oi := _) (v := ?_) rfl (by kernel_rfl) (by kernel_rfl) (by kernel_rfl) (fun _ _ _ h => h) (Or.inl ⟨by kernel_rfl, ?_⟩) (by assumption) ?_
          rotate_left
          · intro w hSw
            (try dsimp only at hSw)
            go_simp
            try with_reducible rfl
          try simp only [Act.put, List.getElem_toArray, List.getElem_cons_zero, List.getElem_cons_succ, List.setIfInBounds_toArray, List.set_cons_zero, List.set_cons_succ]
          refine wpAnyH_take (i := 6) (oi := _) (v := ?_) rfl (by kernel_rfl) (by kernel_rfl) (by kernel_rfl) (fun _ _ _ h => h) (Or.inl ⟨by kernel_rfl, ?_⟩) (by assumption) ?_
          rotate_left
          · intro w hSw
            (try dsimp only at hSw)
            go_simp
            try with_reducible rfl
          try simp only [Act.put, List.getElem_toArray, List.getElem_cons_zero, List.getElem_cons_succ, List.setIfInBounds_toArray, List.set_cons_zero, List.set_cons_succ]
          refine wpAnyH_take (i := 7) (oi := _) (v := ?_) rfl (by kernel_rfl) (by kernel_rfl) (by kernel_rfl) (fun _ _ _ h => h) (Or.inl ⟨by kernel_rfl, ?_⟩) (by assumption) ?_
          rotate_left
          · intro w hSw
            (try dsimp only at hSw)
            go_simp
            try with_reducible rfl
          try simp only [Act.put, List.getElem_toArray, List.getElem_cons_zero, List.getElem_cons_succ, List.setIfInBounds_toArray, List.set_cons_zero, List.set_cons_succ]
          refine wpAnyH_take (i := 8) (oi := _) (v := ?_) rfl (by kernel_rfl) (by kernel_rfl) (by kernel_rfl) (fun _ _ _ h => h) (Or.inl ⟨by kernel_rfl, ?_⟩) (by assumption) ?_
          rotate_left
          · intro w hSw
            (try dsimp only at hSw)
            go_simp
            try with_reducible rfl
          try simp only [Act.put, List.getElem_toArray, List.getElem_cons_zero, List.getElem_cons_succ, List.setIfInBounds_toArray, List.set_cons_zero, List.set_cons_succ]
          refine wpAnyH_take (i := 9) (oi := _) (v := ?_) rfl (by kernel_rfl) (by kernel_rfl) (by kernel_rfl) (fun _ _ _ h => h) (Or.inl ⟨by kernel_rfl, ?_⟩) (by assumption) ?_
          rotate_left
          · intro w hSw
            (try dsimp only at hSw)
            go_simp
            try with_reducible rfl
          try simp only [Act.put, List.getElem_toArray, List.getElem_cons_zero, List.getElem_cons_succ, List.setIfInBounds_toArray, List.set_cons_zero, List.set_cons_succ]
          refine wpAnyH_take (i := 10) (oi := _) (v := ?_) rfl (by kernel_rfl) (by kernel_rfl) (by kernel_rfl) (fun _ _ _ h => h) (Or.inl ⟨by kernel_rfl, ?_⟩) (by assumption) ?_
          rotate_left
          · intro w hSw
            (try dsimp only at hSw)
            go_simp
            try with_reducible rfl
          try simp only [Act.put, List.getElem_toArray, List.getElem_cons_zero, List.getElem_cons_succ, List.setIfInBounds_toArray, List.set_cons_zero, List.set_cons_succ]
          refine wpAnyH_take (i := 11) (oi := _) (v := ?_) rfl (by kernel_rfl) (by kernel_rfl) (by kernel_rfl) (fun _ _ _ h => h) (Or.inl ⟨by kernel_rfl, ?_⟩) (by assumption) ?_
          rotate_left
          · intro w hSw
            (try dsimp only at hSw)
            go_simp
            try with_reducible rfl
          try simp only [Act.put, List.getElem_toArray, List.getElem_cons_zero, List.getElem_cons_succ, List.setIfInBounds_toArray, List.set_cons_zero, List.set_cons_succ]
          refine wpAnyH_take (i := 12) (oi := _) (v := ?_) rfl (by kernel_rfl) (by kernel_rfl) (by kernel_rfl) (fun _ _ _ h => h) (Or.inl ⟨by kernel_rfl, ?_⟩) (by assumption) ?_
          rotate_left
          · intro w hSw
            (try dsimp only at hSw)
            go_simp
            try with_reducible rfl
          try simp only [Act.put, List.getElem_toArray, List.getElem_cons_zero, List.getElem_cons_succ, List.setIfInBounds_toArray, List.set_cons_zero, List.set_cons_succ]
          refine wpAnyH_take (i := 13) (oi := _) (v := ?_) rfl (by kernel_rfl) (by kernel_rfl) (by kernel_rfl) (fun _ _ _ h => h) (Or.inl ⟨by kernel_rfl, ?_⟩) (by assumption) ?_
          rotate_left
          · intro w hSw
            (try dsimp only at hSw)
            go_simp
            try with_reducible rfl
          try simp only [Act.put, List.getElem_toArray, List.getElem_cons_zero, List.getElem_cons_succ, List.setIfInBounds_toArray, List.set_cons_zero, List.set_cons_succ]
          refine wpAnyH_take (i := 14) (oi := _) (v := ?_) rfl (by kernel_rfl) (by kernel_rfl) (by kernel_rfl) (fun _ _ _ h => h) (Or.inl ⟨by kernel_rfl, ?_⟩) (by assumption) ?_
          rotate_left
          · intro w hSw
            (try dsimp only at hSw)
            go_simp
            try with_reducible rfl
          try simp only [Act.put, List.getElem_toArray, List.getElem_cons_zero, List.getElem_cons_succ, List.setIfInBounds_toArray, List.set_cons_zero, List.set_cons_succ]
          refine wpAnyH_take (i := 15) (oi := _) (v := ?_) rfl (by kernel_rfl) (by kernel_rfl) (by kernel_rfl) (fun _ _ _ h => h) (Or.inl ⟨by kernel_rfl, ?_⟩) (by assumption) ?_
          rotate_left
          · intro w hSw
            (try dsimp only at hSw)
            go_simp
            try with_reducible rfl
          try simp only [Act.put, List.getElem_toArray, List.getElem_cons_zero, List.getElem_cons_succ, List.setIfInBounds_toArray, List.set_cons_zero, List.set_cons_succ]
          refine wpAnyH_take (i := 16) (oi := _) (v := ?_) rfl (by kernel_rfl) (by kernel_rfl) (by kernel_rfl) (fun _ _ _ h => h) (Or.inl ⟨by kernel_rfl, ?_⟩) (by assumption) ?_
          rotate_left
          · intro w hSw
            (try dsimp only at hSw)
            go_simp
            try with_reducible rfl
          try simp only [Act.put, List.getElem_toArray, List.getElem_cons_zero, List.getElem_cons_succ, List.setIfInBounds_toArray, List.set_cons_zero, List.set_cons_succ]
          refine wpAnyH_take (i := 17) (oi := _) (v := ?_) rfl (by kernel_rfl) (by kernel_rfl) (by kernel_rfl) (fun _ _ _ h => h) (Or.inl ⟨by kernel_rfl, ?_⟩) (by assumption) ?_
          rotate_left
          · intro w hSw
            (try dsimp only at hSw)
            go_simp
            try with_reducible rfl
          try simp only [Act.put, List.getElem_toArray, List.getElem_cons_zero, List.getElem_cons_succ, List.setIfInBounds_toArray, List.set_cons_zero, List.set_cons_succ]
          refine wpAnyH_ready (rs := [18]) (by kernel_rfl) (by simp) (AllReadyH.cons (o := _) rfl (fun K hK => ?_) AllReadyH.nil)
          go_simp
          refine (KSL.out _ hz).mono ?_
          rintro en7 w7 ⟨rfl, hb7⟩
          have hz := below_trans hz hb7
          try go_wp2_with fail
          refine hK.out _ _ ?_ (fun hHeld => ?_)
          · (try dsimp only); refine ⟨?_, ?_, ?_, ?_, ?_, ?_, ?_, ?_, ?_, ?_, ?_⟩ <;> (first | exact RR.out 0 _ rfl _ (by assumption) | exact RR.out 1 _ rfl _ (by assumption) | exact RR.out 2 _ rfl _ (by assumption) | exact RR.out 3 _ rfl _ (by assumption) | exact RR.out 4 _ rfl _ (by assumption) | exact RYW.out 3 _ rfl _ (by assumption) | exact (HCR.out _ (by assumption)).1 | exact (HCR.out _ (by assumption)).2.1 | exact (HCR.out _ (by assumption)).2.2.1 | exact (HCR.out _ (by assumption)).2.2.2.1 | exact (HCR.out _ (by assumption)).2.2.2.2)
          clear hK K
          try simp only [Act.put, List.getElem_toArray, List.getElem_cons_zero, List.getElem_cons_succ, List.setIfInBounds_toArray, List.set_cons_zero, List.set_cons_succ]
          refine wpAnyH_take (i := 19) (oi := _) (v := ?_) rfl (by kernel_rfl) (by kernel_rfl) (by kernel_rfl) (fun _ _ _ h => h) (Or.inl ⟨by kernel_rfl, ?_⟩) (by assumption) ?_
          rotate_left
          · intro w hSw
            (try dsimp only at hSw)
            go_simp
            try with_reducible rfl
          try simp only [Act.put, List.getElem_toArray, List.getElem_cons_zero, List.getElem_cons_succ, List.setIfInBounds_toArray, List.set_cons_zero, List.set_cons_succ]
          refine wpAnyH_take (i := 20) (oi := _) (v := ?_) rfl (by kernel_rfl) (by kernel_rfl) (by kernel_rfl) (fun _ _ _ h => h) (Or.inl ⟨by kernel_rfl, ?_⟩) (by assumption) ?_
          rotate_left
          · intro w hSw
            (try dsimp only at hSw)
            go_simp
            try with_reducible rfl
          try simp only [Act.put, List.getElem_toArray, List.getElem_cons_zero, List.getElem_cons_succ, List.setIfInBounds_toArray, List.set_cons_zero, List.set_cons_succ]
          refine wpAnyH_take (i := 21) (oi := _) (v := ?_) rfl (by kernel_rfl) (by kernel_rfl) (by kernel_rfl) (fun _ _ _ h => h) (Or.inl ⟨by kernel_rfl, ?_⟩) (by assumption) ?_
          rotate_left
          · intro w hSw
            (try dsimp only at hSw)
            go_simp
            try with_reducible rfl
          try simp only [Act.put, List.getElem_toArray, List.getElem_cons_zero, List.getElem_cons_succ, List.setIfInBounds_toArray, List.set_cons_zero, List.set_cons_succ]
          refine wpAnyH_take (i := 22) (oi := _) (v := ?_) rfl (by kernel_rfl) (by kernel_rfl) (by kernel_rfl) (fun _ _ _ h => h) (Or.inl ⟨by kernel_rfl, ?_⟩) (by assumption) ?_
          rotate_left
          · intro w hSw
            (try dsimp only at hSw)
            go_simp
            try with_reducible rfl
          try simp only [Act.put, List.getElem_toArray, List.getElem_cons_zero, List.getElem_cons_succ, List.setIfInBounds_toArray, List.set_cons_zero, List.set_cons_succ]
          refine wpAnyH_take (i := 23) (oi := _) (v := ?_) rfl (by kernel_rfl) (by kernel_rfl) (by kernel_rfl) (fun _ _ _ h => h) (Or.inl ⟨by kernel_rfl, ?_⟩) (by assumption) ?_
          rotate_left
          · intro w hSw
            (try dsimp only at hSw)
            go_simp
            try with_reducible rfl
          try simp only [Act.put, List.getElem_toArray, List.getElem_cons_zero, List.getElem_cons_succ, List.setIfInBounds_toArray, List.set_cons_zero, List.set_cons_succ]
          refine wpAnyH_take (i := 25) (oi := _) (v := ?_) rfl (by kernel_rfl) (by kernel_rfl) (by kernel_rfl) (fun _ _ _ h => h) (Or.inl ⟨by kernel_rfl, ?_⟩) (by assumption) ?_
          rotate_left
          · intro w hSw
            (try dsimp only at hSw)
            go_simp
            try with_reducible rfl
          try simp only [Act.put, List.getElem_toArray, List.getElem_cons_zero, List.getElem_cons_succ, List.setIfInBounds_toArray, List.set_cons_zero, List.set_cons_succ]
          refine wpAnyH_take (i := 26) (oi := _) (v := ?_) rfl (by kernel_rfl) (by kernel_rfl) (by kernel_rfl) (fun _ _ _ h => h) (Or.inl ⟨by kernel_rfl, ?_⟩) (by assumption) ?_
          rotate_left
          · intro w hSw
            (try dsimp only at hSw)
            go_simp
            try with_reducible rfl
          try simp only [Act.put, List.getElem_toArray, List.getElem_cons_zero, List.getElem_cons_succ, List.setIfInBounds_toArray, List.set_cons_zero, List.set_cons_succ]
          refine wpAnyH_take (i := 27) (oi := _) (v := ?_) rfl (by kernel_rfl) (by kernel_rfl) (by kernel_rfl) (fun _ _ _ h => h) (Or.inl ⟨by kernel_rfl, ?_⟩) (by assumption) ?_
          rotate_left
          · intro w hSw
            (try dsimp only at hSw)
            go_simp
            try with_reducible rfl
          try simp only [Act.put, List.getElem_toArray, List.getElem_cons_zero, List.getElem_cons_succ, List.setIfInBounds_toArray, List.set_cons_zero, List.set_cons_succ]
          refine wpAnyH_take (i := 28) (oi := _) (v := ?_) rfl (by kernel_rfl) (by kernel_rfl) (by kernel_rfl) (fun _ _ _ h => h) (Or.inl ⟨by kernel_rfl, ?_⟩) (by assumption) ?_
          rotate_left
          · intro w hSw
            (try dsimp only at hSw)
            go_simp
            try with_reducible rfl
          try simp only [Act.put, List.getElem_toArray, List.getElem_cons_zero, List.getElem_cons_succ, List.setIfInBounds_toArray, List.set_cons_zero, List.set_cons_succ]
          refine wpAnyH_take (i := 29) (oi := _) (v := ?_) rfl (by kernel_rfl) (by kernel_rfl) (by kernel_rfl) (fun _ _ _ h => h) (Or.inl ⟨by kernel_rfl, ?_⟩) (by assumption) ?_
          rotate_left
          · intro w hSw
            (try dsimp only at hSw)
            go_simp
            try with_reducible rfl
          try simp only [Act.put, List.getElem_toArray, List.getElem_cons_zero, List.getElem_cons_succ, List.setIfInBounds_toArray, List.set_cons_zero, List.set_cons_succ]
          refine wpAnyH_take (i := 30) (oi := _) (v := ?_) rfl (by kernel_rfl) (by kernel_rfl) (by kernel_rfl) (fun _ _ _ h => h) (Or.inl ⟨by kernel_rfl, ?_⟩) (by assumption) ?_
          rotate_left
          · intro w hSw
            (try dsimp only at hSw)
            go_simp
            try with_reducible rfl
          try simp only [Act.put, List.getElem_toArray, List.getElem_cons_zero, List.getElem_cons_succ, List.setIfInBounds_toArray, List.set_cons_zero, List.set_cons_succ]
          refine wpAnyH_ready (rs := [24, 31]) (by kernel_rfl) (by simp) ?_
          refine AllReadyH.cons (o := _) rfl (fun K hK => ?_) ?_
          · go_simp
            obtain ⟨wA, hwA⟩ : ∃ w', w' = w7.alloc (Obj.cells #[Value.bool b, Value.slice a2 n2 c2, Value.slice a3 n3 c3] 43) := ⟨_, rfl⟩
            have hbA : Below w7.heap.size w7 wA := by rw [hwA]; exact (Below.refl _ _).alloc (Nat.le_refl _) _
            have hrA : wA.heap[w7.heap.size]? = some (.cells #[Value.bool b, Value.slice a2 n2 c2, Value.slice a3 n3 c3] 43 (0, 0)) := by rw [hwA]; exact heap_alloc_new w7 _
            rw [← hwA]
            clear hwA
            have hz := below_trans hz hbA
            refine hK.out _ _ ?_ (fun hHeld => ?_)
            · (try dsimp only); refine ⟨?_, ?_, ?_, ?_, ?_, ?_, ?_, ?_, ?_, ?_, ?_⟩ <;> (first | exact RR.out 0 _ rfl _ (by assumption) | exact RR.out 1 _ rfl _ (by assumption) | exact RR.out 2 _ rfl _ (by assumption) | exact RR.out 3 _ rfl _ (by assumption) | exact RR.out 4 _ rfl _ (by assumption) | exact RYW.out 3 _ rfl _ (by assumption) | exact (HCR.out _ (by assumption)).1 | exact (HCR.out _ (by assumption)).2.1 | exact (HCR.out _ (by assumption)).2.2.1 | exact (HCR.out _ (by assumption)).2.2.2.1 | exact (HCR.out _ (by assumption)).2.2.2.2)
            clear hK K
            try simp only [Act.put, List.getElem_toArray, List.getElem_cons_zero, List.getElem_cons_succ, List.setIfInBounds_toArray, List.set_cons_zero, List.set_cons_succ]
            refine wpAnyH_ready (rs := [31]) (by kernel_rfl) (by simp) (AllReadyH.cons (o := _) rfl (fun K hK => ?_) AllReadyH.nil)
            go_simp
            obtain ⟨wD, hwD⟩ : ∃ w', w' = wA.alloc (Obj.cells #[Value.bool b', Value.slice a2' n2' c2', Value.slice a3' n3' c3'] 43) := ⟨_, rfl⟩
            have hbD : Below wA.heap.size wA wD := by rw [hwD]; exact (Below.refl _ _).alloc (Nat.le_refl _) _
            have hrD : wD.heap[wA.heap.size]? = some (.cells #[Value.bool b', Value.slice a2' n2' c2', Value.slice a3' n3' c3'] 43 (0, 0)) := by rw [hwD]; exact heap_alloc_new wA _
            rw [← hwD]
            clear hwD
            have hz := below_trans hz hbD
            have hrA := (hbD.block _ (lt_of_block hrA)).trans hrA
            refine hK.out _ _ ?_ (fun hHeld => ?_)
            · (try dsimp only); refine ⟨?_, ?_, ?_, ?_, ?_, ?_, ?_, ?_, ?_, ?_, ?_⟩ <;> (first | exact RR.out 0 _ rfl _ (by assumption) | exact RR.out 1 _ rfl _ (by assumption) | exact RR.out 2 _ rfl _ (by assumption) | exact RR.out 3 _ rfl _ (by assumption) | exact RR.out 4 _ rfl _ (by assumption) | exact RYW.out 3 _ rfl _ (by assumption) | exact (HCR.out _ (by assumption)).1 | exact (HCR.out _ (by assumption)).2.1 | exact (HCR.out _ (by assumption)).2.2.1 | exact (HCR.out _ (by assumption)).2.2.2.1 | exact (HCR.out _ (by assumption)).2.2.2.2)
            clear hK K
            try simp only [Act.put, List.getElem_toArray, List.getElem_cons_zero, List.getElem_cons_succ, List.setIfInBounds_toArray, List.set_cons_zero, List.set_cons_succ]
            refine wpAnyH_ready (rs := [32]) (by kernel_rfl) (by simp) (AllReadyH.cons (o := _) rfl (fun K hK => ?_) AllReadyH.nil)
            go_simp
            refine (same_list (N := N) (listV_one hrA (HFA.out.below hz)) (listF_one hrD (HFB.out.below hz)) HN.out (by simp) (one_lens HLB.out)).mono ?_
            rintro en8 w8 ⟨rfl, hb8⟩
            have hz := below_trans hz hb8
            try go_wp2_with fail
            refine hK.out _ _ ?_ (fun hHeld => ?_)
            · (try dsimp only); refine ⟨?_, ?_, ?_, ?_, ?_, ?_, ?_, ?_, ?_, ?_, ?_⟩ <;> (first | exact RR.out 0 _ rfl _ (by assumption) | exact RR.out 1 _ rfl _ (by assumption) | exact RR.out 2 _ rfl _ (by assumption) | exact RR.out 3 _ rfl _ (by assumption) | exact RR.out 4 _ rfl _ (by assumption) | exact RYW.out 3 _ rfl _ (by assumption) | exact (HCR.out _ (by assumption)).1 | exact (HCR.out _ (by assumption)).2.1 | exact (HCR.out _ (by assumption)).2.2.1 | exact (HCR.out _ (by assumption)).2.2.2.1 | exact (HCR.out _ (by assumption)).2.2.2.2)
            clear hK K
            try simp only [Act.put, List.getElem_toArray, List.getElem_cons_zero, List.getElem_cons_succ, List.setIfInBounds_toArray, List.set_cons_zero, List.set_cons_succ]
            refine wpAnyH_take (i := 33) (oi := _) (v := ?_) rfl (by kernel_rfl) (by kernel_rfl) (by kernel_rfl) (fun _ _ _ h => h) (Or.inl ⟨by kernel_rfl, ?_⟩) (by assumption) ?_
            rotate_left
            · intro w hSw
              (try dsimp only at hSw)
              go_simp
              try with_reducible rfl
            try simp only [Act.put, List.getElem_toArray, List.getElem_cons_zero, List.getElem_cons_succ, List.setIfInBounds_toArray, List.set_cons_zero, List.set_cons_succ]
            refine wpAnyH_take (i := 34) (oi := _) (v := ?_) rfl (by kernel_rfl) (by kernel_rfl) (by kernel_rfl) (fun _ _ _ h => h) (Or.inl ⟨by kernel_rfl, ?_⟩) (by assumption) ?_
            rotate_left
            · intro w hSw
              (try dsimp only at hSw)
              go_simp
              try with_reducible rfl
            try simp only [Act.put, List.getElem_toArray, List.getElem_cons_zero, List.getElem_cons_succ, List.setIfInBounds_toArray, List.set_cons_zero, List.set_cons_succ]
            refine wpAnyH_done (by kernel_rfl) ?_ _
            have HZ9 := Lib.hid (below_trans hZ.out (below_trans HB5.out hz))
            clear hz
            go_wp2_with fail
            go_roundw
            case rel => exact ⟨i + 1, by omega, by go_num, HZ9⟩
            case measure => simp [intOf]; omega
          refine AllReadyH.cons (o := _) rfl (fun K hK => ?_) AllReadyH.nil
          go_simp
          obtain ⟨wD, hwD⟩ : ∃ w', w' = w7.alloc (Obj.cells #[Value.bool b', Value.slice a2' n2' c2', Value.slice a3' n3' c3'] 43) := ⟨_, rfl⟩
          have hbD : Below w7.heap.size w7 wD := by rw [hwD]; exact (Below.refl _ _).alloc (Nat.le_refl _) _
          have hrD : wD.heap[w7.heap.size]? = some (.cells #[Value.bool b', Value.slice a2' n2' c2', Value.slice a3' n3' c3'] 43 (0, 0)) := by rw [hwD]; exact heap_alloc_new w7 _
          rw [← hwD]
          clear hwD
          have hz := below_trans hz hbD
          refine hK.out _ _ ?_ (fun hHeld => ?_)
          · (try dsimp only); refine ⟨?_, ?_, ?_, ?_, ?_, ?_, ?_, ?_, ?_, ?_, ?_⟩ <;> (first | exact RR.out 0 _ rfl _ (by assumption) | exact RR.out 1 _ rfl _ (by assumption) | exact RR.out 2 _ rfl _ (by assumption) | exact RR.out 3 _ rfl _ (by assumption) | exact RR.out 4 _ rfl _ (by assumption) | exact RYW.out 3 _ rfl _ (by assumption) | exact (HCR.out _ (by assumption)).1 | exact (HCR.out _ (by assumption)).2.1 | exact (HCR.out _ (by assumption)).2.2.1 | exact (HCR.out _ (by assumption)).2.2.2.1 | exact (HCR.out _ (by assumption)).2.2.2.2)
          clear hK K
          try simp only [Act.put, List.getElem_toArray, List.getElem_cons_zero, List.getElem_cons_succ, List.setIfInBounds_toArray, List.set_cons_zero, List.set_cons_succ]
          refine wpAnyH_ready (rs := [24]) (by kernel_rfl) (by simp) (AllReadyH.cons (o := _) rfl (fun K hK => ?_) AllReadyH.nil)
          go_simp
          obtain ⟨wA, hwA⟩ : ∃ w', w' = wD.alloc (Obj.cells #[Value.bool b, Value.slice a2 n2 c2, Value.slice a3 n3 c3] 43) := ⟨_, rfl⟩
          have hbA : Below wD.heap.size wD wA := by rw [hwA]; exact (Below.refl _ _).alloc (Nat.le_refl _) _
          have hrA : wA.heap[wD.heap.size]? = some (.cells #[Value.bool b, Value.slice a2 n2 c2, Value.slice a3 n3 c3] 43 (0, 0)) := by rw [hwA]; exact heap_alloc_new wD _
          rw [← hwA]
          clear hwA
          have hz := below_trans hz hbA
          have hrD := (hbA.block _ (lt_of_block hrD)).trans hrD
          refine hK.out _ _ ?_ (fun hHeld => ?_)
          · (try dsimp only); refine ⟨?_, ?_, ?_, ?_, ?_, ?_, ?_, ?_, ?_, ?_, ?_⟩ <;> (first | exact RR.out 0 _ rfl _ (by assumption) | exact RR.out 1 _ rfl _ (by assumption) | exact RR.out 2 _ rfl _ (by assumption) | exact RR.out 3 _ rfl _ (by assumption) | exact RR.out 4 _ rfl _ (by assumption) | exact RYW.out 3 _ rfl _ (by assumption) | exact (HCR.out _ (by assumption)).1 | exact (HCR.out _ (by assumption)).2.1 | exact (HCR.out _ (by assumption)).2.2.1 | exact (HCR.out _ (by assumption)).2.2.2.1 | exact (HCR.out _ (by assumption)).2.2.2.2)
          clear hK K
          try simp only [Act.put, List.getElem_toArray, List.getElem_cons_zero, List.getElem_cons_succ, List.setIfInBounds_toArray, List.set_cons_zero, List.set_cons_succ]
          refine wpAnyH_ready (rs := [32]) (by kernel_rfl) (by simp) (AllReadyH.cons (o := _) rfl (fun K hK => ?_) AllReadyH.nil)
          go_simp
          refine (same_list (N := N) (listV_one hrA (HFA.out.below hz)) (listF_one hrD (HFB.out.below hz)) HN.out (by simp) (one_lens HLB.out)).mono ?_
          rintro en8 w8 ⟨rfl, hb8⟩
          have hz := below_trans hz hb8
          try go_wp2_with fail
          refine hK.out _ _ ?_ (fun hHeld => ?_)
          · (try dsimp only); refine ⟨?_, ?_, ?_, ?_, ?_, ?_, ?_, ?_, ?_, ?_, ?_⟩ <;> (first | exact RR.out 0 _ rfl _ (by assumption) | exact RR.out 1 _ rfl _ (by assumption) | exact RR.out 2 _ rfl _ (by assumption) | exact RR.out 3 _ rfl _ (by assumption) | exact RR.out 4 _ rfl _ (by assumption) | exact RYW.out 3 _ rfl _ (by assumption) | exact (HCR.out _ (by assumption)).1 | exact (HCR.out _ (by assumption)).2.1 | exact (HCR.out _ (by assumption)).2.2.1 | exact (HCR.out _ (by assumption)).2.2.2.1 | exact (HCR.out _ (by assumption)).2.2.2.2)
          clear hK K
          try simp only [Act.put, List.getElem_toArray, List.getElem_cons_zero, List.getElem_cons_succ, List.setIfInBounds_toArray, List.set_cons_zero, List.set_cons_succ]
          refine wpAnyH_take (i := 33) (oi := _) (v := ?_) rfl (by kernel_rfl) (by kernel_rfl) (by kernel_rfl) (fun _ _ _ h => h) (Or.inl ⟨by kernel_rfl, ?_⟩) (by assumption) ?_
          rotate_left
          · intro w hSw
            (try dsimp only at hSw)
            go_simp
            try with_reducible rfl
          try simp only [Act.put, List.getElem_toArray, List.getElem_cons_zero, List.getElem_cons_succ, List.setIfInBounds_toArray, List.set_cons_zero, List.set_cons_succ]
          refine wpAnyH_take (i := 34) (oi := _) (v := ?_) rfl (by kernel_rfl) (by kernel_rfl) (by kernel_rfl) (fun _ _ _ h => h) (Or.inl ⟨by kernel_rfl, ?_⟩) (by assumption) ?_
          rotate_left
          · intro w hSw
            (try dsimp only at hSw)
            go_simp
            try with_reducible rfl
          try simp only [Act.put, List.getElem_toArray, List.getElem_cons_zero, List.getElem_cons_succ, List.setIfInBounds_toArray, List.set_cons_zero, List.set_cons_succ]
          refine wpAnyH_done (by kernel_rfl) ?_ _
          have HZ9 := Lib.hid (below_trans hZ.out (below_trans HB5.out hz))
          clear hz
          go_wp2_with fail
          go_roundw
          case rel => exact ⟨i + 1, by omega, by go_num, HZ9⟩
          case measure => simp [intOf]; omega
        · have t0 : decide ((i : Int) < (rn : Int)) = false := by simp; omega
          go_wp2_with fail
          go_ret
          exact ⟨rfl, below_trans HB1.out hZ.out⟩
set_option maxRecDepth 100000 in
theorem same_zero {w : World} : Calls Tryz.prog 12 #[.agg #[.int .i64 0, .slice none 0 0, .slice none 0 0, .slice none 0 0], .agg #[.int .i64 0, .slice none 0 0, .slice none 0 0, .slice none 0 0]] w fun e w' => e = .returned (.bool true) ∧ Below w.heap.size w w' := by
  obtain ⟨w1, hw1⟩ : ∃ w1, w1 = (w.alloc (Obj.cells #[Value.int .i64 0, Value.slice none 0 0, Value.slice none 0 0, Value.slice none 0 0] 26)).alloc (Obj.cells #[Value.int .i64 0, Value.slice none 0 0, Value.slice none 0 0, Value.slice none 0 0] 26) := ⟨_, rfl⟩
  have HB1 : Hid (Below w.heap.size w w1) := Lib.hid (by rw [hw1]; exact ((Below.refl _ _).alloc (Nat.le_refl _) _).alloc (by simp) _)
  have HX1 : Hid (w1.heap[w.heap.size]? = some (.cells #[Value.int .i64 0, Value.slice none 0 0, Value.slice none 0 0, Value.slice none 0 0] 26 (0, 0))) := Lib.hid (by rw [hw1]; exact heap_alloc2_old w _ _)
  have HO1 : Hid (w1.heap[w.heap.size + 1]? = some (.cells #[Value.int .i64 0, Value.slice none 0 0, Value.slice none 0 0, Value.slice none 0 0] 26 (0, 0))) := Lib.hid (by rw [hw1]; exact heap_alloc2_new w _ _)
  have HW1 := Lib.hid hw1.symm
  have KN := Lib.hid (fun w' => same_nil (w := w'))
  clear hw1
  have RX := Lib.hid (cells_later HX1.out)
  have RY := Lib.hid (cells_later HO1.out)
  have hb1 := Below.refl w1.heap.size w1
  have x0 := RX.out 0 _ rfl _ hb1
  have x1 := RX.out 1 _ rfl _ hb1
  have x2 := RX.out 2 _ rfl _ hb1
  have x3 := RX.out 3 _ rfl _ hb1
  have y0 := RY.out 0 _ rfl _ hb1
  have y1 := RY.out 1 _ rfl _ hb1
  have y2 := RY.out 2 _ rfl _ hb1
  have y3 := RY.out 3 _ rfl _ hb1
  go_enter Tryz.func12, Tryz.ntmps12
  go_wp2_with fail
  rw [HW1.out]
  refine (KN.out _).mono ?_
  rintro en2 w2 ⟨rfl, hb2⟩
  have HZ2 := Lib.hid hb2
  have x1 := RX.out 1 _ rfl _ hb2
  have x3 := RX.out 3 _ rfl _ hb2
  clear hb2 x0 x2 y0 y1 y2 y3
  go_wp2_with fail
  go_loopw [43] (fun iv wr => iv = .int .i64 0 ∧ Hid (Below w1.heap.size w1 wr)) (fun iv _ => 0)
  case atStart => exact ⟨rfl, HZ2⟩
  case round =>
    obtain ⟨rfl, hZ⟩ := hrel
    have x3 := RX.out 3 _ rfl _ hZ.out
    go_wp2_with fail
    clear x3
    go_loopw [59] (fun iv wr => iv = .int .i64 0 ∧ Hid (Below w1.heap.size w1 wr)) (fun iv _ => 0)
    case atStart => exact ⟨rfl, hZ⟩
    case round =>
      obtain ⟨rfl, hZ9⟩ := hrel
      go_wp2_with fail
      go_ret
      exact ⟨rfl, below_trans HB1.out hZ9.out⟩
end Go.Proofs.YtafenoohjcpjgaaGreat
