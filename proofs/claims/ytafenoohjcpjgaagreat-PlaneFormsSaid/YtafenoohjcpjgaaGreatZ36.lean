/- Several texts in one: Ys. -/
import Derived.Test.YtafenoohjcpjgaaGreatZ35
import Derived.Test.YtafenoohjcpjgaaGreatZ28
import Derived.Deep.RegionHeld3
import Derived.Deep.DrawnRows
/- Normal: AtLeast rows turned. -/
namespace Go.Proofs.YtafenoohjcpjgaaGreat
open Go.RowKit
attribute [local go_sem ↓] Go.wp_at_zero Go.wp_at_succ

set_option maxRecDepth 100000 in
set_option maxHeartbeats 8000000 in
set_option linter.unusedSimpArgs false in
theorem rnormal_w {N : Nat} {w : World} {v : Value} {P : Pm} (h : ProgF N w v P) (hrb : rightB2 P = true) (hN : N ≤ 500) (hv1 : P.vars ≤ 160) (hr1 : P.rows.length ≤ 400) :
    Calls Tryz.prog 7 #[v] w fun e w' => (∃ r, e = .returned (.tuple #[r, .int .i64 0]) ∧ ProgN (rkF (2 * N + 1)) w' w.heap.size r (normP P)) ∧ Below w.heap.size w w' := by
  have HRB := Lib.hid hrb
  have HP := Lib.hid h
  have KFX := Lib.hid (fun w' (hb : Below w.heap.size w w') => rfixP_w (h.below hb) hrb hN hv1 hr1)
  have KR := Lib.hid (fun w' (hb : Below w.heap.size w w') => rright2_w (h.below hb) ⟨hv1, hr1, by have := right_goal hrb; omega, by have := right_goal hrb; omega⟩)
  rw [right_0 hrb] at KR
  have HS := Lib.hid h.small
  have HN : Hid (N ≤ 500) := Lib.hid hN
  obtain ⟨fa, fc, ga, gc, ra, rc, rfl, -, -, hB, hG, hR⟩ := h
  have HBO := Lib.hid hB
  have HR := Lib.hid hR
  obtain ⟨z, hz⟩ : ∃ z, z = P.vars := ⟨_, rfl⟩
  obtain ⟨fn, hfn⟩ : ∃ n, n = P.free.length := ⟨_, rfl⟩
  obtain ⟨gn, hgn⟩ : ∃ n, n = P.goal.length := ⟨_, rfl⟩
  obtain ⟨rn, hrn⟩ : ∃ n, n = P.rows.length := ⟨_, rfl⟩
  rw [← hz] at HP KR ⊢
  rw [← hfn] at HP KR ⊢
  rw [← hgn] at HP hG KR ⊢
  rw [← hrn] at HP KR ⊢
  simp only [← hz, ← hfn, ← hgn, ← hrn] at KFX
  have HG := Lib.hid hG
  have HEQ := Lib.hid (And.intro hz (And.intro hfn (And.intro hgn hrn)))
  have HZF : Hid (z = (gn : Int) ∧ fn = gn ∧ 0 < gn ∧ gn ≤ 160 ∧ rn ≤ 400) := Lib.hid (by have := right_goal hrb; omega)
  obtain ⟨hzg, hfg, hg0, hg160, hr400⟩ := HZF.out
  clear hN hB hR hG hz hfn hgn hrn hrb hv1 hr1
  subst hfg
  subst hzg
  obtain ⟨w1, hw1⟩ : ∃ w1, w1 = (w.alloc (Obj.cells #[Value.int .i64 (fn : Int), Value.slice fa fn fc, Value.slice ga fn gc, Value.slice ra rn rc] 26)).alloc (Obj.cells #[Value.int .i64 0, Value.slice none 0 0, Value.slice none 0 0, Value.slice none 0 0] 26) := ⟨_, rfl⟩
  have HB1 : Hid (Below w.heap.size w w1) := Lib.hid (by rw [hw1]; exact ((Below.refl _ _).alloc (Nat.le_refl _) _).alloc (by simp) _)
  have HX1 : Hid (w1.heap[w.heap.size]? = some (.cells #[Value.int .i64 (fn : Int), Value.slice fa fn fc, Value.slice ga fn gc, Value.slice ra rn rc] 26 (0, 0))) := Lib.hid (by rw [hw1]; exact heap_alloc2_old w _ _)
  have HO1 : Hid (w1.heap[w.heap.size + 1]? = some (.cells #[Value.int .i64 0, Value.slice none 0 0, Value.slice none 0 0, Value.slice none 0 0] 26 (0, 0))) := Lib.hid (by rw [hw1]; exact heap_alloc2_new w _ _)
  have HW1 := Lib.hid hw1.symm
  clear hw1
  have RX := Lib.hid (cells_later HX1.out)
  have hb1 := Below.refl w1.heap.size w1
  have x0 := RX.out 0 _ rfl _ hb1
  have x1 := RX.out 1 _ rfl _ hb1
  have x2 := RX.out 2 _ rfl _ hb1
  have x3 := RX.out 3 _ rfl _ hb1
  go_enter Tryz.func7, Tryz.ntmps7
  go_wp2_with fail
  rw [HW1.out]
  refine (KR.out _ HB1.out).mono ?_
  rintro en2 w2 ⟨rfl, hb2⟩
  have HZ2 := Lib.hid hb2
  have x0 := RX.out 0 _ rfl _ hb2
  have x1 := RX.out 1 _ rfl _ hb2
  have x2 := RX.out 2 _ rfl _ hb2
  have x3 := RX.out 3 _ rfl _ hb2
  clear hb2
  go_wp2_with fail
  refine (KFX.out _ (below_trans HB1.out HZ2.out)).mono ?_
  rintro en3 w3 ⟨⟨r3, rfl, hn3⟩, hb3⟩
  obtain ⟨fa', fc', ga', gc', oa, oc, mid, hq3, hBF, hGL, hRO, hm1, hm2, hm3, hm4⟩ := hn3
  rw [← HEQ.out.1, ← HEQ.out.2.1, ← HEQ.out.2.2.1, ← HEQ.out.2.2.2] at hq3
  subst hq3
  rw [← HEQ.out.2.2.1] at hGL hm3
  rw [← HEQ.out.2.2.2] at hRO
  have HZ3 := Lib.hid (below_trans HZ2.out hb3)
  have HBF := Lib.hid hBF
  have HGL := Lib.hid hGL
  have HRO := Lib.hid hRO
  have HM1 : Hid (w1.heap.size ≤ mid) := Lib.hid (Nat.le_trans HZ2.out.size hm1)
  have HM2 := Lib.hid hm2
  have HM3 := Lib.hid hm3
  have HM4 := Lib.hid hm4
  clear hBF hGL hRO hm1 hm2 hm3 hm4 hb3 x0 x1 x2 x3 KFX KR
  go_wp2_with ((with_reducible refine at_store ?_); refine wpList_store_var rfl _ _ _ rfl w3.heap.size rfl _ rfl _ _ (heap_alloc_new _ _) info_prog9 rfl prog_one ?_; intro w4 h4 hon4; refine halt ?_)
  have hb4 : Below w3.heap.size w3 w4 := below_only ((Below.refl _ _).alloc (Nat.le_refl _) _) hon4 (Nat.le_refl _)
  have HO4 := Lib.hid h4
  have HB4 := Lib.hid hb4
  have HS34 : Hid (w3.heap.size < w4.heap.size) := Lib.hid (lt_of_block h4)
  have HZ4 := Lib.hid (below_trans HZ3.out hb4)
  have r3 := cells_later h4 3 _ rfl _ (Below.refl _ _)
  clear h4 hon4 hb4
  refine go_on ?_
  go_wp2_with fail
  clear r3
  go_loopw [19] (fun iv wr => ∃ (i : Nat), i ≤ rn ∧ iv = .int .i64 i ∧ Hid (LRo (rkF (2 * N + 1)) wr mid (.slice oa rn oc) (turnTo i P.rows)) ∧ Hid (wr.heap[w3.heap.size]? = some (.cells #[Value.int .i64 (fn : Int), Value.slice fa' fn fc', Value.slice ga' fn gc', Value.slice oa rn oc] 26 (0, 0))) ∧ Hid (BoolsF wr fa' P.free) ∧ Hid ((rkF (2 * N + 1)).L wr (.slice ga' fn gc') P.goal) ∧ Hid (Below w1.heap.size w1 wr) ∧ Hid (w4.heap.size ≤ wr.heap.size)) (fun iv _ => rn - (intOf iv).toNat)
  case atStart => exact ⟨0, Nat.zero_le _, rfl, Lib.hid (by rw [turnTo_zero]; exact HRO.out.below HB4.out), HO4, Lib.hid (HBF.out.below HB4.out), Lib.hid ((rkF (2 * N + 1)).belowL HGL.out HB4.out), HZ4, Lib.hid (Nat.le_refl _)⟩
  case round =>
    obtain ⟨i, hi, rfl, hO, hG, hF, hGL2, hZ, hsz⟩ := hrel
    obtain ⟨wo, rfl⟩ : ∃ wo : World, wo = wr := ⟨_, rfl⟩
    by_cases hin : i < rn
    · have t5 : decide ((i : Int) < (rn : Int)) = true := by simp; omega
      obtain ⟨r, hr⟩ : ∃ r, P.rows[i]? = some r := ⟨_, List.getElem?_eq_getElem (by have := HEQ.out; omega)⟩
      obtain ⟨r', B, off, ar, nr, cr, b, a1, n1, c1, a2, n2, c2, hr', ha, hcl, hl, hf, -⟩ := hO.out.at (i := i) hin
      obtain rfl : r' = r := by
        rw [turnTo_at hr] at hr'
        exact (Option.some.inj hr').symm
      have HBL : Hid (mid ≤ B ∧ B < w3.heap.size) := Lib.hid (by
        rw [ha] at HRO
        have h1 := HRO.out.lt B rfl
        exact h1)
      subst ha
      obtain ⟨hoff, -, -, cur, hcur, hcs, hcU⟩ := hO.out.own
      have HOFF := Lib.hid hoff
      have HCUR := Lib.hid hcur
      have HCU := Lib.hid hcU
      have HCS : Hid (i * 5 + 5 ≤ cur.size) := Lib.hid (by rw [turnTo_len _ _ (by have := HEQ.out; omega)] at hcs; have := HEQ.out; omega)
      obtain ⟨f0, f1, f2, f3, f4⟩ := hcl wo (Below.refl _ _)
      have HR0 := Lib.hid hr
      have hrl0 := row_len HRB.out hr
      have hnr : fn = nr := by
        have h1 : nr = r'.1.length := rkF_len hl
        have := HEQ.out
        omega
      subst hnr
      have HL := Lib.hid hl
      have HF := Lib.hid hf
      obtain ⟨sn, hsn⟩ : ∃ n, n = r'.2.1 := ⟨_, rfl⟩
      rw [← hsn] at f1
      have HSN := Lib.hid hsn.symm
      have HSM := Lib.hid (HS.out.2 i r' hr)
      have HRL : Hid (r'.1.length = fn) := Lib.hid (by have := HEQ.out; omega)
      obtain ⟨Q, hQ⟩ : ∃ Q, Q = r'.2.2 := ⟨_, rfl⟩
      have HQ2 := Lib.hid hQ.symm
      clear hr' hcl hl hf hoff hcur hcs hcU hr hrl0 hsn hQ
      by_cases hs1 : sn = 1
      · subst hs1
        go_wp2_with ((with_reducible refine at_store ?_); refine wpList_store_var rfl _ _ _ rfl wo.heap.size rfl _ rfl _ _ (heap_alloc_new _ _) irow rfl row_one ?_; intro w5 h5 hon5; refine halt ?_)
        have hb5 : Below wo.heap.size wo w5 := below_only ((Below.refl _ _).alloc (Nat.le_refl _) _) hon5 (Nat.le_refl _)
        have HB5 := Lib.hid hb5
        have HS5 : Hid (wo.heap.size ≤ w5.heap.size) := Lib.hid hb5.size
        have RY := Lib.hid (cells_later h5)
        have RX5 := Lib.hid (cells_later ((below_trans hZ.out hb5).block _ (lt_of_block HX1.out) |>.trans HX1.out))
        have RG := Lib.hid (cells_later ((hb5.block _ (lt_of_block hG.out)).trans hG.out))
        have y1 := RY.out 1 _ rfl _ (Below.refl _ _)
        have KR2 := Lib.hid (fun w' (hb : Below w5.heap.size w5 w') => negatedM_w (w := w') (M := 2 * N + 1) (qs := r'.1) (by
          obtain ⟨bl, h1⟩ := HL.out
          exact h1.list.below (below_trans HB5.out hb)) HSM.out.1 (by have := HN.out; omega) (by have := HN.out; omega) (by have := HRL.out; omega))
        have KF2 := Lib.hid (fun w' (hb : Below w5.heap.size w5 w') => rneg_few (w := w') (FewF.below HF.out (below_trans HB5.out hb)) (by have := HN.out; omega))
        rw [HQ2.out] at KF2
        clear h5 hon5 hb5 f0 f1 f2 f3 f4
        refine go_on ?_
        have hz : Below w5.heap.size w5 w5.drew := below_drewN (Below.refl _ _) 1
        go_wp2_with fail
        refine wp_region_to 11 (fun w' => w'.cell? ⟨w3.heap.size, 3, none⟩ = some (.slice (some ⟨B, off, none⟩) rn oc) ∧ w'.cell? ⟨wo.heap.size, 0, none⟩ = some (.slice ar fn cr) ∧ w'.cell? ⟨wo.heap.size, 2, none⟩ = some (.bool b) ∧ w'.cell? ⟨wo.heap.size, 3, none⟩ = some (.slice a1 n1 c1) ∧ w'.cell? ⟨wo.heap.size, 4, none⟩ = some (.slice a2 n2 c2)) (by kernel_rfl) (by (try dsimp only); refine ⟨?_, ?_, ?_, ?_, ?_⟩ <;> (first | exact RG.out 3 _ rfl _ (by assumption) | exact RY.out 0 _ rfl _ (by assumption) | exact RY.out 2 _ rfl _ (by assumption) | exact RY.out 3 _ rfl _ (by assumption) | exact RY.out 4 _ rfl _ (by assumption))) (fun hHeld => ?_)
        refine to_take (i := 0) (oi := _) (v := ?_) rfl (by kernel_rfl) (by kernel_rfl) (by kernel_rfl) (fun _ _ _ h => h) (by kernel_rfl) (by decide) (Or.inl ⟨by kernel_rfl, ?_⟩) (by assumption) ?_
        rotate_left
        · intro w hSw
          (try dsimp only at hSw)
          go_simp
          try with_reducible rfl
        try simp only [Act.put, List.getElem_toArray, List.getElem_cons_zero, List.getElem_cons_succ, List.setIfInBounds_toArray, List.set_cons_zero, List.set_cons_succ]
        refine to_take (i := 1) (oi := _) (v := ?_) rfl (by kernel_rfl) (by kernel_rfl) (by kernel_rfl) (fun _ _ _ h => h) (by kernel_rfl) (by decide) (Or.inl ⟨by kernel_rfl, ?_⟩) (by assumption) ?_
        rotate_left
        · intro w hSw
          (try dsimp only at hSw)
          go_simp
          try with_reducible rfl
        try simp only [Act.put, List.getElem_toArray, List.getElem_cons_zero, List.getElem_cons_succ, List.setIfInBounds_toArray, List.set_cons_zero, List.set_cons_succ]
        refine to_take (i := 2) (oi := _) (v := ?_) rfl (by kernel_rfl) (by kernel_rfl) (by kernel_rfl) (fun _ _ _ h => h) (by kernel_rfl) (by decide) (Or.inl ⟨by kernel_rfl, ?_⟩) (by assumption) ?_
        rotate_left
        · intro w hSw
          (try dsimp only at hSw)
          go_simp
          try with_reducible rfl
        try simp only [Act.put, List.getElem_toArray, List.getElem_cons_zero, List.getElem_cons_succ, List.setIfInBounds_toArray, List.set_cons_zero, List.set_cons_succ]
        refine to_take (i := 3) (oi := _) (v := ?_) rfl (by kernel_rfl) (by kernel_rfl) (by kernel_rfl) (fun _ _ _ h => h) (by kernel_rfl) (by decide) (Or.inl ⟨by kernel_rfl, ?_⟩) (by assumption) ?_
        rotate_left
        · intro w hSw
          (try dsimp only at hSw)
          go_simp
          try with_reducible rfl
        try simp only [Act.put, List.getElem_toArray, List.getElem_cons_zero, List.getElem_cons_succ, List.setIfInBounds_toArray, List.set_cons_zero, List.set_cons_succ]
        refine to_take (i := 4) (oi := _) (v := ?_) rfl (by kernel_rfl) (by kernel_rfl) (by kernel_rfl) (fun _ _ _ h => h) (by kernel_rfl) (by decide) (Or.inl ⟨by kernel_rfl, ?_⟩) (by assumption) ?_
        rotate_left
        · intro w hSw
          (try dsimp only at hSw)
          go_simp
          try with_reducible rfl
        try simp only [Act.put, List.getElem_toArray, List.getElem_cons_zero, List.getElem_cons_succ, List.setIfInBounds_toArray, List.set_cons_zero, List.set_cons_succ]
        refine to_take (i := 6) (oi := _) (v := ?_) rfl (by kernel_rfl) (by kernel_rfl) (by kernel_rfl) (fun _ _ _ h => h) (by kernel_rfl) (by decide) (Or.inl ⟨by kernel_rfl, ?_⟩) (by assumption) ?_
        rotate_left
        · intro w hSw
          (try dsimp only at hSw)
          go_simp
          try with_reducible rfl
        try simp only [Act.put, List.getElem_toArray, List.getElem_cons_zero, List.getElem_cons_succ, List.setIfInBounds_toArray, List.set_cons_zero, List.set_cons_succ]
        refine to_take (i := 7) (oi := _) (v := ?_) rfl (by kernel_rfl) (by kernel_rfl) (by kernel_rfl) (fun _ _ _ h => h) (by kernel_rfl) (by decide) (Or.inl ⟨by kernel_rfl, ?_⟩) (by assumption) ?_
        rotate_left
        · intro w hSw
          (try dsimp only at hSw)
          go_simp
          try with_reducible rfl
        try simp only [Act.put, List.getElem_toArray, List.getElem_cons_zero, List.getElem_cons_succ, List.setIfInBounds_toArray, List.set_cons_zero, List.set_cons_succ]
        refine to_ready (rs := [5]) (by kernel_rfl) (by simp) (AllTo.cons (o := _) rfl (fun K hK => ?_) AllTo.nil)
        go_simp
        refine (KR2.out _ hz).mono ?_
        rintro en8 w8 ⟨⟨r8, rfl, hl8⟩, hb8⟩
        obtain ⟨ar8, cr8, hq8⟩ := hl8.form
        rw [List.length_map, HRL.out] at hq8
        subst hq8
        have hn8 : ∀ k, (Value.slice ar8 fn cr8).ownBlock = some k → wo.heap.size ≤ k := fun k hk => Nat.le_trans (Nat.le_trans HS5.out hz.size) (hl8.lt k hk).1
        have hz := below_trans hz hb8
        try go_wp2_with fail
        refine hK.out _ _ (fun _ => ?_) (fun hHeld => ?_)
        · (try dsimp only); refine ⟨?_, ?_, ?_, ?_, ?_⟩ <;> (first | exact RG.out 3 _ rfl _ (by assumption) | exact RY.out 0 _ rfl _ (by assumption) | exact RY.out 2 _ rfl _ (by assumption) | exact RY.out 3 _ rfl _ (by assumption) | exact RY.out 4 _ rfl _ (by assumption))
        replace hHeld := hHeld (by decide)
        clear hK K
        try simp only [Act.put, List.getElem_toArray, List.getElem_cons_zero, List.getElem_cons_succ, List.setIfInBounds_toArray, List.set_cons_zero, List.set_cons_succ]
        refine to_ready (rs := [8]) (by kernel_rfl) (by simp) (AllTo.cons (o := _) rfl (fun K hK => ?_) AllTo.nil)
        go_simp
        refine (KF2.out _ hz).mono ?_
        rintro en9 w9 ⟨⟨v9, rfl, f9⟩, hb9⟩
        have f9 := fv_few9 f9 (show lenQ (-Q) ≤ 2 * N + 1 from by rw [len_negq, ← HQ2.out]; exact HSM.out.2) (by have := HN.out; omega)
        obtain ⟨a9, n9, c9, i9, j9, k9, bq, hq9⟩ := few_form f9
        subst hq9
        have hz := below_trans hz hb9
        have hl8 := hl8.below hb9
        try go_wp2_with fail
        refine hK.out _ _ (fun _ => ?_) (fun hHeld => ?_)
        · (try dsimp only); refine ⟨?_, ?_, ?_, ?_, ?_⟩ <;> (first | exact RG.out 3 _ rfl _ (by assumption) | exact RY.out 0 _ rfl _ (by assumption) | exact RY.out 2 _ rfl _ (by assumption) | exact RY.out 3 _ rfl _ (by assumption) | exact RY.out 4 _ rfl _ (by assumption))
        replace hHeld := hHeld (by decide)
        clear hK K
        try simp only [Act.put, List.getElem_toArray, List.getElem_cons_zero, List.getElem_cons_succ, List.setIfInBounds_toArray, List.set_cons_zero, List.set_cons_succ]
        refine to_take (i := 9) (oi := _) (v := ?_) rfl (by kernel_rfl) (by kernel_rfl) (by kernel_rfl) (fun _ _ _ h => h) (by kernel_rfl) (by decide) (Or.inl ⟨by kernel_rfl, ?_⟩) (by assumption) ?_
        rotate_left
        · intro w hSw
          (try dsimp only at hSw)
          go_simp
          try with_reducible rfl
        try simp only [Act.put, List.getElem_toArray, List.getElem_cons_zero, List.getElem_cons_succ, List.setIfInBounds_toArray, List.set_cons_zero, List.set_cons_succ]
        refine to_take (i := 10) (oi := _) (v := ?_) rfl (by kernel_rfl) (by kernel_rfl) (by kernel_rfl) (fun _ _ _ h => h) (by kernel_rfl) (by decide) (Or.inl ⟨by kernel_rfl, ?_⟩) (by assumption) ?_
        rotate_left
        · intro w hSw
          (try dsimp only at hSw)
          go_simp
          try with_reducible rfl
        try simp only [Act.put, List.getElem_toArray, List.getElem_cons_zero, List.getElem_cons_succ, List.setIfInBounds_toArray, List.set_cons_zero, List.set_cons_succ]
        refine to_ready (rs := [11]) (by kernel_rfl) (by simp) (AllTo.cons (o := _) rfl (fun K hK => ?_) AllTo.nil)
        rw [if_pos (by kernel_rfl)]
        have hzo : Below wo.heap.size wo w9 := below_trans HB5.out hz
        have HC9 := (hzo.block _ (lt_of_block HCUR.out)).trans HCUR.out
        refine oper_store_row _ _ rfl B (off + i * 5) rfl _ _ _ _ _ rfl cur HC9 (by have h1 := HOFF.out; have h2 := HCS.out; omega) row_one ?_
        intro w10 h10 hon10
        rw [HOFF.out, Nat.zero_add] at h10
        refine hK.out _ _ (fun h => absurd rfl h) (fun _ => ?_)
        clear hK K
        try simp only [Act.put, List.getElem_toArray, List.getElem_cons_zero, List.getElem_cons_succ, List.setIfInBounds_toArray, List.set_cons_zero, List.set_cons_succ]
        refine to_done (by kernel_rfl) ?_ _
        have HZ9 : Below w1.heap.size w1 w10 := below_only (below_trans hZ.out hzo) hon10 (Nat.le_trans HM1.out HBL.out.1)
        have hszo : mid ≤ wo.heap.size := Nat.le_trans HM4.out (Nat.le_trans (Nat.le_of_lt HS34.out) hsz.out)
        have HBM : Below mid wo w10 := below_only (hzo.mono hszo) hon10 HBL.out.1
        have HO10 : LRo (rkF (2 * N + 1)) w10 mid (.slice (some ⟨B, off, none⟩) rn oc) (turnTo (i + 1) P.rows) := by
          have h1 := hO.out.below hzo
          have e := HOFF.out
          subst e
          have h2 := LRo.put (r := (r'.1.map (fun q => -q), -1, -r'.2.2)) (i := i) h1 HC9 (by rw [turnTo_len _ _ (by have := HEQ.out; omega)]; have := HEQ.out; omega) h10 hon10 ⟨_, hl8⟩ (show FewF (2 * N + 1) w9 _ (-r'.2.2) from by rw [HQ2.out]; exact f9) (fun k hk => ⟨by have h3 := hn8 k hk; have h4 := lt_of_block HCUR.out; omega, (hl8.lt k hk).2, by have h3 := hn8 k hk; omega⟩)
          have h3 : turnR r' = (r'.1.map (fun q => -q), -1, -r'.2.2) := by unfold turnR; rw [if_pos HSN.out]
          rw [← h3, turnTo_succ HR0.out] at h2
          exact h2
        have HG10 := (hon10.block _ (fun e => by have h1 := HBL.out.2; omega)).trans ((hzo.block _ (lt_of_block hG.out)).trans hG.out)
        have HF10 := hF.out.belowN HM2.out HBM
        have HL10 := (rkF (2 * N + 1)).otherL ((rkF (2 * N + 1)).belowL hGL2.out hzo) HC9 HCU.out hon10 (fun g hg e => by have h1 := HM3.out g hg; have h2 := HBL.out.1; omega)
        have HS10 : w4.heap.size ≤ w10.heap.size := by rw [hon10.size]; exact Nat.le_trans hsz.out hzo.size
        clear hz hzo HC9 h10 hon10
        go_wp2_with fail
        go_roundw
        case rel => exact ⟨i + 1, by omega, by go_num, Lib.hid HO10, Lib.hid HG10, Lib.hid HF10, Lib.hid HL10, Lib.hid HZ9, Lib.hid HS10⟩
        case measure => simp [intOf]; omega
      · have t6 : (sn == 1) = false := by simpa using hs1
        have t7 : decide (sn = 1) = false := by simpa using hs1
        go_wp2_with ((with_reducible refine at_store ?_); refine wpList_store_var rfl _ _ _ rfl wo.heap.size rfl _ rfl _ _ (heap_alloc_new _ _) irow rfl row_one ?_; intro w5 h5 hon5; refine halt ?_)
        have hb5 : Below wo.heap.size wo w5 := below_only ((Below.refl _ _).alloc (Nat.le_refl _) _) hon5 (Nat.le_refl _)
        have HB5 := Lib.hid hb5
        have y1 := cells_later h5 1 _ rfl _ (Below.refl _ _)
        clear h5 hon5 hb5 f0 f1 f2 f3 f4
        refine go_on ?_
        go_wp2_with fail
        go_roundw
        case rel => exact ⟨i + 1, by omega, by go_num, Lib.hid (by rw [turnTo_same HR0.out (by rw [HSN.out]; exact hs1)]; exact hO.out.below HB5.out), Lib.hid ((HB5.out.block _ (lt_of_block hG.out)).trans hG.out), Lib.hid (hF.out.below HB5.out), Lib.hid ((rkF (2 * N + 1)).belowL hGL2.out HB5.out), Lib.hid (below_trans hZ.out HB5.out), Lib.hid (Nat.le_trans hsz.out HB5.out.size)⟩
        case measure => simp [intOf]; omega
    · have t5 : decide ((i : Int) < (rn : Int)) = false := by simp; omega
      obtain rfl : i = rn := by omega
      have g0 := cells_later hG.out 0 _ rfl _ (Below.refl _ _)
      have g1 := cells_later hG.out 1 _ rfl _ (Below.refl _ _)
      have g2 := cells_later hG.out 2 _ rfl _ (Below.refl _ _)
      have g3 := cells_later hG.out 3 _ rfl _ (Below.refl _ _)
      have HR9 := (hZ.out.block _ (lt_of_block HO1.out)).trans HO1.out
      have hlow : w.heap.size + 1 < mid := Nat.lt_of_lt_of_le (lt_of_block HO1.out) HM1.out
      go_wp2_with ((with_reducible refine at_store ?_); refine wpList_store_var rfl _ _ _ rfl (w.heap.size + 1) rfl _ rfl _ _ HR9 info_prog9 rfl prog_one ?_; intro w5 h5 hon5; refine halt ?_)
      refine go_on ?_
      have hrt : turnTo i P.rows = P.rows.map turnR := by rw [HEQ.out.2.2.2]; exact turnTo_all _
      have HO5 := hO.out.other HR9 prog_cells hon5 hlow
      rw [hrt] at HO5
      have HF5 := hF.out.other HR9 prog_nobool hon5
      have HL5 := (rkF (2 * N + 1)).otherL hGL2.out HR9 prog_cells hon5 (fun g hg e => by obtain ⟨cs, h1⟩ := rkF_blk hGL2.out g hg; rw [e, HR9] at h1; simp at h1)
      go_wp2_with fail
      refine bodyPost_ret (results_row_tmp rfl _ _ (w.heap.size + 1) _ _ _ _ rfl h5 Tryz.underlying26 rfl info_prog9) rfl ⟨⟨_, rfl, fa', fc', ga', gc', oa, oc, mid, ?_, HF5, ?_, ?_, Nat.le_trans (by omega) (Nat.le_of_lt hlow), HM2.out, ?_, by rw [hon5.size]; exact Nat.le_trans HM4.out (Nat.le_trans (Nat.le_of_lt HS34.out) hsz.out)⟩, ?_⟩
      · show _ = Value.agg #[.int .i64 P.vars, .slice fa' P.free.length fc', .slice ga' P.goal.length gc', .slice oa (P.rows.map turnR).length oc]
        rw [List.length_map, ← HEQ.out.1, ← HEQ.out.2.1, ← HEQ.out.2.2.1, ← HEQ.out.2.2.2]
      · show (rkF (2 * N + 1)).L _ (.slice ga' P.goal.length gc') P.goal
        rw [← HEQ.out.2.2.1]
        exact HL5
      · show LRo (rkF (2 * N + 1)) _ mid (.slice oa (P.rows.map turnR).length oc) (P.rows.map turnR)
        rw [List.length_map, ← HEQ.out.2.2.2]
        exact HO5
      · show ∀ g, (Value.slice ga' P.goal.length gc').ownBlock = some g → g < mid
        rw [← HEQ.out.2.2.1]
        exact HM3.out
      · exact below_only (below_trans HB1.out hZ.out) hon5 (Nat.le_succ _)
end Go.Proofs.YtafenoohjcpjgaaGreat
