/- Several texts in one: Yd. -/
import Derived.Test.YtafenoohjcpjgaaGreatZ33
import Derived.Test.YtafenoohjcpjgaaGreatZ34
import Derived.Test.YtafenoohjcpjgaaGreatZ31
import Derived.Deep.RegionHeld3
import Derived.Deep.DrawnRows
/- Dual of plane. -/
namespace Go.Proofs.YtafenoohjcpjgaaGreat
open Go.RowKit
attribute [local go_sem ↓] Go.wp_at_zero Go.wp_at_succ

theorem fracV_other {w w' : World} {B : Nat} {v : Value} {q : Rat} {cs : Array Value} {t : TypeId} {fr : Nat × Nat} (h : FracV w v q) (hB : w.heap[B]? = some (.cells cs t fr)) (hcs : ∀ (j k : Nat), cs[j]? ≠ some (U k)) (ho : Only B w w') : FracV w' v q := by
  obtain ⟨u, d, he, h1, h2⟩ := h
  exact ⟨u, d, he, h1.other hB hcs ho, h2.other hB hcs ho⟩
set_option maxRecDepth 100000 in
set_option maxHeartbeats 3000000 in
set_option linter.unusedSimpArgs false in
theorem pdual_w {N : Nat} {w : World} {v : Value} {P : Pm} (h : ProgF N w v P) (hrb : rightB2 P = true) (hN : N ≤ 500) (hv1 : P.vars ≤ 160) (hr0 : 0 < P.rows.length) (hr1 : P.rows.length ≤ 160) :
    Calls Tryz.prog 8 #[v] w fun e w' => (∃ r, e = .returned (.tuple #[r, .int .i64 0]) ∧ ProgN rkV w' w.heap.size r (dualN (normP P))) ∧ Below w.heap.size w w' := by
  have HRB := Lib.hid hrb
  have HP := Lib.hid h
  have KFX := Lib.hid (fun w' (hb : Below w.heap.size w w') => pnormal_w (h.below hb) hrb hN hv1 (by omega))
  have HS := Lib.hid h.small
  have HN : Hid (N ≤ 500) := Lib.hid hN
  obtain ⟨fa, fc, ga, gc, ra, rc, rfl, -, -, hB, hG, hR⟩ := h
  have HBO := Lib.hid hB
  have HR := Lib.hid hR
  obtain ⟨z, hz⟩ : ∃ z, z = P.vars := ⟨_, rfl⟩
  obtain ⟨fn, hfn⟩ : ∃ n, n = P.free.length := ⟨_, rfl⟩
  obtain ⟨gn, hgn⟩ : ∃ n, n = P.goal.length := ⟨_, rfl⟩
  obtain ⟨rn, hrn⟩ : ∃ n, n = P.rows.length := ⟨_, rfl⟩
  rw [← hz] at HP ⊢
  rw [← hfn] at HP ⊢
  rw [← hgn] at HP hG ⊢
  rw [← hrn] at HP ⊢
  simp only [← hz, ← hfn, ← hgn, ← hrn] at KFX
  have HG := Lib.hid hG
  have HEQ := Lib.hid (And.intro hz (And.intro hfn (And.intro hgn hrn)))
  have HZF : Hid (z = (gn : Int) ∧ fn = gn ∧ 0 < gn ∧ gn ≤ 160 ∧ 0 < rn ∧ rn ≤ 160) := Lib.hid (by have := right_goal hrb; omega)
  obtain ⟨hzg, hfg, hg0, hg160, hrn0, hr160⟩ := HZF.out
  clear hN hB hR hG hz hfn hgn hrn hrb hv1 hr0 hr1
  subst hfg
  subst hzg
  obtain ⟨w1, hw1⟩ : ∃ w1, w1 = (w.alloc (Obj.cells #[Value.int .i64 (fn : Int), Value.slice fa fn fc, Value.slice ga fn gc, Value.slice ra rn rc] 26)).alloc (Obj.cells #[Value.int .i64 0, Value.slice none 0 0, Value.slice none 0 0, Value.slice none 0 0] 26) := ⟨_, rfl⟩
  have HB1 : Hid (Below w.heap.size w w1) := Lib.hid (by rw [hw1]; exact ((Below.refl _ _).alloc (Nat.le_refl _) _).alloc (by simp) _)
  have HX1 : Hid (w1.heap[w.heap.size]? = some (.cells #[Value.int .i64 (fn : Int), Value.slice fa fn fc, Value.slice ga fn gc, Value.slice ra rn rc] 26 (0, 0))) := Lib.hid (by rw [hw1]; exact heap_alloc2_old w _ _)
  have HO1 : Hid (w1.heap[w.heap.size + 1]? = some (.cells #[Value.int .i64 0, Value.slice none 0 0, Value.slice none 0 0, Value.slice none 0 0] 26 (0, 0))) := Lib.hid (by rw [hw1]; exact heap_alloc2_new w _ _)
  have HW1 := Lib.hid hw1.symm
  clear hw1
  have RX := Lib.hid (cells_later HX1.out)
  have hb1 := Below.refl w1.heap.size w1
  have x0 := RX.out 0 _ rfl _ hb1
  have x1 := RX.out 1 _ rfl _ hb1
  have x2 := RX.out 2 _ rfl _ hb1
  have x3 := RX.out 3 _ rfl _ hb1
  obtain ⟨n, hnn⟩ : ∃ n, n = normP P := ⟨_, rfl⟩
  rw [← hnn] at KFX ⊢
  have HRN9 : Hid (rightB2 n = true) := Lib.hid (by rw [hnn]; exact right_norm HRB.out)
  have HSN9 : Hid (SmallP (2 * N + 1) n) := Lib.hid (by rw [hnn]; exact HS.out.norm)
  have HNQ : Hid (n.vars = (fn : Int) ∧ n.free.length = fn ∧ n.goal.length = fn ∧ n.rows.length = rn) := Lib.hid (by
    rw [hnn]
    refine ⟨HEQ.out.1.symm, HEQ.out.2.1.symm, HEQ.out.2.2.1.symm, ?_⟩
    show (P.rows.map turnR).length = rn
    rw [List.length_map]
    exact HEQ.out.2.2.2.symm)
  clear hnn
  go_enter Tryz.func8, Tryz.ntmps8
  go_wp2_with fail
  rw [HW1.out]
  refine (KFX.out _ HB1.out).mono ?_
  rintro en3 w3 ⟨⟨r3, rfl, hn3⟩, hb3⟩
  have hpf := hn3.read HSN9.out (by have := HN.out; omega) HRN9.out (by have := HNQ.out; omega)
  obtain ⟨fa', fc', ga', gc', oa, oc, mid, hq3, -, -, -, hm1, hm2, hm3, hm4⟩ := hn3
  rw [HNQ.out.1, HNQ.out.2.1, HNQ.out.2.2.1, HNQ.out.2.2.2] at hq3
  subst hq3
  obtain ⟨-, -, -, -, hBF, hGL, hRF⟩ := hpf.parts
  have HBF := Lib.hid hBF
  have HGL := Lib.hid hGL
  have HRF := Lib.hid hRF
  have HZ3 := Lib.hid hb3
  clear hBF hGL hRF hm1 hm2 hm3 hm4 hb3 hpf x0 x1 x2 x3 KFX
  go_wp2_with ((with_reducible refine at_store ?_); refine wpList_store_var rfl _ _ _ rfl w3.heap.size rfl _ rfl _ _ (heap_alloc_new _ _) info_prog9 rfl prog_one ?_; intro w4 h4 hon4; refine halt ?_)
  have hb4 : Below w3.heap.size w3 w4 := below_only ((Below.refl _ _).alloc (Nat.le_refl _) _) hon4 (Nat.le_refl _)
  obtain ⟨XN, hXN⟩ : ∃ x, x = w3.heap.size := ⟨_, rfl⟩
  rw [← hXN] at h4 ⊢
  have HN4 := Lib.hid h4
  have HB4 := Lib.hid hb4
  have HZ4 := Lib.hid (below_trans HZ3.out hb4)
  have RN := Lib.hid (cells_later h4)
  have n0 := RN.out 0 _ rfl _ (Below.refl _ _)
  have n1 := RN.out 1 _ rfl _ (Below.refl _ _)
  have n2 := RN.out 2 _ rfl _ (Below.refl _ _)
  have n3 := RN.out 3 _ rfl _ (Below.refl _ _)
  have trn : decide ((160 : Int) < (rn : Int)) = false := by simp; omega
  have trn9 : decide ((rn : Int) > 160) = false := by simp; omega
  have trn0 : ((rn : Int) == 0) = false := by simp; omega
  have trn1 : decide ((rn : Int) = 0) = false := by simp; omega
  clear h4 hon4 hb4 hXN
  refine go_on ?_
  go_wp2_with fail
  have KS := Lib.hid (fun w' => sides_w (w := w') (z := (fn : Int)) (fa := fa') (ga := ga') (ra := oa) (fn := fn) (fc := fc') (gn := fn) (gc := gc') (rn := rn) (rc := oc))
  have KT := Lib.hid (fun w' g => turned_w (w := w') (f := .func 60) (cs := #[.pointer (some ⟨g, 0, none⟩)]))
  have KTC := Lib.hid (fun w' g g2 => turned_w (w := w') (f := .func 61) (cs := #[.pointer (some ⟨g, 0, none⟩), .pointer (some ⟨g2, 0, none⟩)]))
  have HBQ : Hid (∀ i, i < rn → lenQ (bQ n i) ≤ 4096) := Lib.hid (fun i hi => by
    have h9 : i < n.rows.length := by have := HNQ.out; omega
    rw [bQ_of (List.getElem?_eq_getElem h9)]
    have := (HSN9.out.2 i _ (List.getElem?_eq_getElem h9)).2
    have := HN.out
    omega)
  have HVL : Hid (∀ (i : Nat) (r : List Rat × Int × Rat), n.rows[i]? = some r → r.1.length = fn) := Lib.hid (fun i r hr => by
    have h1 := row_len HRN9.out hr
    have := HNQ.out
    omega)
  have HAQ : Hid (∀ v i, v < fn → i < rn → lenQ (aQ n v i) ≤ 4096) := Lib.hid (fun v i hv hi => by
    have h9 : i < n.rows.length := by have := HNQ.out; omega
    rw [aQ_of (List.getElem?_eq_getElem h9)]
    have := (HSN9.out.2 i _ (List.getElem?_eq_getElem h9)).1 v (by rw [HVL.out i _ (List.getElem?_eq_getElem h9)]; exact hv)
    have := HN.out
    omega)
  have KRS : Hid (∀ w' g g2, Below w4.heap.size w4 w' → w'.cell? ⟨g, 3, none⟩ = some (.slice oa rn oc) → w'.cell? ⟨g2, 0, none⟩ = some (.func (.func 60) #[] #[.pointer (some ⟨g, 0, none⟩)]) → Calls Tryz.prog 19 #[.int .i64 (rn : Nat), .func (.func 53) #[] #[.pointer (some ⟨g2, 0, none⟩)]] w' fun e w'' => (∃ r'', e = .returned r'' ∧ ListV w'' r'' (n.rows.map (fun r => -r.2.2)) ∧ ∀ g, r''.ownBlock = some g → w'.heap.size ≤ g) ∧ Below w'.heap.size w' w'') := Lib.hid (fun w' g g2 hb hg hg2 => read_t (qs := n.rows.map (fun r => -r.2.2)) (fun j w'' hj hb9 => (turned1_s (q := bQ n j) (cell_below hb9 hg2) (fun w3' hb10 => (sides1_w (w0 := w3) (below_trans HB4.out (below_trans hb (below_trans hb9 hb10))) (cell_below hb10 (cell_below hb9 hg)) HRF.out hj HNQ.out.2.2.2.symm).mono (fun e w4' h4' => ReadI.of_read (below_trans HB4.out (below_trans hb (below_trans hb9 hb10))) h4'))).mono (fun e w4' h4' => by
    rw [nth_sides (by have := HNQ.out; omega)]
    exact ReadI.of_tell (by rw [len_negq]; exact HBQ.out j hj) h4')) (by rw [List.length_map]; exact HNQ.out.2.2.2.symm) (by omega))
  go_cut [6] (fun sv wc => ∃ (G : Nat) (gd : Option Addr), sv = .pointer (some ⟨G, 0, none⟩) ∧ Hid (wc.heap[G]? = some (.cells #[Value.int .i64 (rn : Int), Value.slice none 0 0, Value.slice gd rn rn, Value.slice none 0 0] 26 (0, 0))) ∧ Hid (ListV wc (.slice gd rn rn) (n.rows.map (fun r => -r.2.2))) ∧ Hid (Below w4.heap.size w4 wc) ∧ Hid (w4.heap.size ≤ G))
  case first =>
    have hz : Below w4.heap.size w4 w4.drew := below_drewN (Below.refl _ _) 1
    refine wp_region_to 12 (fun w' => w'.cell? ⟨XN, 0, none⟩ = some (.int .i64 (fn : Int)) ∧ w'.cell? ⟨XN, 1, none⟩ = some (.slice fa' fn fc') ∧ w'.cell? ⟨XN, 2, none⟩ = some (.slice ga' fn gc') ∧ w'.cell? ⟨XN, 3, none⟩ = some (.slice oa rn oc)) (by kernel_rfl) (by (try dsimp only); refine ⟨?_, ?_, ?_, ?_⟩ <;> (first | exact RN.out 0 _ rfl _ (by assumption) | exact RN.out 1 _ rfl _ (by assumption) | exact RN.out 2 _ rfl _ (by assumption) | exact RN.out 3 _ rfl _ (by assumption))) (fun hHeld => ?_)
    refine to_take (i := 0) (oi := _) (v := ?_) rfl (by kernel_rfl) (by kernel_rfl) (by kernel_rfl) (fun _ _ _ h => h) (by kernel_rfl) (by decide) (Or.inl ⟨by kernel_rfl, ?_⟩) (by assumption) ?_
    rotate_left
    · intro w hSw
      (try dsimp only at hSw)
      go_simp
      try with_reducible rfl
    try simp only [Act.put, List.getElem_toArray, List.getElem_cons_zero, List.getElem_cons_succ, List.setIfInBounds_toArray, List.set_cons_zero, List.set_cons_succ]
    refine to_take (i := 1) (oi := _) (v := ?_) rfl (by kernel_rfl) (by kernel_rfl) (by kernel_rfl) (fun _ _ _ h => h) (by kernel_rfl) (by decide) (Or.inl ⟨by kernel_rfl, ?_⟩) (by assumption) ?_
    rotate_left
    · intro w hSw
      (try dsimp only at hSw)
      go_simp
      try with_reducible rfl
    try simp only [Act.put, List.getElem_toArray, List.getElem_cons_zero, List.getElem_cons_succ, List.setIfInBounds_toArray, List.set_cons_zero, List.set_cons_succ]
    refine to_take (i := 2) (oi := _) (v := ?_) rfl (by kernel_rfl) (by kernel_rfl) (by kernel_rfl) (fun _ _ _ h => h) (by kernel_rfl) (by decide) (Or.inl ⟨by kernel_rfl, ?_⟩) (by assumption) ?_
    rotate_left
    · intro w hSw
      (try dsimp only at hSw)
      go_simp
      try with_reducible rfl
    try simp only [Act.put, List.getElem_toArray, List.getElem_cons_zero, List.getElem_cons_succ, List.setIfInBounds_toArray, List.set_cons_zero, List.set_cons_succ]
    refine to_take (i := 3) (oi := _) (v := ?_) rfl (by kernel_rfl) (by kernel_rfl) (by kernel_rfl) (fun _ _ _ h => h) (by kernel_rfl) (by decide) (Or.inl ⟨by kernel_rfl, ?_⟩) (by assumption) ?_
    rotate_left
    · intro w hSw
      (try dsimp only at hSw)
      go_simp
      try with_reducible rfl
    try simp only [Act.put, List.getElem_toArray, List.getElem_cons_zero, List.getElem_cons_succ, List.setIfInBounds_toArray, List.set_cons_zero, List.set_cons_succ]
    refine to_take (i := 4) (oi := _) (v := ?_) rfl (by kernel_rfl) (by kernel_rfl) (by kernel_rfl) (fun _ _ _ h => h) (by kernel_rfl) (by decide) (Or.inl ⟨by kernel_rfl, ?_⟩) (by assumption) ?_
    rotate_left
    · intro w hSw
      (try dsimp only at hSw)
      go_simp
      try with_reducible rfl
    try simp only [Act.put, List.getElem_toArray, List.getElem_cons_zero, List.getElem_cons_succ, List.setIfInBounds_toArray, List.set_cons_zero, List.set_cons_succ]
    refine to_take (i := 5) (oi := _) (v := ?_) rfl (by kernel_rfl) (by kernel_rfl) (by kernel_rfl) (fun _ _ _ h => h) (by kernel_rfl) (by decide) (Or.inl ⟨by kernel_rfl, ?_⟩) (by assumption) ?_
    rotate_left
    · intro w hSw
      (try dsimp only at hSw)
      go_simp
      try with_reducible rfl
    try simp only [Act.put, List.getElem_toArray, List.getElem_cons_zero, List.getElem_cons_succ, List.setIfInBounds_toArray, List.set_cons_zero, List.set_cons_succ]
    refine to_take (i := 6) (oi := _) (v := ?_) rfl (by kernel_rfl) (by kernel_rfl) (by kernel_rfl) (fun _ _ _ h => h) (by kernel_rfl) (by decide) (Or.inl ⟨by kernel_rfl, ?_⟩) (by assumption) ?_
    rotate_left
    · intro w hSw
      (try dsimp only at hSw)
      go_simp
      try with_reducible rfl
    try simp only [Act.put, List.getElem_toArray, List.getElem_cons_zero, List.getElem_cons_succ, List.setIfInBounds_toArray, List.set_cons_zero, List.set_cons_succ]
    refine to_ready (rs := [7, 11]) (by kernel_rfl) (by simp) ?_
    refine AllTo.cons (o := _) rfl (fun K hK => ?_) ?_
    · go_simp
      refine (KS.out _).mono ?_
      rintro en5 w5 ⟨⟨g5, rfl, hg5⟩, hb5⟩
      have hz := below_trans hz hb5
      try go_wp2_with fail
      refine hK.out _ _ (fun _ => ?_) (fun hHeld => ?_)
      · (try dsimp only); refine ⟨?_, ?_, ?_, ?_⟩ <;> (first | exact RN.out 0 _ rfl _ (by assumption) | exact RN.out 1 _ rfl _ (by assumption) | exact RN.out 2 _ rfl _ (by assumption) | exact RN.out 3 _ rfl _ (by assumption))
      replace hHeld := hHeld (by decide)
      clear hK K
      try simp only [Act.put, List.getElem_toArray, List.getElem_cons_zero, List.getElem_cons_succ, List.setIfInBounds_toArray, List.set_cons_zero, List.set_cons_succ]
      refine to_ready (rs := [8, 11]) (by kernel_rfl) (by simp) ?_
      refine AllTo.cons (o := _) rfl (fun K hK => ?_) ?_
      · go_simp
        refine (KT.out _ _).mono ?_
        rintro en6 w6 ⟨⟨g6, rfl, hg6⟩, hb6⟩
        have hz := below_trans hz hb6
        have hg5 := cell_below hb6 hg5
        try go_wp2_with fail
        refine hK.out _ _ (fun _ => ?_) (fun hHeld => ?_)
        · (try dsimp only); refine ⟨?_, ?_, ?_, ?_⟩ <;> (first | exact RN.out 0 _ rfl _ (by assumption) | exact RN.out 1 _ rfl _ (by assumption) | exact RN.out 2 _ rfl _ (by assumption) | exact RN.out 3 _ rfl _ (by assumption))
        replace hHeld := hHeld (by decide)
        clear hK K
        try simp only [Act.put, List.getElem_toArray, List.getElem_cons_zero, List.getElem_cons_succ, List.setIfInBounds_toArray, List.set_cons_zero, List.set_cons_succ]
        refine to_ready (rs := [9, 11]) (by kernel_rfl) (by simp) ?_
        refine AllTo.cons (o := _) rfl (fun K hK => ?_) ?_
        · go_simp
          refine (KRS.out _ _ _ hz hg5 hg6).mono ?_
          rintro en7 w7 ⟨⟨r7, rfl, hl7, hn7⟩, hb7⟩
          obtain ⟨ar7, hq7⟩ := hl7.form
          rw [List.length_map, HNQ.out.2.2.2] at hq7
          subst hq7
          have hz := below_trans hz hb7
          have hg5 := cell_below hb7 hg5
          have hg6 := cell_below hb7 hg6
          try go_wp2_with fail
          refine hK.out _ _ (fun _ => ?_) (fun hHeld => ?_)
          · (try dsimp only); refine ⟨?_, ?_, ?_, ?_⟩ <;> (first | exact RN.out 0 _ rfl _ (by assumption) | exact RN.out 1 _ rfl _ (by assumption) | exact RN.out 2 _ rfl _ (by assumption) | exact RN.out 3 _ rfl _ (by assumption))
          replace hHeld := hHeld (by decide)
          clear hK K
          try simp only [Act.put, List.getElem_toArray, List.getElem_cons_zero, List.getElem_cons_succ, List.setIfInBounds_toArray, List.set_cons_zero, List.set_cons_succ]
          refine to_take (i := 10) (oi := _) (v := ?_) rfl (by kernel_rfl) (by kernel_rfl) (by kernel_rfl) (fun _ _ _ h => h) (by kernel_rfl) (by decide) (Or.inl ⟨by kernel_rfl, ?_⟩) (by assumption) ?_
          rotate_left
          · intro w hSw
            (try dsimp only at hSw)
            go_simp
            try with_reducible rfl
          try simp only [Act.put, List.getElem_toArray, List.getElem_cons_zero, List.getElem_cons_succ, List.setIfInBounds_toArray, List.set_cons_zero, List.set_cons_succ]
          refine to_ready (rs := [11]) (by kernel_rfl) (by simp) ?_
          refine AllTo.cons (o := _) rfl (fun K hK => ?_) AllTo.nil
          rw [if_pos (by kernel_rfl)]
          refine oper_alloc_prog rfl ?_
          intro G wA HBX hG hbA
          have hG := Nat.le_trans hz.size hG
          have hz := below_trans hz hbA
          have hg5 := cell_below hbA hg5
          have hg6 := cell_below hbA hg6
          have hl7 := hl7.below hbA
          refine hK.out _ _ (fun _ => ?_) (fun hHeld => ?_)
          · (try dsimp only); refine ⟨?_, ?_, ?_, ?_⟩ <;> (first | exact RN.out 0 _ rfl _ (by assumption) | exact RN.out 1 _ rfl _ (by assumption) | exact RN.out 2 _ rfl _ (by assumption) | exact RN.out 3 _ rfl _ (by assumption))
          replace hHeld := hHeld (by decide)
          clear hK K
          try simp only [Act.put, List.getElem_toArray, List.getElem_cons_zero, List.getElem_cons_succ, List.setIfInBounds_toArray, List.set_cons_zero, List.set_cons_succ]
          refine to_ready (rs := [12]) (by kernel_rfl) (by simp) (AllTo.cons (o := _) rfl (fun K hK => ?_) AllTo.nil)
          rw [if_pos (by kernel_rfl)]
          refine oper_store_prog _ _ rfl G rfl _ _ _ _ rfl _ HBX rfl prog_one ?_
          intro w9 hr9 ho9
          refine hK.out _ _ (fun h => absurd rfl h) (fun _ => ?_)
          clear hK K
          try simp only [Act.put, List.getElem_toArray, List.getElem_cons_zero, List.getElem_cons_succ, List.setIfInBounds_toArray, List.set_cons_zero, List.set_cons_succ]
          refine to_done (by kernel_rfl) ?_ _
          go_wp2_with fail
          go_meet
          exact ⟨G, _, rfl, Lib.hid hr9, Lib.hid (hl7.other HBX prog_cells ho9 (fun g hg e => by obtain ⟨cs, h1⟩ := rkV_blk hl7 g hg; rw [e, HBX] at h1; simp at h1)), Lib.hid (below_only hz ho9 hG), Lib.hid hG⟩
        refine AllTo.cons (o := _) rfl (fun K hK => ?_) AllTo.nil
        rw [if_pos (by kernel_rfl)]
        refine oper_alloc_prog rfl ?_
        intro G wA HBX hG hbA
        have hG := Nat.le_trans hz.size hG
        have hz := below_trans hz hbA
        have hg5 := cell_below hbA hg5
        have hg6 := cell_below hbA hg6
        refine hK.out _ _ (fun _ => ?_) (fun hHeld => ?_)
        · (try dsimp only); refine ⟨?_, ?_, ?_, ?_⟩ <;> (first | exact RN.out 0 _ rfl _ (by assumption) | exact RN.out 1 _ rfl _ (by assumption) | exact RN.out 2 _ rfl _ (by assumption) | exact RN.out 3 _ rfl _ (by assumption))
        replace hHeld := hHeld (by decide)
        clear hK K
        try simp only [Act.put, List.getElem_toArray, List.getElem_cons_zero, List.getElem_cons_succ, List.setIfInBounds_toArray, List.set_cons_zero, List.set_cons_succ]
        refine to_ready (rs := [9]) (by kernel_rfl) (by simp) ?_
        refine AllTo.cons (o := _) rfl (fun K hK => ?_) AllTo.nil
        go_simp
        refine (KRS.out _ _ _ hz hg5 hg6).mono ?_
        rintro en7 w7 ⟨⟨r7, rfl, hl7, hn7⟩, hb7⟩
        obtain ⟨ar7, hq7⟩ := hl7.form
        rw [List.length_map, HNQ.out.2.2.2] at hq7
        subst hq7
        have hz := below_trans hz hb7
        have hg5 := cell_below hb7 hg5
        have hg6 := cell_below hb7 hg6
        have HBX := (hb7.block _ (lt_of_block HBX)).trans HBX
        try go_wp2_with fail
        refine hK.out _ _ (fun _ => ?_) (fun hHeld => ?_)
        · (try dsimp only); refine ⟨?_, ?_, ?_, ?_⟩ <;> (first | exact RN.out 0 _ rfl _ (by assumption) | exact RN.out 1 _ rfl _ (by assumption) | exact RN.out 2 _ rfl _ (by assumption) | exact RN.out 3 _ rfl _ (by assumption))
        replace hHeld := hHeld (by decide)
        clear hK K
        try simp only [Act.put, List.getElem_toArray, List.getElem_cons_zero, List.getElem_cons_succ, List.setIfInBounds_toArray, List.set_cons_zero, List.set_cons_succ]
        refine to_take (i := 10) (oi := _) (v := ?_) rfl (by kernel_rfl) (by kernel_rfl) (by kernel_rfl) (fun _ _ _ h => h) (by kernel_rfl) (by decide) (Or.inl ⟨by kernel_rfl, ?_⟩) (by assumption) ?_
        rotate_left
        · intro w hSw
          (try dsimp only at hSw)
          go_simp
          try with_reducible rfl
        try simp only [Act.put, List.getElem_toArray, List.getElem_cons_zero, List.getElem_cons_succ, List.setIfInBounds_toArray, List.set_cons_zero, List.set_cons_succ]
        refine to_ready (rs := [12]) (by kernel_rfl) (by simp) (AllTo.cons (o := _) rfl (fun K hK => ?_) AllTo.nil)
        rw [if_pos (by kernel_rfl)]
        refine oper_store_prog _ _ rfl G rfl _ _ _ _ rfl _ HBX rfl prog_one ?_
        intro w9 hr9 ho9
        refine hK.out _ _ (fun h => absurd rfl h) (fun _ => ?_)
        clear hK K
        try simp only [Act.put, List.getElem_toArray, List.getElem_cons_zero, List.getElem_cons_succ, List.setIfInBounds_toArray, List.set_cons_zero, List.set_cons_succ]
        refine to_done (by kernel_rfl) ?_ _
        go_wp2_with fail
        go_meet
        exact ⟨G, _, rfl, Lib.hid hr9, Lib.hid (hl7.other HBX prog_cells ho9 (fun g hg e => by obtain ⟨cs, h1⟩ := rkV_blk hl7 g hg; rw [e, HBX] at h1; simp at h1)), Lib.hid (below_only hz ho9 hG), Lib.hid hG⟩
      refine AllTo.cons (o := _) rfl (fun K hK => ?_) AllTo.nil
      rw [if_pos (by kernel_rfl)]
      refine oper_alloc_prog rfl ?_
      intro G wA HBX hG hbA
      have hG := Nat.le_trans hz.size hG
      have hz := below_trans hz hbA
      have hg5 := cell_below hbA hg5
      refine hK.out _ _ (fun _ => ?_) (fun hHeld => ?_)
      · (try dsimp only); refine ⟨?_, ?_, ?_, ?_⟩ <;> (first | exact RN.out 0 _ rfl _ (by assumption) | exact RN.out 1 _ rfl _ (by assumption) | exact RN.out 2 _ rfl _ (by assumption) | exact RN.out 3 _ rfl _ (by assumption))
      replace hHeld := hHeld (by decide)
      clear hK K
      try simp only [Act.put, List.getElem_toArray, List.getElem_cons_zero, List.getElem_cons_succ, List.setIfInBounds_toArray, List.set_cons_zero, List.set_cons_succ]
      refine to_ready (rs := [8]) (by kernel_rfl) (by simp) ?_
      refine AllTo.cons (o := _) rfl (fun K hK => ?_) AllTo.nil
      go_simp
      refine (KT.out _ _).mono ?_
      rintro en6 w6 ⟨⟨g6, rfl, hg6⟩, hb6⟩
      have hz := below_trans hz hb6
      have hg5 := cell_below hb6 hg5
      have HBX := (hb6.block _ (lt_of_block HBX)).trans HBX
      try go_wp2_with fail
      refine hK.out _ _ (fun _ => ?_) (fun hHeld => ?_)
      · (try dsimp only); refine ⟨?_, ?_, ?_, ?_⟩ <;> (first | exact RN.out 0 _ rfl _ (by assumption) | exact RN.out 1 _ rfl _ (by assumption) | exact RN.out 2 _ rfl _ (by assumption) | exact RN.out 3 _ rfl _ (by assumption))
      replace hHeld := hHeld (by decide)
      clear hK K
      try simp only [Act.put, List.getElem_toArray, List.getElem_cons_zero, List.getElem_cons_succ, List.setIfInBounds_toArray, List.set_cons_zero, List.set_cons_succ]
      refine to_ready (rs := [9]) (by kernel_rfl) (by simp) ?_
      refine AllTo.cons (o := _) rfl (fun K hK => ?_) AllTo.nil
      go_simp
      refine (KRS.out _ _ _ hz hg5 hg6).mono ?_
      rintro en7 w7 ⟨⟨r7, rfl, hl7, hn7⟩, hb7⟩
      obtain ⟨ar7, hq7⟩ := hl7.form
      rw [List.length_map, HNQ.out.2.2.2] at hq7
      subst hq7
      have hz := below_trans hz hb7
      have hg5 := cell_below hb7 hg5
      have hg6 := cell_below hb7 hg6
      have HBX := (hb7.block _ (lt_of_block HBX)).trans HBX
      try go_wp2_with fail
      refine hK.out _ _ (fun _ => ?_) (fun hHeld => ?_)
      · (try dsimp only); refine ⟨?_, ?_, ?_, ?_⟩ <;> (first | exact RN.out 0 _ rfl _ (by assumption) | exact RN.out 1 _ rfl _ (by assumption) | exact RN.out 2 _ rfl _ (by assumption) | exact RN.out 3 _ rfl _ (by assumption))
      replace hHeld := hHeld (by decide)
      clear hK K
      try simp only [Act.put, List.getElem_toArray, List.getElem_cons_zero, List.getElem_cons_succ, List.setIfInBounds_toArray, List.set_cons_zero, List.set_cons_succ]
      refine to_take (i := 10) (oi := _) (v := ?_) rfl (by kernel_rfl) (by kernel_rfl) (by kernel_rfl) (fun _ _ _ h => h) (by kernel_rfl) (by decide) (Or.inl ⟨by kernel_rfl, ?_⟩) (by assumption) ?_
      rotate_left
      · intro w hSw
        (try dsimp only at hSw)
        go_simp
        try with_reducible rfl
      try simp only [Act.put, List.getElem_toArray, List.getElem_cons_zero, List.getElem_cons_succ, List.setIfInBounds_toArray, List.set_cons_zero, List.set_cons_succ]
      refine to_ready (rs := [12]) (by kernel_rfl) (by simp) (AllTo.cons (o := _) rfl (fun K hK => ?_) AllTo.nil)
      rw [if_pos (by kernel_rfl)]
      refine oper_store_prog _ _ rfl G rfl _ _ _ _ rfl _ HBX rfl prog_one ?_
      intro w9 hr9 ho9
      refine hK.out _ _ (fun h => absurd rfl h) (fun _ => ?_)
      clear hK K
      try simp only [Act.put, List.getElem_toArray, List.getElem_cons_zero, List.getElem_cons_succ, List.setIfInBounds_toArray, List.set_cons_zero, List.set_cons_succ]
      refine to_done (by kernel_rfl) ?_ _
      go_wp2_with fail
      go_meet
      exact ⟨G, _, rfl, Lib.hid hr9, Lib.hid (hl7.other HBX prog_cells ho9 (fun g hg e => by obtain ⟨cs, h1⟩ := rkV_blk hl7 g hg; rw [e, HBX] at h1; simp at h1)), Lib.hid (below_only hz ho9 hG), Lib.hid hG⟩
    refine AllTo.cons (o := _) rfl (fun K hK => ?_) AllTo.nil
    rw [if_pos (by kernel_rfl)]
    refine oper_alloc_prog rfl ?_
    intro G wA HBX hG hbA
    have hG := Nat.le_trans hz.size hG
    have hz := below_trans hz hbA
    refine hK.out _ _ (fun _ => ?_) (fun hHeld => ?_)
    · (try dsimp only); refine ⟨?_, ?_, ?_, ?_⟩ <;> (first | exact RN.out 0 _ rfl _ (by assumption) | exact RN.out 1 _ rfl _ (by assumption) | exact RN.out 2 _ rfl _ (by assumption) | exact RN.out 3 _ rfl _ (by assumption))
    replace hHeld := hHeld (by decide)
    clear hK K
    try simp only [Act.put, List.getElem_toArray, List.getElem_cons_zero, List.getElem_cons_succ, List.setIfInBounds_toArray, List.set_cons_zero, List.set_cons_succ]
    refine to_ready (rs := [7]) (by kernel_rfl) (by simp) ?_
    refine AllTo.cons (o := _) rfl (fun K hK => ?_) AllTo.nil
    go_simp
    refine (KS.out _).mono ?_
    rintro en5 w5 ⟨⟨g5, rfl, hg5⟩, hb5⟩
    have hz := below_trans hz hb5
    have HBX := (hb5.block _ (lt_of_block HBX)).trans HBX
    try go_wp2_with fail
    refine hK.out _ _ (fun _ => ?_) (fun hHeld => ?_)
    · (try dsimp only); refine ⟨?_, ?_, ?_, ?_⟩ <;> (first | exact RN.out 0 _ rfl _ (by assumption) | exact RN.out 1 _ rfl _ (by assumption) | exact RN.out 2 _ rfl _ (by assumption) | exact RN.out 3 _ rfl _ (by assumption))
    replace hHeld := hHeld (by decide)
    clear hK K
    try simp only [Act.put, List.getElem_toArray, List.getElem_cons_zero, List.getElem_cons_succ, List.setIfInBounds_toArray, List.set_cons_zero, List.set_cons_succ]
    refine to_ready (rs := [8]) (by kernel_rfl) (by simp) ?_
    refine AllTo.cons (o := _) rfl (fun K hK => ?_) AllTo.nil
    go_simp
    refine (KT.out _ _).mono ?_
    rintro en6 w6 ⟨⟨g6, rfl, hg6⟩, hb6⟩
    have hz := below_trans hz hb6
    have hg5 := cell_below hb6 hg5
    have HBX := (hb6.block _ (lt_of_block HBX)).trans HBX
    try go_wp2_with fail
    refine hK.out _ _ (fun _ => ?_) (fun hHeld => ?_)
    · (try dsimp only); refine ⟨?_, ?_, ?_, ?_⟩ <;> (first | exact RN.out 0 _ rfl _ (by assumption) | exact RN.out 1 _ rfl _ (by assumption) | exact RN.out 2 _ rfl _ (by assumption) | exact RN.out 3 _ rfl _ (by assumption))
    replace hHeld := hHeld (by decide)
    clear hK K
    try simp only [Act.put, List.getElem_toArray, List.getElem_cons_zero, List.getElem_cons_succ, List.setIfInBounds_toArray, List.set_cons_zero, List.set_cons_succ]
    refine to_ready (rs := [9]) (by kernel_rfl) (by simp) ?_
    refine AllTo.cons (o := _) rfl (fun K hK => ?_) AllTo.nil
    go_simp
    refine (KRS.out _ _ _ hz hg5 hg6).mono ?_
    rintro en7 w7 ⟨⟨r7, rfl, hl7, hn7⟩, hb7⟩
    obtain ⟨ar7, hq7⟩ := hl7.form
    rw [List.length_map, HNQ.out.2.2.2] at hq7
    subst hq7
    have hz := below_trans hz hb7
    have hg5 := cell_below hb7 hg5
    have hg6 := cell_below hb7 hg6
    have HBX := (hb7.block _ (lt_of_block HBX)).trans HBX
    try go_wp2_with fail
    refine hK.out _ _ (fun _ => ?_) (fun hHeld => ?_)
    · (try dsimp only); refine ⟨?_, ?_, ?_, ?_⟩ <;> (first | exact RN.out 0 _ rfl _ (by assumption) | exact RN.out 1 _ rfl _ (by assumption) | exact RN.out 2 _ rfl _ (by assumption) | exact RN.out 3 _ rfl _ (by assumption))
    replace hHeld := hHeld (by decide)
    clear hK K
    try simp only [Act.put, List.getElem_toArray, List.getElem_cons_zero, List.getElem_cons_succ, List.setIfInBounds_toArray, List.set_cons_zero, List.set_cons_succ]
    refine to_take (i := 10) (oi := _) (v := ?_) rfl (by kernel_rfl) (by kernel_rfl) (by kernel_rfl) (fun _ _ _ h => h) (by kernel_rfl) (by decide) (Or.inl ⟨by kernel_rfl, ?_⟩) (by assumption) ?_
    rotate_left
    · intro w hSw
      (try dsimp only at hSw)
      go_simp
      try with_reducible rfl
    try simp only [Act.put, List.getElem_toArray, List.getElem_cons_zero, List.getElem_cons_succ, List.setIfInBounds_toArray, List.set_cons_zero, List.set_cons_succ]
    refine to_ready (rs := [12]) (by kernel_rfl) (by simp) (AllTo.cons (o := _) rfl (fun K hK => ?_) AllTo.nil)
    rw [if_pos (by kernel_rfl)]
    refine oper_store_prog _ _ rfl G rfl _ _ _ _ rfl _ HBX rfl prog_one ?_
    intro w9 hr9 ho9
    refine hK.out _ _ (fun h => absurd rfl h) (fun _ => ?_)
    clear hK K
    try simp only [Act.put, List.getElem_toArray, List.getElem_cons_zero, List.getElem_cons_succ, List.setIfInBounds_toArray, List.set_cons_zero, List.set_cons_succ]
    refine to_done (by kernel_rfl) ?_ _
    go_wp2_with fail
    go_meet
    exact ⟨G, _, rfl, Lib.hid hr9, Lib.hid (hl7.other HBX prog_cells ho9 (fun g hg e => by obtain ⟨cs, h1⟩ := rkV_blk hl7 g hg; rw [e, HBX] at h1; simp at h1)), Lib.hid (below_only hz ho9 hG), Lib.hid hG⟩
  case rest =>
    obtain ⟨w5, rfl⟩ : ∃ w8 : World, w8 = wc := ⟨_, rfl⟩
    obtain ⟨G, gd, rfl, HG5, HD5, HZ5, HGB⟩ := hcut
    have HDL : Hid (∀ g, (Value.slice gd rn rn).ownBlock = some g → g < w5.heap.size) := Lib.hid (fun g hg => HD5.out.lt9 g hg)
    have HGL5 : Hid (G < w5.heap.size) := Lib.hid (lt_of_block HG5.out)
    have n3 := RN.out 3 _ rfl _ HZ5.out
    clear KS KT KRS n0 n1 n2
    go_wp2_with fail
    go_loopw [47] (fun iv wr => ∃ (j : Nat) (fa2 : Option Addr) (fc2 : Nat), j ≤ rn ∧ iv = .int .i64 j ∧ Hid (wr.heap[G]? = some (.cells #[Value.int .i64 (rn : Int), Value.slice fa2 j fc2, Value.slice gd rn rn, Value.slice none 0 0] 26 (0, 0))) ∧ Hid (LBo wr w5.heap.size (.slice fa2 j fc2) ((n.rows.map (fun r => decide (r.2.1 = 0))).take j)) ∧ Hid (ListV wr (.slice gd rn rn) (n.rows.map (fun r => -r.2.2))) ∧ Hid (Below w4.heap.size w4 wr) ∧ Hid (w5.heap.size ≤ wr.heap.size)) (fun iv _ => rn - (intOf iv).toNat)
    case atStart => exact ⟨0, none, 0, Nat.zero_le _, rfl, HG5, Lib.hid (LBo.nil _ _), HD5, HZ5, Lib.hid (Nat.le_refl _)⟩
    case round =>
      obtain ⟨j, fa2, fc2, hj, rfl, hG, hO, hD, hZ, hsz⟩ := hrel
      obtain ⟨wo, rfl⟩ : ∃ wo : World, wo = wr := ⟨_, rfl⟩
      by_cases hjn : j < rn
      · have t0 : decide ((j : Int) < (rn : Int)) = true := by simp; omega
        obtain ⟨r, B, off, a1, c1, b, a2, n2, c2, a3, n3, c3, hr, ha, -, -, -, -, hcr⟩ := HRF.out.at (i := j) (by have := HNQ.out; omega)
        subst ha
        obtain ⟨f0, f1, f2, f3, f4⟩ := hcr wo (below_trans HB4.out hZ.out)
        obtain ⟨rl, hrl⟩ : ∃ x, x = r.1.length := ⟨_, rfl⟩
        rw [← hrl] at f0
        obtain ⟨sn, hsn⟩ : ∃ x, x = r.2.1 := ⟨_, rfl⟩
        rw [← hsn] at f1
        have HTK := Lib.hid (row_nobool9 (f := fun r : List Rat × Int × Rat => decide (r.2.1 = 0)) hr)
        simp only [← hsn] at HTK
        clear hcr hr hrl hsn
        by_cases hs0 : sn = 0
        · subst hs0
          rw [show decide ((0 : Int) = 0) = true from rfl] at HTK
          go_wp2_with ((with_reducible refine at_store ?_); refine wpList_store_var rfl _ _ _ rfl wo.heap.size rfl _ rfl _ _ (heap_alloc_new _ _) irow rfl row_one ?_; intro w6 h6 hon6; refine halt ?_)
          have hb6 : Below wo.heap.size wo w6 := below_only ((Below.refl _ _).alloc (Nat.le_refl _) _) hon6 (Nat.le_refl _)
          have HB6 := Lib.hid hb6
          have y1 := cells_later h6 1 _ rfl _ (Below.refl _ _)
          have hG6 := Lib.hid ((hb6.block _ (lt_of_block hG.out)).trans hG.out)
          have k1 := cells_later hG6.out 1 _ rfl _ (Below.refl _ _)
          have hO6 := hO.out.below hb6
          obtain ⟨w7, hw7⟩ : ∃ w7, w7 = w6.alloc (Obj.cells #[Value.bool true] 4) := ⟨_, rfl⟩
          have hb7 : Below w6.heap.size w6 w7 := by rw [hw7]; exact (Below.refl _ _).alloc (Nat.le_refl _) _
          have HR7 : Hid (w7.heap[w6.heap.size]? = some (.cells #[Value.bool true] 4 (0, 0))) := Lib.hid (by rw [hw7]; exact heap_alloc_new w6 _)
          have HZ7 := Lib.hid (below_trans hb6 hb7)
          have HO7 := Lib.hid (hO6.below hb7)
          have HG7 := Lib.hid ((hb7.block _ (lt_of_block hG6.out)).trans hG6.out)
          have hs7 : Hid (w5.heap.size ≤ w7.heap.size) := Lib.hid (Nat.le_trans hsz.out HZ7.out.size)
          clear h6 hon6 hb6 hb7 hO6 f0 f1 f2 f3 f4
          refine go_on ?_
          go_wp2_with (at_builtin; rw [← hw7]; refine wpList_push_bool rfl _ _ rfl w5.heap.size (Value.slice fa2 j fc2) _ rfl HO7.out w6.heap.size 1 true rfl HR7.out (by rw [List.length_take]; omega) hs7.out ?_; intro v8 w8 hown8 hg8 hbel8 hat8; refine halt ?_)
          rw [HTK.out.1] at hown8
          have HB8 : Hid (Below w5.heap.size wo w8) := Lib.hid (hbel8 wo (HZ7.out.mono hsz.out))
          have HG8 : Hid (w8.heap[G]? = some (.cells #[Value.int .i64 (rn : Int), Value.slice fa2 j fc2, Value.slice gd rn rn, Value.slice none 0 0] 26 (0, 0))) := Lib.hid ((HB8.out.block _ HGL5.out).trans hG.out)
          obtain ⟨na, nc, hv8⟩ := hown8.form
          rw [← HTK.out.1, HTK.out.2] at hv8
          subst hv8
          have HZ8 : Hid (Below w4.heap.size w4 w8) := Lib.hid (hZ.out.trans (HB8.out.mono HZ5.out.size))
          have HD8 : Hid (ListV w8 (.slice gd rn rn) (n.rows.map (fun r => -r.2.2))) := Lib.hid ((hD.out.below HZ7.out).grown HO7.out.2 hg8 (fun g hg e => by have h1 := (HO7.out.lt g e).1; have h2 := HDL.out g hg; omega))
          have HS8 : Hid (w5.heap.size ≤ w8.heap.size) := Lib.hid (Nat.le_trans hs7.out hg8.size)
          have g1 := cells_later HG8.out 1 _ rfl _ (Below.refl _ _)
          have g4 := frozen_of_row _ _ 1 _ _ HG8.out
          have HON := Lib.hid (setk_only w8 G 1 (Value.slice na (j + 1) nc))
          have HG9 := Lib.hid (set1_prog HG8.out (v := Value.slice na (j + 1) nc))
          have HO9 := Lib.hid (hown8.other HON.out HGL5.out)
          have HD9 := Lib.hid (HD8.out.other HG8.out prog_cells HON.out (fun g hg e => by obtain ⟨cs, h1⟩ := rkV_blk HD8.out g hg; rw [e, HG8.out] at h1; simp at h1))
          have HZ9 := Lib.hid (below_only HZ8.out HON.out HGB.out)
          have HS9 : Hid (w5.heap.size ≤ (w8.setCell ⟨G, 1, none⟩ (Value.slice na (j + 1) nc)).heap.size) := Lib.hid (by rw [HON.out.size]; exact HS8.out)
          clear hown8 hg8 hbel8 hat8 hw7 y1 k1 t0
          refine go_on ?_
          go_wp2_with fail
          go_roundw
          case rel => exact ⟨j + 1, _, _, by omega, by go_num, HG9, HO9, HD9, HZ9, HS9⟩
          case measure => simp [intOf]; omega
        · have t6 : (sn == 0) = false := by simpa using hs0
          have t7 : decide (sn = 0) = false := by simpa using hs0
          rw [t7] at HTK
          go_wp2_with ((with_reducible refine at_store ?_); refine wpList_store_var rfl _ _ _ rfl wo.heap.size rfl _ rfl _ _ (heap_alloc_new _ _) irow rfl row_one ?_; intro w6 h6 hon6; refine halt ?_)
          have hb6 : Below wo.heap.size wo w6 := below_only ((Below.refl _ _).alloc (Nat.le_refl _) _) hon6 (Nat.le_refl _)
          have HB6 := Lib.hid hb6
          have y1 := cells_later h6 1 _ rfl _ (Below.refl _ _)
          have hG6 := Lib.hid ((hb6.block _ (lt_of_block hG.out)).trans hG.out)
          have k1 := cells_later hG6.out 1 _ rfl _ (Below.refl _ _)
          have hO6 := hO.out.below hb6
          obtain ⟨w7, hw7⟩ : ∃ w7, w7 = w6.alloc (Obj.cells #[Value.bool false] 4) := ⟨_, rfl⟩
          have hb7 : Below w6.heap.size w6 w7 := by rw [hw7]; exact (Below.refl _ _).alloc (Nat.le_refl _) _
          have HR7 : Hid (w7.heap[w6.heap.size]? = some (.cells #[Value.bool false] 4 (0, 0))) := Lib.hid (by rw [hw7]; exact heap_alloc_new w6 _)
          have HZ7 := Lib.hid (below_trans hb6 hb7)
          have HO7 := Lib.hid (hO6.below hb7)
          have HG7 := Lib.hid ((hb7.block _ (lt_of_block hG6.out)).trans hG6.out)
          have hs7 : Hid (w5.heap.size ≤ w7.heap.size) := Lib.hid (Nat.le_trans hsz.out HZ7.out.size)
          clear h6 hon6 hb6 hb7 hO6 f0 f1 f2 f3 f4
          refine go_on ?_
          go_wp2_with (at_builtin; rw [← hw7]; refine wpList_push_bool rfl _ _ rfl w5.heap.size (Value.slice fa2 j fc2) _ rfl HO7.out w6.heap.size 1 false rfl HR7.out (by rw [List.length_take]; omega) hs7.out ?_; intro v8 w8 hown8 hg8 hbel8 hat8; refine halt ?_)
          rw [HTK.out.1] at hown8
          have HB8 : Hid (Below w5.heap.size wo w8) := Lib.hid (hbel8 wo (HZ7.out.mono hsz.out))
          have HG8 : Hid (w8.heap[G]? = some (.cells #[Value.int .i64 (rn : Int), Value.slice fa2 j fc2, Value.slice gd rn rn, Value.slice none 0 0] 26 (0, 0))) := Lib.hid ((HB8.out.block _ HGL5.out).trans hG.out)
          obtain ⟨na, nc, hv8⟩ := hown8.form
          rw [← HTK.out.1, HTK.out.2] at hv8
          subst hv8
          have HZ8 : Hid (Below w4.heap.size w4 w8) := Lib.hid (hZ.out.trans (HB8.out.mono HZ5.out.size))
          have HD8 : Hid (ListV w8 (.slice gd rn rn) (n.rows.map (fun r => -r.2.2))) := Lib.hid ((hD.out.below HZ7.out).grown HO7.out.2 hg8 (fun g hg e => by have h1 := (HO7.out.lt g e).1; have h2 := HDL.out g hg; omega))
          have HS8 : Hid (w5.heap.size ≤ w8.heap.size) := Lib.hid (Nat.le_trans hs7.out hg8.size)
          have g1 := cells_later HG8.out 1 _ rfl _ (Below.refl _ _)
          have g4 := frozen_of_row _ _ 1 _ _ HG8.out
          have HON := Lib.hid (setk_only w8 G 1 (Value.slice na (j + 1) nc))
          have HG9 := Lib.hid (set1_prog HG8.out (v := Value.slice na (j + 1) nc))
          have HO9 := Lib.hid (hown8.other HON.out HGL5.out)
          have HD9 := Lib.hid (HD8.out.other HG8.out prog_cells HON.out (fun g hg e => by obtain ⟨cs, h1⟩ := rkV_blk HD8.out g hg; rw [e, HG8.out] at h1; simp at h1))
          have HZ9 := Lib.hid (below_only HZ8.out HON.out HGB.out)
          have HS9 : Hid (w5.heap.size ≤ (w8.setCell ⟨G, 1, none⟩ (Value.slice na (j + 1) nc)).heap.size) := Lib.hid (by rw [HON.out.size]; exact HS8.out)
          clear hown8 hg8 hbel8 hat8 hw7 y1 k1 t0
          refine go_on ?_
          go_wp2_with fail
          go_roundw
          case rel => exact ⟨j + 1, _, _, by omega, by go_num, HG9, HO9, HD9, HZ9, HS9⟩
          case measure => simp [intOf]; omega
      · have t0 : decide ((j : Int) < (rn : Int)) = false := by simp; omega
        obtain rfl : j = rn := by omega
        have n0 := RN.out 0 _ rfl _ hZ.out
        have n1 := RN.out 1 _ rfl _ hZ.out
        have n2 := RN.out 2 _ rfl _ hZ.out
        have HFB : Hid (BoolsF wo fa2 (n.rows.map (fun r => decide (r.2.1 = 0)))) := Lib.hid (by
          have h1 := hO.out
          rw [List.take_of_length_le (by rw [List.length_map]; have := HNQ.out; omega)] at h1
          exact h1.bools)
        have HFLT : Hid (∀ x, fa2 = some x → x.block < wo.heap.size) := Lib.hid (by
          obtain ⟨b0, B0, off0, -, ha0, hc0⟩ := HFB.out.at (i := 0) (by rw [List.length_map]; have := HNQ.out; omega)
          intro x hx
          rw [ha0] at hx
          cases hx
          exact cell_lt (hc0 _ (Below.refl _ _)))
        have HDLT : Hid (∀ g, (Value.slice gd j j).ownBlock = some g → g < wo.heap.size) := Lib.hid (fun g hg => hD.out.lt9 g hg)
        have HGWO : Hid (G < wo.heap.size) := Lib.hid (lt_of_block hG.out)
        obtain ⟨w6, hw6⟩ : ∃ x : World, x = wo := ⟨_, rfl⟩
        rw [← hw6] at HFB HFLT HDLT HGWO hD hZ hG hsz n0 n1 n2 ⊢
        have HZ6 := Lib.hid hZ.out
        clear hw6 hO
        go_wp2_with fail
        go_loopw [62] (fun iv wr => ∃ (k : Nat) (ra2 : Option Addr) (rc2 : Nat), k ≤ fn ∧ iv = .int .i64 k ∧ Hid (wr.heap[G]? = some (.cells #[Value.int .i64 (j : Int), Value.slice fa2 j fc2, Value.slice gd j j, Value.slice ra2 k rc2] 26 (0, 0))) ∧ Hid (LRo rkV wr w6.heap.size (.slice ra2 k rc2) (((List.range n.goal.length).map (dualR n)).take k)) ∧ Hid (BoolsF wr fa2 (n.rows.map (fun r => decide (r.2.1 = 0)))) ∧ Hid (ListV wr (.slice gd j j) (n.rows.map (fun r => -r.2.2))) ∧ Hid (Below w4.heap.size w4 wr) ∧ Hid (w6.heap.size ≤ wr.heap.size)) (fun iv _ => fn - (intOf iv).toNat)
        case atStart => exact ⟨0, none, 0, Nat.zero_le _, rfl, hG, Lib.hid (LRo.nil _ _ _), HFB, hD, hZ, Lib.hid (Nat.le_refl _)⟩
        case round =>
          obtain ⟨k, ra2, rc2, hk, rfl, hG9, hO, hF, hD9, hZ9, hsz9⟩ := hrel
          obtain ⟨wo, rfl⟩ : ∃ wo : World, wo = wr := ⟨_, rfl⟩
          by_cases hkn : k < fn
          · have t0 : decide ((k : Int) < (fn : Int)) = true := by simp; omega
            obtain ⟨q, Bg, offg, bg, p1, q1, s1, p2, q2, s2, hq, hBg, hcg, hfg⟩ := HGL.out.at hkn
            subst hBg
            obtain ⟨fb, Bf, offf, hfb, haf, hcf⟩ := HBF.out.at (i := k) (by have := HNQ.out; omega)
            subst haf
            have HDR : Hid (dualR n k = (n.rows.map (fun r => -(nthQ r.1 k)), (if fb = true then 0 else -1), -q)) := Lib.hid (by
              unfold dualR
              rw [hfb, nthQ_of hq]
              rfl)
            have HTK := Lib.hid (dual_take (n := n) (j := k) (by have := HNQ.out; omega))
            have HFG := Lib.hid hfg
            have HCF : Hid (∀ w', Below wo.heap.size wo w' → w'.cell? ⟨Bf, offf + k, none⟩ = some (.bool fb)) := Lib.hid (fun w' hb => hcf w' (below_trans HB4.out (below_trans hZ9.out hb)))
            have HCG : Hid (∀ w', Below wo.heap.size wo w' → w'.cell? ⟨Bg, offg + k * 3, none⟩ = some (.bool bg) ∧ w'.cell? ⟨Bg, offg + k * 3 + 1, none⟩ = some (.slice p1 q1 s1) ∧ w'.cell? ⟨Bg, offg + k * 3 + 2, none⟩ = some (.slice p2 q2 s2)) := Lib.hid (fun w' hb => hcg w' (below_trans HB4.out (below_trans hZ9.out hb)))
            have RG := Lib.hid (cells_later hG9.out)
            have RNW := Lib.hid (fun o v h w' (hb : Below wo.heap.size wo w') => RN.out o v h w' (below_trans hZ9.out hb))
            have KC := Lib.hid (fun w' => column_w (w := w') (v := (k : Int)) (ra := oa) (rn := j) (rc := oc))
            have KRC : Hid (∀ w' g g2 g3, Below wo.heap.size wo w' → w'.cell? ⟨g, 0, none⟩ = some (.slice oa j oc) → w'.cell? ⟨g2, 0, none⟩ = some (.int .i64 (k : Nat)) → w'.cell? ⟨g3, 0, none⟩ = some (.func (.func 61) #[] #[.pointer (some ⟨g, 0, none⟩), .pointer (some ⟨g2, 0, none⟩)]) → Calls Tryz.prog 19 #[.int .i64 (j : Nat), .func (.func 53) #[] #[.pointer (some ⟨g3, 0, none⟩)]] w' fun e w'' => (∃ r'', e = .returned r'' ∧ ListV w'' r'' (n.rows.map (fun r => -(nthQ r.1 k))) ∧ ∀ g, r''.ownBlock = some g → w'.heap.size ≤ g) ∧ Below w'.heap.size w' w'') := Lib.hid (fun w' g g2 g3 hb hg hg2 hg3 => read_t (qs := n.rows.map (fun r => -(nthQ r.1 k))) (fun i w'' hi hb9 => (turned1_c (q := aQ n k i) (cell_below hb9 hg3) (fun w3' hb10 => (column1_w (w0 := w3) (v := k) (below_trans HB4.out (below_trans hZ9.out (below_trans hb (below_trans hb9 hb10)))) (cell_below hb10 (cell_below hb9 hg)) (cell_below hb10 (cell_below hb9 hg2)) HRF.out hi HNQ.out.2.2.2.symm (fun r hr => by rw [HVL.out i r hr]; exact hkn)).mono (fun e w4' h4' => ReadI.of_read (below_trans HB4.out (below_trans hZ9.out (below_trans hb (below_trans hb9 hb10)))) h4'))).mono (fun e w4' h4' => by
              rw [nth_column (by have := HNQ.out; omega)]
              exact ReadI.of_tell (by rw [len_negq]; exact HAQ.out k i hkn hi) h4')) (by rw [List.length_map]; exact HNQ.out.2.2.2.symm) (by omega))
            have KN9 := Lib.hid (fun w' (hb : Below wo.heap.size wo w') => neg_f ((HFG.out.inF).below (below_trans HB4.out (below_trans hZ9.out hb))))
            clear hq hcg hfg hfb hcf
            go_wp2_with fail
            go_cut [10] (fun sv wc => ∃ (T : Nat) (ar : Option Addr) (bb : Bool) (a7 : Option Addr) (n7 c7 : Nat) (i7 : Option Addr) (j7 k7 : Nat), sv = .pointer (some ⟨T, 0, none⟩) ∧ Hid (wc.heap[T]? = some (.cells #[Value.slice ar j j, Value.int .i64 (-1), Value.bool bb, Value.slice a7 n7 c7, Value.slice i7 j7 k7] 45 (0, 0))) ∧ Hid (ListV wc (.slice ar j j) (n.rows.map (fun r => -(nthQ r.1 k)))) ∧ Hid (FracV wc (.agg #[.bool bb, .slice a7 n7 c7, .slice i7 j7 k7]) (-q)) ∧ Hid (∀ g, (Value.slice ar j j).ownBlock = some g → wo.heap.size ≤ g) ∧ Hid (Below wo.heap.size wo wc) ∧ Hid (wo.heap.size ≤ T))
            case first =>
              have hz : Below wo.heap.size wo wo.drew := below_drewN (Below.refl _ _) 1
              refine wp_region_to 16 (fun w' => w'.cell? ⟨G, 0, none⟩ = some (.int .i64 (j : Nat)) ∧ w'.cell? ⟨XN, 2, none⟩ = some (.slice (some ⟨Bg, offg, none⟩) fn gc') ∧ w'.cell? ⟨XN, 3, none⟩ = some (.slice oa j oc) ∧ w'.cell? ⟨Bg, offg + k * 3, none⟩ = some (.bool bg) ∧ w'.cell? ⟨Bg, offg + k * 3 + 1, none⟩ = some (.slice p1 q1 s1) ∧ w'.cell? ⟨Bg, offg + k * 3 + 2, none⟩ = some (.slice p2 q2 s2)) (by kernel_rfl) (by (try dsimp only); refine ⟨?_, ?_, ?_, ?_, ?_, ?_⟩ <;> (first | exact RG.out 0 _ rfl _ (by assumption) | exact RNW.out 2 _ rfl _ (by assumption) | exact RNW.out 3 _ rfl _ (by assumption) | exact (HCG.out _ (by assumption)).1 | exact (HCG.out _ (by assumption)).2.1 | exact (HCG.out _ (by assumption)).2.2)) (fun hHeld => ?_)
              refine to_take (i := 0) (oi := _) (v := ?_) rfl (by kernel_rfl) (by kernel_rfl) (by kernel_rfl) (fun _ _ _ h => h) (by kernel_rfl) (by decide) (Or.inl ⟨by kernel_rfl, ?_⟩) (by assumption) ?_
              rotate_left
              · intro w hSw
                (try dsimp only at hSw)
                go_simp
                try with_reducible rfl
              try simp only [Act.put, List.getElem_toArray, List.getElem_cons_zero, List.getElem_cons_succ, List.setIfInBounds_toArray, List.set_cons_zero, List.set_cons_succ]
              refine to_take (i := 1) (oi := _) (v := ?_) rfl (by kernel_rfl) (by kernel_rfl) (by kernel_rfl) (fun _ _ _ h => h) (by kernel_rfl) (by decide) (Or.inl ⟨by kernel_rfl, ?_⟩) (by assumption) ?_
              rotate_left
              · intro w hSw
                (try dsimp only at hSw)
                go_simp
                try with_reducible rfl
              try simp only [Act.put, List.getElem_toArray, List.getElem_cons_zero, List.getElem_cons_succ, List.setIfInBounds_toArray, List.set_cons_zero, List.set_cons_succ]
              refine to_take (i := 2) (oi := _) (v := ?_) rfl (by kernel_rfl) (by kernel_rfl) (by kernel_rfl) (fun _ _ _ h => h) (by kernel_rfl) (by decide) (Or.inl ⟨by kernel_rfl, ?_⟩) (by assumption) ?_
              rotate_left
              · intro w hSw
                (try dsimp only at hSw)
                go_simp
                try with_reducible rfl
              try simp only [Act.put, List.getElem_toArray, List.getElem_cons_zero, List.getElem_cons_succ, List.setIfInBounds_toArray, List.set_cons_zero, List.set_cons_succ]
              refine to_take (i := 3) (oi := _) (v := ?_) rfl (by kernel_rfl) (by kernel_rfl) (by kernel_rfl) (fun _ _ _ h => h) (by kernel_rfl) (by decide) (Or.inl ⟨by kernel_rfl, ?_⟩) (by assumption) ?_
              rotate_left
              · intro w hSw
                (try dsimp only at hSw)
                go_simp
                try with_reducible rfl
              try simp only [Act.put, List.getElem_toArray, List.getElem_cons_zero, List.getElem_cons_succ, List.setIfInBounds_toArray, List.set_cons_zero, List.set_cons_succ]
              refine to_take (i := 4) (oi := _) (v := ?_) rfl (by kernel_rfl) (by kernel_rfl) (by kernel_rfl) (fun _ _ _ h => h) (by kernel_rfl) (by decide) (Or.inl ⟨by kernel_rfl, ?_⟩) (by assumption) ?_
              rotate_left
              · intro w hSw
                (try dsimp only at hSw)
                go_simp
                try with_reducible rfl
              try simp only [Act.put, List.getElem_toArray, List.getElem_cons_zero, List.getElem_cons_succ, List.setIfInBounds_toArray, List.set_cons_zero, List.set_cons_succ]
              refine to_take (i := 8) (oi := _) (v := ?_) rfl (by kernel_rfl) (by kernel_rfl) (by kernel_rfl) (fun _ _ _ h => h) (by kernel_rfl) (by decide) (Or.inl ⟨by kernel_rfl, ?_⟩) (by assumption) ?_
              rotate_left
              · intro w hSw
                (try dsimp only at hSw)
                go_simp
                try with_reducible rfl
              try simp only [Act.put, List.getElem_toArray, List.getElem_cons_zero, List.getElem_cons_succ, List.setIfInBounds_toArray, List.set_cons_zero, List.set_cons_succ]
              refine to_take (i := 9) (oi := _) (v := ?_) rfl (by kernel_rfl) (by kernel_rfl) (by kernel_rfl) (fun _ _ _ h => h) (by kernel_rfl) (by decide) (Or.inl ⟨by kernel_rfl, ?_⟩) (by assumption) ?_
              rotate_left
              · intro w hSw
                (try dsimp only at hSw)
                go_simp
                try with_reducible rfl
              try simp only [Act.put, List.getElem_toArray, List.getElem_cons_zero, List.getElem_cons_succ, List.setIfInBounds_toArray, List.set_cons_zero, List.set_cons_succ]
              refine to_take (i := 10) (oi := _) (v := ?_) rfl (by kernel_rfl) (by kernel_rfl) (by kernel_rfl) (fun _ _ _ h => h) (by kernel_rfl) (by decide) (Or.inl ⟨by kernel_rfl, ?_⟩) (by assumption) ?_
              rotate_left
              · intro w hSw
                (try dsimp only at hSw)
                go_simp
                try with_reducible rfl
              try simp only [Act.put, List.getElem_toArray, List.getElem_cons_zero, List.getElem_cons_succ, List.setIfInBounds_toArray, List.set_cons_zero, List.set_cons_succ]
              refine to_take (i := 11) (oi := _) (v := ?_) rfl (by kernel_rfl) (by kernel_rfl) (by kernel_rfl) (fun _ _ _ h => h) (by kernel_rfl) (by decide) (Or.inl ⟨by kernel_rfl, ?_⟩) (by assumption) ?_
              rotate_left
              · intro w hSw
                (try dsimp only at hSw)
                go_simp
                try with_reducible rfl
              try simp only [Act.put, List.getElem_toArray, List.getElem_cons_zero, List.getElem_cons_succ, List.setIfInBounds_toArray, List.set_cons_zero, List.set_cons_succ]
              refine to_take (i := 12) (oi := _) (v := ?_) rfl (by kernel_rfl) (by kernel_rfl) (by kernel_rfl) (fun _ _ _ h => h) (by kernel_rfl) (by decide) (Or.inl ⟨by kernel_rfl, ?_⟩) (by assumption) ?_
              rotate_left
              · intro w hSw
                (try dsimp only at hSw)
                go_simp
                try with_reducible rfl
              try simp only [Act.put, List.getElem_toArray, List.getElem_cons_zero, List.getElem_cons_succ, List.setIfInBounds_toArray, List.set_cons_zero, List.set_cons_succ]
              refine to_ready (rs := [5, 15]) (by kernel_rfl) (by simp) ?_
              refine AllTo.cons (o := _) rfl (fun K hK => ?_) ?_
              · go_simp
                refine (KC.out _).mono ?_
                rintro en5 w5' ⟨⟨g5, g5', rfl, hg5, hg5'⟩, hb5⟩
                have hz := below_trans hz hb5
                try go_wp2_with fail
                refine hK.out _ _ (fun _ => ?_) (fun hHeld => ?_)
                · (try dsimp only); refine ⟨?_, ?_, ?_, ?_, ?_, ?_⟩ <;> (first | exact RG.out 0 _ rfl _ (by assumption) | exact RNW.out 2 _ rfl _ (by assumption) | exact RNW.out 3 _ rfl _ (by assumption) | exact (HCG.out _ (by assumption)).1 | exact (HCG.out _ (by assumption)).2.1 | exact (HCG.out _ (by assumption)).2.2)
                replace hHeld := hHeld (by decide)
                clear hK K
                try simp only [Act.put, List.getElem_toArray, List.getElem_cons_zero, List.getElem_cons_succ, List.setIfInBounds_toArray, List.set_cons_zero, List.set_cons_succ]
                refine to_ready (rs := [6, 15]) (by kernel_rfl) (by simp) ?_
                refine AllTo.cons (o := _) rfl (fun K hK => ?_) ?_
                · go_simp
                  refine (KTC.out _ _ _).mono ?_
                  rintro en6 w6' ⟨⟨g6, rfl, hg6⟩, hb6⟩
                  have hz := below_trans hz hb6
                  have hg5 := cell_below hb6 hg5
                  have hg5' := cell_below hb6 hg5'
                  try go_wp2_with fail
                  refine hK.out _ _ (fun _ => ?_) (fun hHeld => ?_)
                  · (try dsimp only); refine ⟨?_, ?_, ?_, ?_, ?_, ?_⟩ <;> (first | exact RG.out 0 _ rfl _ (by assumption) | exact RNW.out 2 _ rfl _ (by assumption) | exact RNW.out 3 _ rfl _ (by assumption) | exact (HCG.out _ (by assumption)).1 | exact (HCG.out _ (by assumption)).2.1 | exact (HCG.out _ (by assumption)).2.2)
                  replace hHeld := hHeld (by decide)
                  clear hK K
                  try simp only [Act.put, List.getElem_toArray, List.getElem_cons_zero, List.getElem_cons_succ, List.setIfInBounds_toArray, List.set_cons_zero, List.set_cons_succ]
                  refine to_ready (rs := [7, 15]) (by kernel_rfl) (by simp) ?_
                  refine AllTo.cons (o := _) rfl (fun K hK => ?_) ?_
                  · go_simp
                    refine (KRC.out _ _ _ _ hz hg5 hg5' hg6).mono ?_
                    rintro en7 w7 ⟨⟨r7, rfl, hl7, hn7⟩, hb7⟩
                    obtain ⟨ar7, hq7⟩ := hl7.form
                    rw [List.length_map, HNQ.out.2.2.2] at hq7
                    subst hq7
                    have hn7 : ∀ g, (Value.slice ar7 j j).ownBlock = some g → wo.heap.size ≤ g := fun g hg => Nat.le_trans hz.size (hn7 g hg)
                    have hz := below_trans hz hb7
                    have hg5 := cell_below hb7 hg5
                    have hg5' := cell_below hb7 hg5'
                    have hg6 := cell_below hb7 hg6
                    try go_wp2_with fail
                    refine hK.out _ _ (fun _ => ?_) (fun hHeld => ?_)
                    · (try dsimp only); refine ⟨?_, ?_, ?_, ?_, ?_, ?_⟩ <;> (first | exact RG.out 0 _ rfl _ (by assumption) | exact RNW.out 2 _ rfl _ (by assumption) | exact RNW.out 3 _ rfl _ (by assumption) | exact (HCG.out _ (by assumption)).1 | exact (HCG.out _ (by assumption)).2.1 | exact (HCG.out _ (by assumption)).2.2)
                    replace hHeld := hHeld (by decide)
                    clear hK K
                    try simp only [Act.put, List.getElem_toArray, List.getElem_cons_zero, List.getElem_cons_succ, List.setIfInBounds_toArray, List.set_cons_zero, List.set_cons_succ]
                    refine to_ready (rs := [13, 15]) (by kernel_rfl) (by simp) ?_
                    refine AllTo.cons (o := _) rfl (fun K hK => ?_) ?_
                    · go_simp
                      refine (KN9.out _ hz).mono ?_
                      rintro en8 w8 ⟨⟨v8, rfl, f8, -⟩, hb8⟩
                      obtain ⟨a8, n8, c8, i8, j8, k8, hq8⟩ := frac_form f8
                      subst hq8
                      obtain ⟨bq, hbq⟩ : ∃ bq, bq = decide ((-q).num < 0) := ⟨_, rfl⟩
                      rw [← hbq] at f8
                      rw [← hbq]
                      clear hbq
                      have hz := below_trans hz hb8
                      have hg5 := cell_below hb8 hg5
                      have hg5' := cell_below hb8 hg5'
                      have hg6 := cell_below hb8 hg6
                      have hl7 := hl7.below hb8
                      try go_wp2_with fail
                      refine hK.out _ _ (fun _ => ?_) (fun hHeld => ?_)
                      · (try dsimp only); refine ⟨?_, ?_, ?_, ?_, ?_, ?_⟩ <;> (first | exact RG.out 0 _ rfl _ (by assumption) | exact RNW.out 2 _ rfl _ (by assumption) | exact RNW.out 3 _ rfl _ (by assumption) | exact (HCG.out _ (by assumption)).1 | exact (HCG.out _ (by assumption)).2.1 | exact (HCG.out _ (by assumption)).2.2)
                      replace hHeld := hHeld (by decide)
                      clear hK K
                      try simp only [Act.put, List.getElem_toArray, List.getElem_cons_zero, List.getElem_cons_succ, List.setIfInBounds_toArray, List.set_cons_zero, List.set_cons_succ]
                      refine to_take (i := 14) (oi := _) (v := ?_) rfl (by kernel_rfl) (by kernel_rfl) (by kernel_rfl) (fun _ _ _ h => h) (by kernel_rfl) (by decide) (Or.inl ⟨by kernel_rfl, ?_⟩) (by assumption) ?_
                      rotate_left
                      · intro w hSw
                        (try dsimp only at hSw)
                        go_simp
                        try with_reducible rfl
                      try simp only [Act.put, List.getElem_toArray, List.getElem_cons_zero, List.getElem_cons_succ, List.setIfInBounds_toArray, List.set_cons_zero, List.set_cons_succ]
                      refine to_ready (rs := [15]) (by kernel_rfl) (by simp) ?_
                      refine AllTo.cons (o := _) rfl (fun K hK => ?_) AllTo.nil
                      rw [if_pos (by kernel_rfl)]
                      refine oper_alloc_row rfl ?_
                      intro G1 wA HBX hG1 hbA
                      have hG1 := Nat.le_trans hz.size hG1
                      have hz := below_trans hz hbA
                      have hg5 := cell_below hbA hg5
                      have hg5' := cell_below hbA hg5'
                      have hg6 := cell_below hbA hg6
                      have hl7 := hl7.below hbA
                      have f8 := f8.below hbA
                      refine hK.out _ _ (fun _ => ?_) (fun hHeld => ?_)
                      · (try dsimp only); refine ⟨?_, ?_, ?_, ?_, ?_, ?_⟩ <;> (first | exact RG.out 0 _ rfl _ (by assumption) | exact RNW.out 2 _ rfl _ (by assumption) | exact RNW.out 3 _ rfl _ (by assumption) | exact (HCG.out _ (by assumption)).1 | exact (HCG.out _ (by assumption)).2.1 | exact (HCG.out _ (by assumption)).2.2)
                      replace hHeld := hHeld (by decide)
                      clear hK K
                      try simp only [Act.put, List.getElem_toArray, List.getElem_cons_zero, List.getElem_cons_succ, List.setIfInBounds_toArray, List.set_cons_zero, List.set_cons_succ]
                      refine to_ready (rs := [16]) (by kernel_rfl) (by simp) (AllTo.cons (o := _) rfl (fun K hK => ?_) AllTo.nil)
                      rw [if_pos (by kernel_rfl)]
                      refine oper_store_row _ _ rfl G1 0 rfl _ _ _ _ _ rfl _ HBX (Nat.le_refl _) row_one ?_
                      intro w9 hr9 ho9
                      refine hK.out _ _ (fun h => absurd rfl h) (fun _ => ?_)
                      clear hK K
                      try simp only [Act.put, List.getElem_toArray, List.getElem_cons_zero, List.getElem_cons_succ, List.setIfInBounds_toArray, List.set_cons_zero, List.set_cons_succ]
                      refine to_done (by kernel_rfl) ?_ _
                      go_wp2_with fail
                      go_meet
                      exact ⟨G1, _, _, _, _, _, _, _, _, rfl, Lib.hid hr9, Lib.hid (hl7.other HBX row_nou ho9 (fun g hg e => by obtain ⟨cs, h1⟩ := rkV_blk hl7 g hg; rw [e, HBX] at h1; simp at h1)), Lib.hid (fracV_other f8 HBX row_nou ho9), Lib.hid hn7, Lib.hid (below_only hz ho9 hG1), Lib.hid hG1⟩
                    refine AllTo.cons (o := _) rfl (fun K hK => ?_) AllTo.nil
                    rw [if_pos (by kernel_rfl)]
                    refine oper_alloc_row rfl ?_
                    intro G1 wA HBX hG1 hbA
                    have hG1 := Nat.le_trans hz.size hG1
                    have hz := below_trans hz hbA
                    have hg5 := cell_below hbA hg5
                    have hg5' := cell_below hbA hg5'
                    have hg6 := cell_below hbA hg6
                    have hl7 := hl7.below hbA
                    refine hK.out _ _ (fun _ => ?_) (fun hHeld => ?_)
                    · (try dsimp only); refine ⟨?_, ?_, ?_, ?_, ?_, ?_⟩ <;> (first | exact RG.out 0 _ rfl _ (by assumption) | exact RNW.out 2 _ rfl _ (by assumption) | exact RNW.out 3 _ rfl _ (by assumption) | exact (HCG.out _ (by assumption)).1 | exact (HCG.out _ (by assumption)).2.1 | exact (HCG.out _ (by assumption)).2.2)
                    replace hHeld := hHeld (by decide)
                    clear hK K
                    try simp only [Act.put, List.getElem_toArray, List.getElem_cons_zero, List.getElem_cons_succ, List.setIfInBounds_toArray, List.set_cons_zero, List.set_cons_succ]
                    refine to_ready (rs := [13]) (by kernel_rfl) (by simp) ?_
                    refine AllTo.cons (o := _) rfl (fun K hK => ?_) AllTo.nil
                    go_simp
                    refine (KN9.out _ hz).mono ?_
                    rintro en8 w8 ⟨⟨v8, rfl, f8, -⟩, hb8⟩
                    obtain ⟨a8, n8, c8, i8, j8, k8, hq8⟩ := frac_form f8
                    subst hq8
                    obtain ⟨bq, hbq⟩ : ∃ bq, bq = decide ((-q).num < 0) := ⟨_, rfl⟩
                    rw [← hbq] at f8
                    rw [← hbq]
                    clear hbq
                    have hz := below_trans hz hb8
                    have hg5 := cell_below hb8 hg5
                    have hg5' := cell_below hb8 hg5'
                    have hg6 := cell_below hb8 hg6
                    have hl7 := hl7.below hb8
                    have HBX := (hb8.block _ (lt_of_block HBX)).trans HBX
                    try go_wp2_with fail
                    refine hK.out _ _ (fun _ => ?_) (fun hHeld => ?_)
                    · (try dsimp only); refine ⟨?_, ?_, ?_, ?_, ?_, ?_⟩ <;> (first | exact RG.out 0 _ rfl _ (by assumption) | exact RNW.out 2 _ rfl _ (by assumption) | exact RNW.out 3 _ rfl _ (by assumption) | exact (HCG.out _ (by assumption)).1 | exact (HCG.out _ (by assumption)).2.1 | exact (HCG.out _ (by assumption)).2.2)
                    replace hHeld := hHeld (by decide)
                    clear hK K
                    try simp only [Act.put, List.getElem_toArray, List.getElem_cons_zero, List.getElem_cons_succ, List.setIfInBounds_toArray, List.set_cons_zero, List.set_cons_succ]
                    refine to_take (i := 14) (oi := _) (v := ?_) rfl (by kernel_rfl) (by kernel_rfl) (by kernel_rfl) (fun _ _ _ h => h) (by kernel_rfl) (by decide) (Or.inl ⟨by kernel_rfl, ?_⟩) (by assumption) ?_
                    rotate_left
                    · intro w hSw
                      (try dsimp only at hSw)
                      go_simp
                      try with_reducible rfl
                    try simp only [Act.put, List.getElem_toArray, List.getElem_cons_zero, List.getElem_cons_succ, List.setIfInBounds_toArray, List.set_cons_zero, List.set_cons_succ]
                    refine to_ready (rs := [16]) (by kernel_rfl) (by simp) (AllTo.cons (o := _) rfl (fun K hK => ?_) AllTo.nil)
                    rw [if_pos (by kernel_rfl)]
                    refine oper_store_row _ _ rfl G1 0 rfl _ _ _ _ _ rfl _ HBX (Nat.le_refl _) row_one ?_
                    intro w9 hr9 ho9
                    refine hK.out _ _ (fun h => absurd rfl h) (fun _ => ?_)
                    clear hK K
                    try simp only [Act.put, List.getElem_toArray, List.getElem_cons_zero, List.getElem_cons_succ, List.setIfInBounds_toArray, List.set_cons_zero, List.set_cons_succ]
                    refine to_done (by kernel_rfl) ?_ _
                    go_wp2_with fail
                    go_meet
                    exact ⟨G1, _, _, _, _, _, _, _, _, rfl, Lib.hid hr9, Lib.hid (hl7.other HBX row_nou ho9 (fun g hg e => by obtain ⟨cs, h1⟩ := rkV_blk hl7 g hg; rw [e, HBX] at h1; simp at h1)), Lib.hid (fracV_other f8 HBX row_nou ho9), Lib.hid hn7, Lib.hid (below_only hz ho9 hG1), Lib.hid hG1⟩
                  refine AllTo.cons (o := _) rfl (fun K hK => ?_) AllTo.nil
                  rw [if_pos (by kernel_rfl)]
                  refine oper_alloc_row rfl ?_
                  intro G1 wA HBX hG1 hbA
                  have hG1 := Nat.le_trans hz.size hG1
                  have hz := below_trans hz hbA
                  have hg5 := cell_below hbA hg5
                  have hg5' := cell_below hbA hg5'
                  have hg6 := cell_below hbA hg6
                  refine hK.out _ _ (fun _ => ?_) (fun hHeld => ?_)
                  · (try dsimp only); refine ⟨?_, ?_, ?_, ?_, ?_, ?_⟩ <;> (first | exact RG.out 0 _ rfl _ (by assumption) | exact RNW.out 2 _ rfl _ (by assumption) | exact RNW.out 3 _ rfl _ (by assumption) | exact (HCG.out _ (by assumption)).1 | exact (HCG.out _ (by assumption)).2.1 | exact (HCG.out _ (by assumption)).2.2)
                  replace hHeld := hHeld (by decide)
                  clear hK K
                  try simp only [Act.put, List.getElem_toArray, List.getElem_cons_zero, List.getElem_cons_succ, List.setIfInBounds_toArray, List.set_cons_zero, List.set_cons_succ]
                  refine to_ready (rs := [7]) (by kernel_rfl) (by simp) ?_
                  refine AllTo.cons (o := _) rfl (fun K hK => ?_) AllTo.nil
                  go_simp
                  refine (KRC.out _ _ _ _ hz hg5 hg5' hg6).mono ?_
                  rintro en7 w7 ⟨⟨r7, rfl, hl7, hn7⟩, hb7⟩
                  obtain ⟨ar7, hq7⟩ := hl7.form
                  rw [List.length_map, HNQ.out.2.2.2] at hq7
                  subst hq7
                  have hn7 : ∀ g, (Value.slice ar7 j j).ownBlock = some g → wo.heap.size ≤ g := fun g hg => Nat.le_trans hz.size (hn7 g hg)
                  have hz := below_trans hz hb7
                  have hg5 := cell_below hb7 hg5
                  have hg5' := cell_below hb7 hg5'
                  have hg6 := cell_below hb7 hg6
                  have HBX := (hb7.block _ (lt_of_block HBX)).trans HBX
                  try go_wp2_with fail
                  refine hK.out _ _ (fun _ => ?_) (fun hHeld => ?_)
                  · (try dsimp only); refine ⟨?_, ?_, ?_, ?_, ?_, ?_⟩ <;> (first | exact RG.out 0 _ rfl _ (by assumption) | exact RNW.out 2 _ rfl _ (by assumption) | exact RNW.out 3 _ rfl _ (by assumption) | exact (HCG.out _ (by assumption)).1 | exact (HCG.out _ (by assumption)).2.1 | exact (HCG.out _ (by assumption)).2.2)
                  replace hHeld := hHeld (by decide)
                  clear hK K
                  try simp only [Act.put, List.getElem_toArray, List.getElem_cons_zero, List.getElem_cons_succ, List.setIfInBounds_toArray, List.set_cons_zero, List.set_cons_succ]
                  refine to_ready (rs := [13]) (by kernel_rfl) (by simp) ?_
                  refine AllTo.cons (o := _) rfl (fun K hK => ?_) AllTo.nil
                  go_simp
                  refine (KN9.out _ hz).mono ?_
                  rintro en8 w8 ⟨⟨v8, rfl, f8, -⟩, hb8⟩
                  obtain ⟨a8, n8, c8, i8, j8, k8, hq8⟩ := frac_form f8
                  subst hq8
                  obtain ⟨bq, hbq⟩ : ∃ bq, bq = decide ((-q).num < 0) := ⟨_, rfl⟩
                  rw [← hbq] at f8
                  rw [← hbq]
                  clear hbq
                  have hz := below_trans hz hb8
                  have hg5 := cell_below hb8 hg5
                  have hg5' := cell_below hb8 hg5'
                  have hg6 := cell_below hb8 hg6
                  have hl7 := hl7.below hb8
                  have HBX := (hb8.block _ (lt_of_block HBX)).trans HBX
                  try go_wp2_with fail
                  refine hK.out _ _ (fun _ => ?_) (fun hHeld => ?_)
                  · (try dsimp only); refine ⟨?_, ?_, ?_, ?_, ?_, ?_⟩ <;> (first | exact RG.out 0 _ rfl _ (by assumption) | exact RNW.out 2 _ rfl _ (by assumption) | exact RNW.out 3 _ rfl _ (by assumption) | exact (HCG.out _ (by assumption)).1 | exact (HCG.out _ (by assumption)).2.1 | exact (HCG.out _ (by assumption)).2.2)
                  replace hHeld := hHeld (by decide)
                  clear hK K
                  try simp only [Act.put, List.getElem_toArray, List.getElem_cons_zero, List.getElem_cons_succ, List.setIfInBounds_toArray, List.set_cons_zero, List.set_cons_succ]
                  refine to_take (i := 14) (oi := _) (v := ?_) rfl (by kernel_rfl) (by kernel_rfl) (by kernel_rfl) (fun _ _ _ h => h) (by kernel_rfl) (by decide) (Or.inl ⟨by kernel_rfl, ?_⟩) (by assumption) ?_
                  rotate_left
                  · intro w hSw
                    (try dsimp only at hSw)
                    go_simp
                    try with_reducible rfl
                  try simp only [Act.put, List.getElem_toArray, List.getElem_cons_zero, List.getElem_cons_succ, List.setIfInBounds_toArray, List.set_cons_zero, List.set_cons_succ]
                  refine to_ready (rs := [16]) (by kernel_rfl) (by simp) (AllTo.cons (o := _) rfl (fun K hK => ?_) AllTo.nil)
                  rw [if_pos (by kernel_rfl)]
                  refine oper_store_row _ _ rfl G1 0 rfl _ _ _ _ _ rfl _ HBX (Nat.le_refl _) row_one ?_
                  intro w9 hr9 ho9
                  refine hK.out _ _ (fun h => absurd rfl h) (fun _ => ?_)
                  clear hK K
                  try simp only [Act.put, List.getElem_toArray, List.getElem_cons_zero, List.getElem_cons_succ, List.setIfInBounds_toArray, List.set_cons_zero, List.set_cons_succ]
                  refine to_done (by kernel_rfl) ?_ _
                  go_wp2_with fail
                  go_meet
                  exact ⟨G1, _, _, _, _, _, _, _, _, rfl, Lib.hid hr9, Lib.hid (hl7.other HBX row_nou ho9 (fun g hg e => by obtain ⟨cs, h1⟩ := rkV_blk hl7 g hg; rw [e, HBX] at h1; simp at h1)), Lib.hid (fracV_other f8 HBX row_nou ho9), Lib.hid hn7, Lib.hid (below_only hz ho9 hG1), Lib.hid hG1⟩
                refine AllTo.cons (o := _) rfl (fun K hK => ?_) AllTo.nil
                rw [if_pos (by kernel_rfl)]
                refine oper_alloc_row rfl ?_
                intro G1 wA HBX hG1 hbA
                have hG1 := Nat.le_trans hz.size hG1
                have hz := below_trans hz hbA
                have hg5 := cell_below hbA hg5
                have hg5' := cell_below hbA hg5'
                refine hK.out _ _ (fun _ => ?_) (fun hHeld => ?_)
                · (try dsimp only); refine ⟨?_, ?_, ?_, ?_, ?_, ?_⟩ <;> (first | exact RG.out 0 _ rfl _ (by assumption) | exact RNW.out 2 _ rfl _ (by assumption) | exact RNW.out 3 _ rfl _ (by assumption) | exact (HCG.out _ (by assumption)).1 | exact (HCG.out _ (by assumption)).2.1 | exact (HCG.out _ (by assumption)).2.2)
                replace hHeld := hHeld (by decide)
                clear hK K
                try simp only [Act.put, List.getElem_toArray, List.getElem_cons_zero, List.getElem_cons_succ, List.setIfInBounds_toArray, List.set_cons_zero, List.set_cons_succ]
                refine to_ready (rs := [6]) (by kernel_rfl) (by simp) ?_
                refine AllTo.cons (o := _) rfl (fun K hK => ?_) AllTo.nil
                go_simp
                refine (KTC.out _ _ _).mono ?_
                rintro en6 w6' ⟨⟨g6, rfl, hg6⟩, hb6⟩
                have hz := below_trans hz hb6
                have hg5 := cell_below hb6 hg5
                have hg5' := cell_below hb6 hg5'
                have HBX := (hb6.block _ (lt_of_block HBX)).trans HBX
                try go_wp2_with fail
                refine hK.out _ _ (fun _ => ?_) (fun hHeld => ?_)
                · (try dsimp only); refine ⟨?_, ?_, ?_, ?_, ?_, ?_⟩ <;> (first | exact RG.out 0 _ rfl _ (by assumption) | exact RNW.out 2 _ rfl _ (by assumption) | exact RNW.out 3 _ rfl _ (by assumption) | exact (HCG.out _ (by assumption)).1 | exact (HCG.out _ (by assumption)).2.1 | exact (HCG.out _ (by assumption)).2.2)
                replace hHeld := hHeld (by decide)
                clear hK K
                try simp only [Act.put, List.getElem_toArray, List.getElem_cons_zero, List.getElem_cons_succ, List.setIfInBounds_toArray, List.set_cons_zero, List.set_cons_succ]
                refine to_ready (rs := [7]) (by kernel_rfl) (by simp) ?_
                refine AllTo.cons (o := _) rfl (fun K hK => ?_) AllTo.nil
                go_simp
                refine (KRC.out _ _ _ _ hz hg5 hg5' hg6).mono ?_
                rintro en7 w7 ⟨⟨r7, rfl, hl7, hn7⟩, hb7⟩
                obtain ⟨ar7, hq7⟩ := hl7.form
                rw [List.length_map, HNQ.out.2.2.2] at hq7
                subst hq7
                have hn7 : ∀ g, (Value.slice ar7 j j).ownBlock = some g → wo.heap.size ≤ g := fun g hg => Nat.le_trans hz.size (hn7 g hg)
                have hz := below_trans hz hb7
                have hg5 := cell_below hb7 hg5
                have hg5' := cell_below hb7 hg5'
                have hg6 := cell_below hb7 hg6
                have HBX := (hb7.block _ (lt_of_block HBX)).trans HBX
                try go_wp2_with fail
                refine hK.out _ _ (fun _ => ?_) (fun hHeld => ?_)
                · (try dsimp only); refine ⟨?_, ?_, ?_, ?_, ?_, ?_⟩ <;> (first | exact RG.out 0 _ rfl _ (by assumption) | exact RNW.out 2 _ rfl _ (by assumption) | exact RNW.out 3 _ rfl _ (by assumption) | exact (HCG.out _ (by assumption)).1 | exact (HCG.out _ (by assumption)).2.1 | exact (HCG.out _ (by assumption)).2.2)
                replace hHeld := hHeld (by decide)
                clear hK K
                try simp only [Act.put, List.getElem_toArray, List.getElem_cons_zero, List.getElem_cons_succ, List.setIfInBounds_toArray, List.set_cons_zero, List.set_cons_succ]
                refine to_ready (rs := [13]) (by kernel_rfl) (by simp) ?_
                refine AllTo.cons (o := _) rfl (fun K hK => ?_) AllTo.nil
                go_simp
                refine (KN9.out _ hz).mono ?_
                rintro en8 w8 ⟨⟨v8, rfl, f8, -⟩, hb8⟩
                obtain ⟨a8, n8, c8, i8, j8, k8, hq8⟩ := frac_form f8
                subst hq8
                obtain ⟨bq, hbq⟩ : ∃ bq, bq = decide ((-q).num < 0) := ⟨_, rfl⟩
                rw [← hbq] at f8
                rw [← hbq]
                clear hbq
                have hz := below_trans hz hb8
                have hg5 := cell_below hb8 hg5
                have hg5' := cell_below hb8 hg5'
                have hg6 := cell_below hb8 hg6
                have hl7 := hl7.below hb8
                have HBX := (hb8.block _ (lt_of_block HBX)).trans HBX
                try go_wp2_with fail
                refine hK.out _ _ (fun _ => ?_) (fun hHeld => ?_)
                · (try dsimp only); refine ⟨?_, ?_, ?_, ?_, ?_, ?_⟩ <;> (first | exact RG.out 0 _ rfl _ (by assumption) | exact RNW.out 2 _ rfl _ (by assumption) | exact RNW.out 3 _ rfl _ (by assumption) | exact (HCG.out _ (by assumption)).1 | exact (HCG.out _ (by assumption)).2.1 | exact (HCG.out _ (by assumption)).2.2)
                replace hHeld := hHeld (by decide)
                clear hK K
                try simp only [Act.put, List.getElem_toArray, List.getElem_cons_zero, List.getElem_cons_succ, List.setIfInBounds_toArray, List.set_cons_zero, List.set_cons_succ]
                refine to_take (i := 14) (oi := _) (v := ?_) rfl (by kernel_rfl) (by kernel_rfl) (by kernel_rfl) (fun _ _ _ h => h) (by kernel_rfl) (by decide) (Or.inl ⟨by kernel_rfl, ?_⟩) (by assumption) ?_
                rotate_left
                · intro w hSw
                  (try dsimp only at hSw)
                  go_simp
                  try with_reducible rfl
                try simp only [Act.put, List.getElem_toArray, List.getElem_cons_zero, List.getElem_cons_succ, List.setIfInBounds_toArray, List.set_cons_zero, List.set_cons_succ]
                refine to_ready (rs := [16]) (by kernel_rfl) (by simp) (AllTo.cons (o := _) rfl (fun K hK => ?_) AllTo.nil)
                rw [if_pos (by kernel_rfl)]
                refine oper_store_row _ _ rfl G1 0 rfl _ _ _ _ _ rfl _ HBX (Nat.le_refl _) row_one ?_
                intro w9 hr9 ho9
                refine hK.out _ _ (fun h => absurd rfl h) (fun _ => ?_)
                clear hK K
                try simp only [Act.put, List.getElem_toArray, List.getElem_cons_zero, List.getElem_cons_succ, List.setIfInBounds_toArray, List.set_cons_zero, List.set_cons_succ]
                refine to_done (by kernel_rfl) ?_ _
                go_wp2_with fail
                go_meet
                exact ⟨G1, _, _, _, _, _, _, _, _, rfl, Lib.hid hr9, Lib.hid (hl7.other HBX row_nou ho9 (fun g hg e => by obtain ⟨cs, h1⟩ := rkV_blk hl7 g hg; rw [e, HBX] at h1; simp at h1)), Lib.hid (fracV_other f8 HBX row_nou ho9), Lib.hid hn7, Lib.hid (below_only hz ho9 hG1), Lib.hid hG1⟩
              refine AllTo.cons (o := _) rfl (fun K hK => ?_) AllTo.nil
              rw [if_pos (by kernel_rfl)]
              refine oper_alloc_row rfl ?_
              intro G1 wA HBX hG1 hbA
              have hG1 := Nat.le_trans hz.size hG1
              have hz := below_trans hz hbA
              refine hK.out _ _ (fun _ => ?_) (fun hHeld => ?_)
              · (try dsimp only); refine ⟨?_, ?_, ?_, ?_, ?_, ?_⟩ <;> (first | exact RG.out 0 _ rfl _ (by assumption) | exact RNW.out 2 _ rfl _ (by assumption) | exact RNW.out 3 _ rfl _ (by assumption) | exact (HCG.out _ (by assumption)).1 | exact (HCG.out _ (by assumption)).2.1 | exact (HCG.out _ (by assumption)).2.2)
              replace hHeld := hHeld (by decide)
              clear hK K
              try simp only [Act.put, List.getElem_toArray, List.getElem_cons_zero, List.getElem_cons_succ, List.setIfInBounds_toArray, List.set_cons_zero, List.set_cons_succ]
              refine to_ready (rs := [5]) (by kernel_rfl) (by simp) ?_
              refine AllTo.cons (o := _) rfl (fun K hK => ?_) AllTo.nil
              go_simp
              refine (KC.out _).mono ?_
              rintro en5 w5' ⟨⟨g5, g5', rfl, hg5, hg5'⟩, hb5⟩
              have hz := below_trans hz hb5
              have HBX := (hb5.block _ (lt_of_block HBX)).trans HBX
              try go_wp2_with fail
              refine hK.out _ _ (fun _ => ?_) (fun hHeld => ?_)
              · (try dsimp only); refine ⟨?_, ?_, ?_, ?_, ?_, ?_⟩ <;> (first | exact RG.out 0 _ rfl _ (by assumption) | exact RNW.out 2 _ rfl _ (by assumption) | exact RNW.out 3 _ rfl _ (by assumption) | exact (HCG.out _ (by assumption)).1 | exact (HCG.out _ (by assumption)).2.1 | exact (HCG.out _ (by assumption)).2.2)
              replace hHeld := hHeld (by decide)
              clear hK K
              try simp only [Act.put, List.getElem_toArray, List.getElem_cons_zero, List.getElem_cons_succ, List.setIfInBounds_toArray, List.set_cons_zero, List.set_cons_succ]
              refine to_ready (rs := [6]) (by kernel_rfl) (by simp) ?_
              refine AllTo.cons (o := _) rfl (fun K hK => ?_) AllTo.nil
              go_simp
              refine (KTC.out _ _ _).mono ?_
              rintro en6 w6' ⟨⟨g6, rfl, hg6⟩, hb6⟩
              have hz := below_trans hz hb6
              have hg5 := cell_below hb6 hg5
              have hg5' := cell_below hb6 hg5'
              have HBX := (hb6.block _ (lt_of_block HBX)).trans HBX
              try go_wp2_with fail
              refine hK.out _ _ (fun _ => ?_) (fun hHeld => ?_)
              · (try dsimp only); refine ⟨?_, ?_, ?_, ?_, ?_, ?_⟩ <;> (first | exact RG.out 0 _ rfl _ (by assumption) | exact RNW.out 2 _ rfl _ (by assumption) | exact RNW.out 3 _ rfl _ (by assumption) | exact (HCG.out _ (by assumption)).1 | exact (HCG.out _ (by assumption)).2.1 | exact (HCG.out _ (by assumption)).2.2)
              replace hHeld := hHeld (by decide)
              clear hK K
              try simp only [Act.put, List.getElem_toArray, List.getElem_cons_zero, List.getElem_cons_succ, List.setIfInBounds_toArray, List.set_cons_zero, List.set_cons_succ]
              refine to_ready (rs := [7]) (by kernel_rfl) (by simp) ?_
              refine AllTo.cons (o := _) rfl (fun K hK => ?_) AllTo.nil
              go_simp
              refine (KRC.out _ _ _ _ hz hg5 hg5' hg6).mono ?_
              rintro en7 w7 ⟨⟨r7, rfl, hl7, hn7⟩, hb7⟩
              obtain ⟨ar7, hq7⟩ := hl7.form
              rw [List.length_map, HNQ.out.2.2.2] at hq7
              subst hq7
              have hn7 : ∀ g, (Value.slice ar7 j j).ownBlock = some g → wo.heap.size ≤ g := fun g hg => Nat.le_trans hz.size (hn7 g hg)
              have hz := below_trans hz hb7
              have hg5 := cell_below hb7 hg5
              have hg5' := cell_below hb7 hg5'
              have hg6 := cell_below hb7 hg6
              have HBX := (hb7.block _ (lt_of_block HBX)).trans HBX
              try go_wp2_with fail
              refine hK.out _ _ (fun _ => ?_) (fun hHeld => ?_)
              · (try dsimp only); refine ⟨?_, ?_, ?_, ?_, ?_, ?_⟩ <;> (first | exact RG.out 0 _ rfl _ (by assumption) | exact RNW.out 2 _ rfl _ (by assumption) | exact RNW.out 3 _ rfl _ (by assumption) | exact (HCG.out _ (by assumption)).1 | exact (HCG.out _ (by assumption)).2.1 | exact (HCG.out _ (by assumption)).2.2)
              replace hHeld := hHeld (by decide)
              clear hK K
              try simp only [Act.put, List.getElem_toArray, List.getElem_cons_zero, List.getElem_cons_succ, List.setIfInBounds_toArray, List.set_cons_zero, List.set_cons_succ]
              refine to_ready (rs := [13]) (by kernel_rfl) (by simp) ?_
              refine AllTo.cons (o := _) rfl (fun K hK => ?_) AllTo.nil
              go_simp
              refine (KN9.out _ hz).mono ?_
              rintro en8 w8 ⟨⟨v8, rfl, f8, -⟩, hb8⟩
              obtain ⟨a8, n8, c8, i8, j8, k8, hq8⟩ := frac_form f8
              subst hq8
              obtain ⟨bq, hbq⟩ : ∃ bq, bq = decide ((-q).num < 0) := ⟨_, rfl⟩
              rw [← hbq] at f8
              rw [← hbq]
              clear hbq
              have hz := below_trans hz hb8
              have hg5 := cell_below hb8 hg5
              have hg5' := cell_below hb8 hg5'
              have hg6 := cell_below hb8 hg6
              have hl7 := hl7.below hb8
              have HBX := (hb8.block _ (lt_of_block HBX)).trans HBX
              try go_wp2_with fail
              refine hK.out _ _ (fun _ => ?_) (fun hHeld => ?_)
              · (try dsimp only); refine ⟨?_, ?_, ?_, ?_, ?_, ?_⟩ <;> (first | exact RG.out 0 _ rfl _ (by assumption) | exact RNW.out 2 _ rfl _ (by assumption) | exact RNW.out 3 _ rfl _ (by assumption) | exact (HCG.out _ (by assumption)).1 | exact (HCG.out _ (by assumption)).2.1 | exact (HCG.out _ (by assumption)).2.2)
              replace hHeld := hHeld (by decide)
              clear hK K
              try simp only [Act.put, List.getElem_toArray, List.getElem_cons_zero, List.getElem_cons_succ, List.setIfInBounds_toArray, List.set_cons_zero, List.set_cons_succ]
              refine to_take (i := 14) (oi := _) (v := ?_) rfl (by kernel_rfl) (by kernel_rfl) (by kernel_rfl) (fun _ _ _ h => h) (by kernel_rfl) (by decide) (Or.inl ⟨by kernel_rfl, ?_⟩) (by assumption) ?_
              rotate_left
              · intro w hSw
                (try dsimp only at hSw)
                go_simp
                try with_reducible rfl
              try simp only [Act.put, List.getElem_toArray, List.getElem_cons_zero, List.getElem_cons_succ, List.setIfInBounds_toArray, List.set_cons_zero, List.set_cons_succ]
              refine to_ready (rs := [16]) (by kernel_rfl) (by simp) (AllTo.cons (o := _) rfl (fun K hK => ?_) AllTo.nil)
              rw [if_pos (by kernel_rfl)]
              refine oper_store_row _ _ rfl G1 0 rfl _ _ _ _ _ rfl _ HBX (Nat.le_refl _) row_one ?_
              intro w9 hr9 ho9
              refine hK.out _ _ (fun h => absurd rfl h) (fun _ => ?_)
              clear hK K
              try simp only [Act.put, List.getElem_toArray, List.getElem_cons_zero, List.getElem_cons_succ, List.setIfInBounds_toArray, List.set_cons_zero, List.set_cons_succ]
              refine to_done (by kernel_rfl) ?_ _
              go_wp2_with fail
              go_meet
              exact ⟨G1, _, _, _, _, _, _, _, _, rfl, Lib.hid hr9, Lib.hid (hl7.other HBX row_nou ho9 (fun g hg e => by obtain ⟨cs, h1⟩ := rkV_blk hl7 g hg; rw [e, HBX] at h1; simp at h1)), Lib.hid (fracV_other f8 HBX row_nou ho9), Lib.hid hn7, Lib.hid (below_only hz ho9 hG1), Lib.hid hG1⟩
            case rest =>
              obtain ⟨w7, rfl⟩ : ∃ w8 : World, w8 = wc := ⟨_, rfl⟩
              obtain ⟨T, ar, bb, a7, n7, c7, i7, j7, k7, rfl, HT7, HL7, HF7, HA7, HZ7, HTB⟩ := hcut
              have n1 := RNW.out 1 _ rfl _ HZ7.out
              have f1 := HCF.out _ HZ7.out
              have HG7 := Lib.hid ((HZ7.out.block _ (lt_of_block hG9.out)).trans hG9.out)
              have HGT : Hid (G ≠ T) := Lib.hid (by have := lt_of_block hG9.out; have := HTB.out; omega)
              have HWS : Hid (wo.heap.size ≤ w7.heap.size) := Lib.hid HZ7.out.size
              cases fb with
              | true =>
                rw [show (if true = true then (0 : Int) else -1) = 0 from rfl] at HDR
                have z1 := frozen_of_row _ _ 1 _ _ HT7.out
                have z0 := cells_later HT7.out 1 _ rfl _ (Below.refl _ _)
                have HT8 := Lib.hid (set1_row5 HT7.out (v := Value.int .i64 0))
                have HON8 := Lib.hid (setk_only w7 T 1 (Value.int .i64 0))
                have HZ8 := Lib.hid (below_only HZ7.out HON8.out HTB.out)
                have HL8 := Lib.hid (HL7.out.other HT7.out row_nou HON8.out (fun g hg e => by obtain ⟨cs, h1⟩ := rkV_blk HL7.out g hg; rw [e, HT7.out] at h1; simp at h1))
                have HF8 := Lib.hid (fracV_other HF7.out HT7.out row_nou HON8.out)
                have HG8 := Lib.hid ((HON8.out.block _ HGT.out).trans HG7.out)
                have HS8 := Lib.hid HON8.out.size
                have k3 := cells_later HG8.out 3 _ rfl _ (Below.refl _ _)
                have y0 := cells_later HT8.out 0 _ rfl _ (Below.refl _ _)
                have y1 := cells_later HT8.out 1 _ rfl _ (Below.refl _ _)
                have y2 := cells_later HT8.out 2 _ rfl _ (Below.refl _ _)
                have y3 := cells_later HT8.out 3 _ rfl _ (Below.refl _ _)
                have y4 := cells_later HT8.out 4 _ rfl _ (Below.refl _ _)
                obtain ⟨w9, hw9⟩ : ∃ w9, w9 = (w7.setCell ⟨T, 1, none⟩ (Value.int .i64 0)).alloc (Obj.cells #[Value.slice ar j j, Value.int .i64 0, Value.bool bb, Value.slice a7 n7 c7, Value.slice i7 j7 k7] 45) := ⟨_, rfl⟩
                have hb9 : Below (w7.setCell ⟨T, 1, none⟩ (Value.int .i64 0)).heap.size (w7.setCell ⟨T, 1, none⟩ (Value.int .i64 0)) w9 := by rw [hw9]; exact (Below.refl _ _).alloc (Nat.le_refl _) _
                have HR9 : Hid (w9.heap[w7.heap.size]? = some (.cells #[Value.slice ar j j, Value.int .i64 0, Value.bool bb, Value.slice a7 n7 c7, Value.slice i7 j7 k7] 45 (0, 0))) := Lib.hid (by rw [← HS8.out, hw9]; exact heap_alloc_new _ _)
                have HZ9 := Lib.hid (below_trans HZ8.out hb9)
                have HO9 := Lib.hid (hO.out.below HZ9.out)
                have HL9 := Lib.hid (HL8.out.below hb9)
                have HF9 := Lib.hid (HF8.out.below hb9)
                have hs9 : Hid (w6.heap.size ≤ w9.heap.size) := Lib.hid (Nat.le_trans hsz9.out HZ9.out.size)
                have HNE : Hid (∀ g, (Value.slice ar j j).ownBlock = some g → (Value.slice ra2 k rc2).ownBlock ≠ some g ∧ g < w9.heap.size ∧ w6.heap.size ≤ g) := Lib.hid (fun g hg => ⟨fun e => by have h1 := HA7.out g hg; have h2 := (hO.out.lt g e).2; omega, HL9.out.lt9 g hg, by have h1 := HA7.out g hg; have h2 := hsz9.out; omega⟩)
                clear hb9
                go_wp2_with (at_builtin; rw [← hw9]; refine wpList_push_row (K := rkV) rfl _ _ rfl w6.heap.size (Value.slice ra2 k rc2) _ rfl HO9.out w7.heap.size 1 ar j j bb a7 i7 n7 c7 j7 k7 ((n.rows.map (fun r => -(nthQ r.1 k)), 0, -q) : List Rat × Int × Rat) rfl HR9.out HL9.out HF9.out HNE.out (by rw [List.length_take]; omega) hs9.out ?_; intro v10 w10 hown10 hg10 hbel10 hat10; refine halt ?_)
                rw [← HDR.out, HTK.out.1] at hown10
                have HB10 : Hid (Below w6.heap.size wo w10) := Lib.hid (hbel10 wo (HZ9.out.mono hsz9.out))
                have HG10 := Lib.hid ((HB10.out.block _ HGWO.out).trans hG9.out)
                obtain ⟨na, nc, hv10⟩ := hown10.form
                rw [← HTK.out.1, HTK.out.2] at hv10
                subst hv10
                have HZ10 : Hid (Below w4.heap.size w4 w10) := Lib.hid (hZ9.out.trans (HB10.out.mono HZ6.out.size))
                have HF10 := Lib.hid (hF.out.belowN HFLT.out HB10.out)
                have HD10 := Lib.hid ((hD9.out.below HZ9.out).grown HO9.out.clean hg10 (fun g hg e => by have h1 := (HO9.out.lt g e).1; have h2 := HDLT.out g hg; omega))
                have HS10 : Hid (w6.heap.size ≤ w10.heap.size) := Lib.hid (Nat.le_trans hs9.out hg10.size)
                have g3 := cells_later HG10.out 3 _ rfl _ (Below.refl _ _)
                have g4 := frozen_of_row _ _ 3 _ _ HG10.out
                have HON := Lib.hid (set3_only w10 G (Value.slice na (k + 1) nc))
                have HG11 := Lib.hid (set3_row HG10.out (v := Value.slice na (k + 1) nc))
                have HO11 := Lib.hid (hown10.other HG10.out prog_cells HON.out HGWO.out)
                have HF11 := Lib.hid (HF10.out.other HG10.out prog_nobool HON.out)
                have HD11 := Lib.hid (HD10.out.other HG10.out prog_cells HON.out (fun g hg e => by obtain ⟨cs, h1⟩ := rkV_blk HD10.out g hg; rw [e, HG10.out] at h1; simp at h1))
                have HZ11 := Lib.hid (below_only HZ10.out HON.out HGB.out)
                have HS11 : Hid (w6.heap.size ≤ (w10.setCell ⟨G, 3, none⟩ (Value.slice na (k + 1) nc)).heap.size) := Lib.hid (by rw [HON.out.size]; exact HS10.out)
                clear hown10 hg10 hbel10 hat10 hw9 y0 y1 y2 y3 y4 k3 t0
                refine go_on ?_
                go_wp2_with fail
                go_roundw
                case rel => exact ⟨k + 1, _, _, by omega, by go_num, HG11, HO11, HF11, HD11, HZ11, HS11⟩
                case measure => simp [intOf]; omega
              | false =>
                rw [show (if false = true then (0 : Int) else -1) = -1 from rfl] at HDR
                have HT8 := HT7
                have HON8 : Hid (Only T w7 w7) := Lib.hid (Only.refl T w7)
                have HZ8 := Lib.hid (below_only HZ7.out HON8.out HTB.out)
                have HL8 := Lib.hid (HL7.out.other HT7.out row_nou HON8.out (fun g hg e => by obtain ⟨cs, h1⟩ := rkV_blk HL7.out g hg; rw [e, HT7.out] at h1; simp at h1))
                have HF8 := Lib.hid (fracV_other HF7.out HT7.out row_nou HON8.out)
                have HG8 := Lib.hid ((HON8.out.block _ HGT.out).trans HG7.out)
                have HS8 := Lib.hid HON8.out.size
                have k3 := cells_later HG8.out 3 _ rfl _ (Below.refl _ _)
                have y0 := cells_later HT8.out 0 _ rfl _ (Below.refl _ _)
                have y1 := cells_later HT8.out 1 _ rfl _ (Below.refl _ _)
                have y2 := cells_later HT8.out 2 _ rfl _ (Below.refl _ _)
                have y3 := cells_later HT8.out 3 _ rfl _ (Below.refl _ _)
                have y4 := cells_later HT8.out 4 _ rfl _ (Below.refl _ _)
                obtain ⟨w9, hw9⟩ : ∃ w9, w9 = w7.alloc (Obj.cells #[Value.slice ar j j, Value.int .i64 (-1), Value.bool bb, Value.slice a7 n7 c7, Value.slice i7 j7 k7] 45) := ⟨_, rfl⟩
                have hb9 : Below w7.heap.size w7 w9 := by rw [hw9]; exact (Below.refl _ _).alloc (Nat.le_refl _) _
                have HR9 : Hid (w9.heap[w7.heap.size]? = some (.cells #[Value.slice ar j j, Value.int .i64 (-1), Value.bool bb, Value.slice a7 n7 c7, Value.slice i7 j7 k7] 45 (0, 0))) := Lib.hid (by rw [← HS8.out, hw9]; exact heap_alloc_new _ _)
                have HZ9 := Lib.hid (below_trans HZ8.out hb9)
                have HO9 := Lib.hid (hO.out.below HZ9.out)
                have HL9 := Lib.hid (HL8.out.below hb9)
                have HF9 := Lib.hid (HF8.out.below hb9)
                have hs9 : Hid (w6.heap.size ≤ w9.heap.size) := Lib.hid (Nat.le_trans hsz9.out HZ9.out.size)
                have HNE : Hid (∀ g, (Value.slice ar j j).ownBlock = some g → (Value.slice ra2 k rc2).ownBlock ≠ some g ∧ g < w9.heap.size ∧ w6.heap.size ≤ g) := Lib.hid (fun g hg => ⟨fun e => by have h1 := HA7.out g hg; have h2 := (hO.out.lt g e).2; omega, HL9.out.lt9 g hg, by have h1 := HA7.out g hg; have h2 := hsz9.out; omega⟩)
                clear hb9
                go_wp2_with (at_builtin; rw [← hw9]; refine wpList_push_row (K := rkV) rfl _ _ rfl w6.heap.size (Value.slice ra2 k rc2) _ rfl HO9.out w7.heap.size 1 ar j j bb a7 i7 n7 c7 j7 k7 ((n.rows.map (fun r => -(nthQ r.1 k)), (-1), -q) : List Rat × Int × Rat) rfl HR9.out HL9.out HF9.out HNE.out (by rw [List.length_take]; omega) hs9.out ?_; intro v10 w10 hown10 hg10 hbel10 hat10; refine halt ?_)
                rw [← HDR.out, HTK.out.1] at hown10
                have HB10 : Hid (Below w6.heap.size wo w10) := Lib.hid (hbel10 wo (HZ9.out.mono hsz9.out))
                have HG10 := Lib.hid ((HB10.out.block _ HGWO.out).trans hG9.out)
                obtain ⟨na, nc, hv10⟩ := hown10.form
                rw [← HTK.out.1, HTK.out.2] at hv10
                subst hv10
                have HZ10 : Hid (Below w4.heap.size w4 w10) := Lib.hid (hZ9.out.trans (HB10.out.mono HZ6.out.size))
                have HF10 := Lib.hid (hF.out.belowN HFLT.out HB10.out)
                have HD10 := Lib.hid ((hD9.out.below HZ9.out).grown HO9.out.clean hg10 (fun g hg e => by have h1 := (HO9.out.lt g e).1; have h2 := HDLT.out g hg; omega))
                have HS10 : Hid (w6.heap.size ≤ w10.heap.size) := Lib.hid (Nat.le_trans hs9.out hg10.size)
                have g3 := cells_later HG10.out 3 _ rfl _ (Below.refl _ _)
                have g4 := frozen_of_row _ _ 3 _ _ HG10.out
                have HON := Lib.hid (set3_only w10 G (Value.slice na (k + 1) nc))
                have HG11 := Lib.hid (set3_row HG10.out (v := Value.slice na (k + 1) nc))
                have HO11 := Lib.hid (hown10.other HG10.out prog_cells HON.out HGWO.out)
                have HF11 := Lib.hid (HF10.out.other HG10.out prog_nobool HON.out)
                have HD11 := Lib.hid (HD10.out.other HG10.out prog_cells HON.out (fun g hg e => by obtain ⟨cs, h1⟩ := rkV_blk HD10.out g hg; rw [e, HG10.out] at h1; simp at h1))
                have HZ11 := Lib.hid (below_only HZ10.out HON.out HGB.out)
                have HS11 : Hid (w6.heap.size ≤ (w10.setCell ⟨G, 3, none⟩ (Value.slice na (k + 1) nc)).heap.size) := Lib.hid (by rw [HON.out.size]; exact HS10.out)
                clear hown10 hg10 hbel10 hat10 hw9 y0 y1 y2 y3 y4 k3 t0
                refine go_on ?_
                go_wp2_with fail
                go_roundw
                case rel => exact ⟨k + 1, _, _, by omega, by go_num, HG11, HO11, HF11, HD11, HZ11, HS11⟩
                case measure => simp [intOf]; omega
          · have t0 : decide ((k : Int) < (fn : Int)) = false := by simp; omega
            obtain rfl : k = fn := by omega
            have HR9 := ((below_trans HZ4.out hZ9.out).block _ (lt_of_block HO1.out)).trans HO1.out
            have hlow : w.heap.size + 1 < w6.heap.size := Nat.lt_of_lt_of_le (lt_of_block HO1.out) (below_trans HZ4.out HZ6.out).size
            have g0 := cells_later hG9.out 0 _ rfl _ (Below.refl _ _)
            have g1 := cells_later hG9.out 1 _ rfl _ (Below.refl _ _)
            have g2 := cells_later hG9.out 2 _ rfl _ (Below.refl _ _)
            have g3 := cells_later hG9.out 3 _ rfl _ (Below.refl _ _)
            go_wp2_with ((with_reducible refine at_store ?_); refine wpList_store_var rfl _ _ _ rfl (w.heap.size + 1) rfl _ rfl _ _ HR9 info_prog9 rfl prog_one ?_; intro w7 h7 hon7; refine halt ?_)
            refine go_on ?_
            have HO7 := hO.out.other HR9 prog_cells hon7 hlow
            rw [List.take_of_length_le (by rw [List.length_map, List.length_range]; have := HNQ.out; omega)] at HO7
            have HF7 := hF.out.other HR9 prog_nobool hon7
            have HL7 := rkV.otherL hD9.out HR9 prog_cells hon7 (fun g hg e => by obtain ⟨cs, h1⟩ := rkV_blk hD9.out g hg; rw [e, HR9] at h1; simp at h1)
            go_wp2_with fail
            refine bodyPost_ret (results_row_tmp rfl _ _ (w.heap.size + 1) _ _ _ _ rfl h7 Tryz.underlying26 rfl info_prog9) rfl ⟨⟨_, rfl, fa2, fc2, gd, j, ra2, rc2, w6.heap.size, ?_, HF7, ?_, ?_, Nat.le_trans (by omega) (Nat.le_of_lt hlow), HFLT.out, ?_, by rw [hon7.size]; exact hsz9.out⟩, ?_⟩
            · show _ = Value.agg #[.int .i64 (n.rows.length : Nat), .slice fa2 (n.rows.map (fun r => decide (r.2.1 = 0))).length fc2, .slice gd (n.rows.map (fun r => -r.2.2)).length j, .slice ra2 ((List.range n.goal.length).map (dualR n)).length rc2]
              rw [List.length_map, List.length_map, List.length_map, List.length_range, HNQ.out.2.2.2, HNQ.out.2.2.1]
            · show rkV.L _ (.slice gd (n.rows.map (fun r => -r.2.2)).length j) (n.rows.map (fun r => -r.2.2))
              rw [List.length_map, HNQ.out.2.2.2]
              exact HL7
            · show LRo rkV _ w6.heap.size (.slice ra2 ((List.range n.goal.length).map (dualR n)).length rc2) ((List.range n.goal.length).map (dualR n))
              rw [List.length_map, List.length_range, show Value.slice ra2 n.goal.length rc2 = Value.slice ra2 k rc2 from by rw [HNQ.out.2.2.1]]
              exact HO7
            · show ∀ g, (Value.slice gd (n.rows.map (fun r => -r.2.2)).length j).ownBlock = some g → g < w6.heap.size
              rw [List.length_map, HNQ.out.2.2.2]
              exact HDLT.out
            · exact below_only (below_trans HB1.out (below_trans HZ4.out hZ9.out)) hon7 (Nat.le_succ _)
end Go.Proofs.YtafenoohjcpjgaaGreat
