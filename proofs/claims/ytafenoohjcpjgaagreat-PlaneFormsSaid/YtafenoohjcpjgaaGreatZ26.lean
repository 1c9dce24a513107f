/- Several texts in one: Y8. -/
import Derived.Test.YtafenoohjcpjgaaGreatZ25
import Derived.Deep.RegionHeld3
import Derived.Deep.DrawnRows
/- Fix of the reference: a program with fixed numbers. -/
namespace Go.Proofs.YtafenoohjcpjgaaGreat
open Go.RowKit
attribute [local go_sem ↓] Go.wp_at_zero Go.wp_at_succ

set_option maxRecDepth 100000 in
set_option maxHeartbeats 8000000 in
set_option linter.unusedSimpArgs false in
theorem rfixP_w {N : Nat} {w : World} {v : Value} {P : Pm} (h : ProgF N w v P) (hrb : rightB2 P = true) (hN : N ≤ 500) (hv1 : P.vars ≤ 160) (hr1 : P.rows.length ≤ 400) :
    Calls Tryz.prog 24 #[v] w fun e w' => (∃ r, e = .returned r ∧ ProgN (rkF (2 * N + 1)) w' w.heap.size r P) ∧ Below w.heap.size w w' := by
  have HRB := Lib.hid hrb
  have HP := Lib.hid h
  obtain ⟨fa, fc, ga, gc, ra, rc, rfl, -, -, hB, hG, hR⟩ := h
  have HBO := Lib.hid hB
  have HR := Lib.hid hR
  obtain ⟨z, hz⟩ : ∃ z, z = P.vars := ⟨_, rfl⟩
  obtain ⟨fn, hfn⟩ : ∃ n, n = P.free.length := ⟨_, rfl⟩
  obtain ⟨gn, hgn⟩ : ∃ n, n = P.goal.length := ⟨_, rfl⟩
  obtain ⟨rn, hrn⟩ : ∃ n, n = P.rows.length := ⟨_, rfl⟩
  rw [← hz] at HP ⊢
  rw [← hfn] at HP ⊢
  rw [← hgn] at HP hG ⊢
  rw [← hrn] at HP ⊢
  have HG := Lib.hid hG
  have HEQ := Lib.hid (And.intro hz (And.intro hfn (And.intro hgn hrn)))
  have HZF : Hid (z = (gn : Int) ∧ fn = gn ∧ 0 < gn ∧ gn ≤ 160 ∧ rn ≤ 400) := Lib.hid (by have := right_goal hrb; omega)
  obtain ⟨hzg, hfg, hg0, hg160, hr400⟩ := HZF.out
  clear hB hR hG hz hfn hgn hrn hrb hv1 hr1
  subst hfg
  subst hzg
  obtain ⟨w1, hw1⟩ : ∃ w1, w1 = (w.alloc (Obj.cells #[Value.int .i64 (fn : Int), Value.slice fa fn fc, Value.slice ga fn gc, Value.slice ra rn rc] 26)).alloc (Obj.cells #[Value.int .i64 0, Value.slice none 0 0, Value.slice none 0 0, Value.slice none 0 0] 26) := ⟨_, rfl⟩
  have HB1 : Hid (Below w.heap.size w w1) := Lib.hid (by rw [hw1]; exact ((Below.refl _ _).alloc (Nat.le_refl _) _).alloc (by simp) _)
  have HX1 : Hid (w1.heap[w.heap.size]? = some (.cells #[Value.int .i64 (fn : Int), Value.slice fa fn fc, Value.slice ga fn gc, Value.slice ra rn rc] 26 (0, 0))) := Lib.hid (by rw [hw1]; exact heap_alloc2_old w _ _)
  have HO1 : Hid (w1.heap[w.heap.size + 1]? = some (.cells #[Value.int .i64 0, Value.slice none 0 0, Value.slice none 0 0, Value.slice none 0 0] 26 (0, 0))) := Lib.hid (by rw [hw1]; exact heap_alloc2_new w _ _)
  have HW1 := Lib.hid hw1.symm
  clear hw1
  have RX := Lib.hid (cells_later HX1.out)
  have hb1 := Below.refl w1.heap.size w1
  have x0 := RX.out 0 _ rfl _ hb1
  have x1 := RX.out 1 _ rfl _ hb1
  have x2 := RX.out 2 _ rfl _ hb1
  have x3 := RX.out 3 _ rfl _ hb1
  have KC := Lib.hid (fun w' (hb : Below w.heap.size w w') => clean_w (w := w') (HG.out.below hb) hN (by have := HEQ.out; omega))
  go_enter Tryz.func24, Tryz.ntmps24
  go_wp2_with fail
  rw [HW1.out]
  go_cut [3] (fun sv wc => ∃ (G : Nat) (ga' : Option Addr) (gc' : Nat), sv = .pointer (some ⟨G, 0, none⟩) ∧ Hid (wc.heap[G]? = some (.cells #[Value.int .i64 (fn : Int), Value.slice fa fn fc, Value.slice ga' fn gc', Value.slice none 0 0] 26 (0, 0))) ∧ Hid ((rkF (2 * N + 1)).L wc (.slice ga' fn gc') P.goal) ∧ Hid (∀ g, (Value.slice ga' fn gc').ownBlock = some g → g ≠ G ∧ g < wc.heap.size) ∧ Hid (∀ g, (Value.slice ga' fn gc').ownBlock = some g → w1.heap.size ≤ g) ∧ Hid (Below w1.heap.size w1 wc) ∧ Hid (w1.heap.size ≤ G))
  case first =>
    have hz : Below w1.heap.size w1 w1.drew := below_drewN (Below.refl _ _) 1
    refine wp_region_to 9 (fun w' => w'.cell? ⟨w.heap.size, 0, none⟩ = some (.int .i64 (fn : Int)) ∧ w'.cell? ⟨w.heap.size, 1, none⟩ = some (.slice fa fn fc) ∧ w'.cell? ⟨w.heap.size, 2, none⟩ = some (.slice ga fn gc) ∧ w'.cell? ⟨w.heap.size, 3, none⟩ = some (.slice ra rn rc)) (by kernel_rfl) (by (try dsimp only); refine ⟨?_, ?_, ?_, ?_⟩ <;> (first | exact RX.out 0 _ rfl _ (by assumption) | exact RX.out 1 _ rfl _ (by assumption) | exact RX.out 2 _ rfl _ (by assumption) | exact RX.out 3 _ rfl _ (by assumption))) (fun hHeld => ?_)
    refine to_take (i := 0) (oi := _) (v := ?_) rfl (by kernel_rfl) (by kernel_rfl) (by kernel_rfl) (fun _ _ _ h => h) (by kernel_rfl) (by decide) (Or.inl ⟨by kernel_rfl, ?_⟩) (by assumption) ?_
    rotate_left
    · intro w hSw
      (try dsimp only at hSw)
      go_simp
      try with_reducible rfl
    try simp only [Act.put, List.getElem_toArray, List.getElem_cons_zero, List.getElem_cons_succ, List.setIfInBounds_toArray, List.set_cons_zero, List.set_cons_succ]
    refine to_take (i := 1) (oi := _) (v := ?_) rfl (by kernel_rfl) (by kernel_rfl) (by kernel_rfl) (fun _ _ _ h => h) (by kernel_rfl) (by decide) (Or.inl ⟨by kernel_rfl, ?_⟩) (by assumption) ?_
    rotate_left
    · intro w hSw
      (try dsimp only at hSw)
      go_simp
      try with_reducible rfl
    try simp only [Act.put, List.getElem_toArray, List.getElem_cons_zero, List.getElem_cons_succ, List.setIfInBounds_toArray, List.set_cons_zero, List.set_cons_succ]
    refine to_take (i := 2) (oi := _) (v := ?_) rfl (by kernel_rfl) (by kernel_rfl) (by kernel_rfl) (fun _ _ _ h => h) (by kernel_rfl) (by decide) (Or.inl ⟨by kernel_rfl, ?_⟩) (by assumption) ?_
    rotate_left
    · intro w hSw
      (try dsimp only at hSw)
      go_simp
      try with_reducible rfl
    try simp only [Act.put, List.getElem_toArray, List.getElem_cons_zero, List.getElem_cons_succ, List.setIfInBounds_toArray, List.set_cons_zero, List.set_cons_succ]
    refine to_take (i := 3) (oi := _) (v := ?_) rfl (by kernel_rfl) (by kernel_rfl) (by kernel_rfl) (fun _ _ _ h => h) (by kernel_rfl) (by decide) (Or.inl ⟨by kernel_rfl, ?_⟩) (by assumption) ?_
    rotate_left
    · intro w hSw
      (try dsimp only at hSw)
      go_simp
      try with_reducible rfl
    try simp only [Act.put, List.getElem_toArray, List.getElem_cons_zero, List.getElem_cons_succ, List.setIfInBounds_toArray, List.set_cons_zero, List.set_cons_succ]
    refine to_take (i := 4) (oi := _) (v := ?_) rfl (by kernel_rfl) (by kernel_rfl) (by kernel_rfl) (fun _ _ _ h => h) (by kernel_rfl) (by decide) (Or.inl ⟨by kernel_rfl, ?_⟩) (by assumption) ?_
    rotate_left
    · intro w hSw
      (try dsimp only at hSw)
      go_simp
      try with_reducible rfl
    try simp only [Act.put, List.getElem_toArray, List.getElem_cons_zero, List.getElem_cons_succ, List.setIfInBounds_toArray, List.set_cons_zero, List.set_cons_succ]
    refine to_take (i := 5) (oi := _) (v := ?_) rfl (by kernel_rfl) (by kernel_rfl) (by kernel_rfl) (fun _ _ _ h => h) (by kernel_rfl) (by decide) (Or.inl ⟨by kernel_rfl, ?_⟩) (by assumption) ?_
    rotate_left
    · intro w hSw
      (try dsimp only at hSw)
      go_simp
      try with_reducible rfl
    try simp only [Act.put, List.getElem_toArray, List.getElem_cons_zero, List.getElem_cons_succ, List.setIfInBounds_toArray, List.set_cons_zero, List.set_cons_succ]
    refine to_ready (rs := [6, 8]) (by kernel_rfl) (by simp) ?_
    refine AllTo.cons (o := _) rfl (fun K hK => ?_) ?_
    · go_simp
      refine (KC.out _ (below_trans HB1.out hz)).mono ?_
      rintro en6 w6 ⟨⟨r6, rfl, hl6⟩, hb6⟩
      obtain ⟨ga6, gc6, hq6⟩ := hl6.form
      rw [← HEQ.out.2.2.1] at hq6
      subst hq6
      have hnb : ∀ g, (Value.slice ga6 fn gc6).ownBlock = some g → w1.heap.size ≤ g := fun g hg => Nat.le_trans hz.size (hl6.lt g hg).1
      have hz := below_trans hz hb6
      try go_wp2_with fail
      refine hK.out _ _ (fun _ => ?_) (fun hHeld => ?_)
      · (try dsimp only); refine ⟨?_, ?_, ?_, ?_⟩ <;> (first | exact RX.out 0 _ rfl _ (by assumption) | exact RX.out 1 _ rfl _ (by assumption) | exact RX.out 2 _ rfl _ (by assumption) | exact RX.out 3 _ rfl _ (by assumption))
      replace hHeld := hHeld (by decide)
      clear hK K
      try simp only [Act.put, List.getElem_toArray, List.getElem_cons_zero, List.getElem_cons_succ, List.setIfInBounds_toArray, List.set_cons_zero, List.set_cons_succ]
      refine to_take (i := 7) (oi := _) (v := ?_) rfl (by kernel_rfl) (by kernel_rfl) (by kernel_rfl) (fun _ _ _ h => h) (by kernel_rfl) (by decide) (Or.inl ⟨by kernel_rfl, ?_⟩) (by assumption) ?_
      rotate_left
      · intro w hSw
        (try dsimp only at hSw)
        go_simp
        try with_reducible rfl
      try simp only [Act.put, List.getElem_toArray, List.getElem_cons_zero, List.getElem_cons_succ, List.setIfInBounds_toArray, List.set_cons_zero, List.set_cons_succ]
      refine to_ready (rs := [8]) (by kernel_rfl) (by simp) ?_
      refine AllTo.cons (o := _) rfl (fun K hK => ?_) AllTo.nil
      rw [if_pos (by kernel_rfl)]
      refine oper_alloc_prog rfl ?_
      intro G wA HBX hG hbA
      have hne : ∀ g, (Value.slice ga6 fn gc6).ownBlock = some g → g ≠ G ∧ g < wA.heap.size := fun g hg => ⟨by have h1 := (hl6.lt g hg).2; omega, Nat.lt_of_lt_of_le (hl6.lt g hg).2 hbA.size⟩
      have hG := Nat.le_trans hz.size hG
      have hz := below_trans hz hbA
      have hl6 := hl6.below hbA
      refine hK.out _ _ (fun _ => ?_) (fun hHeld => ?_)
      · (try dsimp only); refine ⟨?_, ?_, ?_, ?_⟩ <;> (first | exact RX.out 0 _ rfl _ (by assumption) | exact RX.out 1 _ rfl _ (by assumption) | exact RX.out 2 _ rfl _ (by assumption) | exact RX.out 3 _ rfl _ (by assumption))
      replace hHeld := hHeld (by decide)
      clear hK K
      try simp only [Act.put, List.getElem_toArray, List.getElem_cons_zero, List.getElem_cons_succ, List.setIfInBounds_toArray, List.set_cons_zero, List.set_cons_succ]
      refine to_ready (rs := [9]) (by kernel_rfl) (by simp) (AllTo.cons (o := _) rfl (fun K hK => ?_) AllTo.nil)
      rw [if_pos (by kernel_rfl)]
      refine oper_store_prog _ _ rfl G rfl _ _ _ _ rfl _ HBX rfl prog_one ?_
      intro w9 hr9 ho9
      refine hK.out _ _ (fun h => absurd rfl h) (fun _ => ?_)
      clear hK K
      try simp only [Act.put, List.getElem_toArray, List.getElem_cons_zero, List.getElem_cons_succ, List.setIfInBounds_toArray, List.set_cons_zero, List.set_cons_succ]
      refine to_done (by kernel_rfl) ?_ _
      go_wp2_with fail
      go_meet
      exact ⟨G, _, _, rfl, Lib.hid hr9, Lib.hid ((rkF (2 * N + 1)).otherL ⟨_, hl6⟩ HBX prog_cells ho9 (fun g hg => (hne g hg).1)), Lib.hid (fun g hg => ⟨(hne g hg).1, by rw [ho9.size]; exact (hne g hg).2⟩), Lib.hid hnb, Lib.hid (below_only hz ho9 hG), Lib.hid hG⟩
    refine AllTo.cons (o := _) rfl (fun K hK => ?_) AllTo.nil
    rw [if_pos (by kernel_rfl)]
    refine oper_alloc_prog rfl ?_
    intro G wA HBX hG hbA
    have hG := Nat.le_trans hz.size hG
    have hz := below_trans hz hbA
    refine hK.out _ _ (fun _ => ?_) (fun hHeld => ?_)
    · (try dsimp only); refine ⟨?_, ?_, ?_, ?_⟩ <;> (first | exact RX.out 0 _ rfl _ (by assumption) | exact RX.out 1 _ rfl _ (by assumption) | exact RX.out 2 _ rfl _ (by assumption) | exact RX.out 3 _ rfl _ (by assumption))
    replace hHeld := hHeld (by decide)
    clear hK K
    try simp only [Act.put, List.getElem_toArray, List.getElem_cons_zero, List.getElem_cons_succ, List.setIfInBounds_toArray, List.set_cons_zero, List.set_cons_succ]
    refine to_ready (rs := [6]) (by kernel_rfl) (by simp) ?_
    refine AllTo.cons (o := _) rfl (fun K hK => ?_) AllTo.nil
    go_simp
    refine (KC.out _ (below_trans HB1.out hz)).mono ?_
    rintro en6 w6 ⟨⟨r6, rfl, hl6⟩, hb6⟩
    obtain ⟨ga6, gc6, hq6⟩ := hl6.form
    rw [← HEQ.out.2.2.1] at hq6
    subst hq6
    have hne : ∀ g, (Value.slice ga6 fn gc6).ownBlock = some g → g ≠ G ∧ g < w6.heap.size := fun g hg => ⟨by have h1 := (hl6.lt g hg).1; have h2 := lt_of_block HBX; omega, (hl6.lt g hg).2⟩
    have hnb : ∀ g, (Value.slice ga6 fn gc6).ownBlock = some g → w1.heap.size ≤ g := fun g hg => Nat.le_trans hz.size (hl6.lt g hg).1
    have hz := below_trans hz hb6
    have HBX := (hb6.block _ (lt_of_block HBX)).trans HBX
    try go_wp2_with fail
    refine hK.out _ _ (fun _ => ?_) (fun hHeld => ?_)
    · (try dsimp only); refine ⟨?_, ?_, ?_, ?_⟩ <;> (first | exact RX.out 0 _ rfl _ (by assumption) | exact RX.out 1 _ rfl _ (by assumption) | exact RX.out 2 _ rfl _ (by assumption) | exact RX.out 3 _ rfl _ (by assumption))
    replace hHeld := hHeld (by decide)
    clear hK K
    try simp only [Act.put, List.getElem_toArray, List.getElem_cons_zero, List.getElem_cons_succ, List.setIfInBounds_toArray, List.set_cons_zero, List.set_cons_succ]
    refine to_take (i := 7) (oi := _) (v := ?_) rfl (by kernel_rfl) (by kernel_rfl) (by kernel_rfl) (fun _ _ _ h => h) (by kernel_rfl) (by decide) (Or.inl ⟨by kernel_rfl, ?_⟩) (by assumption) ?_
    rotate_left
    · intro w hSw
      (try dsimp only at hSw)
      go_simp
      try with_reducible rfl
    try simp only [Act.put, List.getElem_toArray, List.getElem_cons_zero, List.getElem_cons_succ, List.setIfInBounds_toArray, List.set_cons_zero, List.set_cons_succ]
    refine to_ready (rs := [9]) (by kernel_rfl) (by simp) (AllTo.cons (o := _) rfl (fun K hK => ?_) AllTo.nil)
    rw [if_pos (by kernel_rfl)]
    refine oper_store_prog _ _ rfl G rfl _ _ _ _ rfl _ HBX rfl prog_one ?_
    intro w9 hr9 ho9
    refine hK.out _ _ (fun h => absurd rfl h) (fun _ => ?_)
    clear hK K
    try simp only [Act.put, List.getElem_toArray, List.getElem_cons_zero, List.getElem_cons_succ, List.setIfInBounds_toArray, List.set_cons_zero, List.set_cons_succ]
    refine to_done (by kernel_rfl) ?_ _
    go_wp2_with fail
    go_meet
    exact ⟨G, _, _, rfl, Lib.hid hr9, Lib.hid ((rkF (2 * N + 1)).otherL ⟨_, hl6⟩ HBX prog_cells ho9 (fun g hg => (hne g hg).1)), Lib.hid (fun g hg => ⟨(hne g hg).1, by rw [ho9.size]; exact (hne g hg).2⟩), Lib.hid hnb, Lib.hid (below_only hz ho9 hG), Lib.hid hG⟩
  case rest =>
    obtain ⟨w2, rfl⟩ : ∃ w8 : World, w8 = wc := ⟨_, rfl⟩
    obtain ⟨G, ga', gc', rfl, HG2, HL2, HLN, HLNB, HZ2, HGB⟩ := hcut
    have x0 := RX.out 0 _ rfl _ HZ2.out
    have x1 := RX.out 1 _ rfl _ HZ2.out
    have x2 := RX.out 2 _ rfl _ HZ2.out
    have x3 := RX.out 3 _ rfl _ HZ2.out
    have HGL : Hid (G < w2.heap.size) := Lib.hid (lt_of_block HG2.out)
    have HW12 : Hid (w1.heap.size ≤ w2.heap.size) := Lib.hid HZ2.out.size
    have HPL : Hid (w.heap.size < w2.heap.size) := Lib.hid (Nat.lt_of_lt_of_le (lt_of_block HX1.out) HZ2.out.size)
    have HFB : Hid (∀ x, fa = some x → x.block < w2.heap.size) := Lib.hid (by
      obtain ⟨b0, B0, off0, -, ha0, hc0⟩ := HBO.out.at (i := 0) (by have := HEQ.out; omega)
      intro x hx
      rw [ha0] at hx
      cases hx
      exact Nat.lt_trans (cell_lt (hc0 _ (Below.refl _ _))) HPL.out)
    have HLB : Hid (∀ g, (Value.slice ga' fn gc').ownBlock = some g → g < w2.heap.size) := Lib.hid (fun g hg => (HLN.out g hg).2)
    have HLG : Hid (∀ g, (Value.slice ga' fn gc').ownBlock = some g → g ≠ G) := Lib.hid (fun g hg => (HLN.out g hg).1)
    have HLNO : Hid (∀ g, (Value.slice ga' fn gc').ownBlock = some g → g ≠ w.heap.size + 1) := Lib.hid (fun g hg => by have h1 := HLNB.out g hg; have h2 := lt_of_block HO1.out; omega)
    clear KC
    go_wp2_with fail
    go_loopw [17] (fun iv wr => ∃ (i : Nat) (oa : Option Addr) (oc : Nat), i ≤ rn ∧ iv = .int .i64 i ∧ Hid (wr.heap[G]? = some (.cells #[Value.int .i64 (fn : Int), Value.slice fa fn fc, Value.slice ga' fn gc', Value.slice oa i oc] 26 (0, 0))) ∧ Hid (LRo (rkF (2 * N + 1)) wr w2.heap.size (.slice oa i oc) (P.rows.take i)) ∧ Hid ((rkF (2 * N + 1)).L wr (.slice ga' fn gc') P.goal) ∧ Hid (Below w1.heap.size w1 wr) ∧ Hid (w2.heap.size ≤ wr.heap.size)) (fun iv _ => rn - (intOf iv).toNat)
    case atStart => exact ⟨0, none, 0, Nat.zero_le _, rfl, HG2, Lib.hid (LRo.nil _ _ _), HL2, HZ2, Lib.hid (Nat.le_refl _)⟩
    case round =>
      obtain ⟨i, oa, oc, hi, rfl, hG, hO, HGL2, hZ, hsz⟩ := hrel
      obtain ⟨wo, rfl⟩ : ∃ wo : World, wo = wr := ⟨_, rfl⟩
      by_cases hin : i < rn
      · have t5 : decide ((i : Int) < (rn : Int)) = true := by simp; omega
        obtain ⟨r, B, off, a1, c1, b, a2, n2, c2, a3, n3, c3, hr, ha, hlr, hfr, hs3, hs4, hcr⟩ := HR.out.at (i := i) (by have := HEQ.out; omega)
        subst ha
        obtain ⟨f0, f1, f2, f3, f4⟩ := hcr wo (below_trans HB1.out hZ.out)
        have HTK : Hid (P.rows.take i ++ [r] = P.rows.take (i + 1) ∧ (P.rows.take i ++ [r]).length = i + 1) := Lib.hid (by
          have h9 : i < P.rows.length := by have := HEQ.out; omega
          have h8 := hr
          rw [List.getElem?_eq_getElem h9] at h8
          simp only [Option.some.injEq] at h8
          exact ⟨by rw [List.take_succ_eq_append_getElem h9, h8], by rw [List.length_append, List.length_take]; simp; omega⟩)
        have hrl0 := row_len HRB.out hr
        obtain ⟨rl, hrl⟩ : ∃ n, n = r.1.length := ⟨_, rfl⟩
        have HRL := Lib.hid hrl
        have hrln : rl = fn := by have := HEQ.out; omega
        rw [← hrl] at f0 hlr
        obtain ⟨sn, hsn⟩ : ∃ n, n = r.2.1 := ⟨_, rfl⟩
        rw [← hsn] at f1
        have HSN := Lib.hid hsn.symm
        obtain ⟨Q, hQ⟩ : ∃ Q, Q = r.2.2 := ⟨_, rfl⟩
        rw [← hQ] at hfr
        have HQ2 := Lib.hid hQ.symm
        have HFR := Lib.hid hfr
        have HLR := Lib.hid hlr
        have HW := Lib.hid (below_trans HB1.out hZ.out)
        clear hcr hr hrl hlr hfr hs3 hs4 hrl0 hsn hQ
        subst hrln
        go_wp2_with ((with_reducible refine at_store ?_); refine wpList_store_var rfl _ _ _ rfl wo.heap.size rfl _ rfl _ _ (heap_alloc_new _ _) irow rfl row_one ?_; intro w4 h4 hon4; refine halt ?_)
        have hb4 : Below wo.heap.size wo w4 := below_only ((Below.refl _ _).alloc (Nat.le_refl _) _) hon4 (Nat.le_refl _)
        have HB4 := Lib.hid hb4
        have HS4 : Hid (wo.heap.size ≤ w4.heap.size) := Lib.hid hb4.size
        have HY4 := Lib.hid h4
        have RY := Lib.hid (cells_later h4)
        have RG := Lib.hid (cells_later ((hb4.block _ (lt_of_block hG.out)).trans hG.out))
        have KR2 := Lib.hid (fun w' (hb : Below w4.heap.size w4 w') => clean_w (w := w') (HLR.out.below (below_trans HW.out (below_trans HB4.out hb))) hN (by have := HRL.out; omega))
        have KF2 := Lib.hid (fun w' (hb : Below w4.heap.size w4 w') => rfix_f (HFR.out.below (below_trans HW.out (below_trans HB4.out hb))) (by omega))
        have HLQ : Hid (lenQ Q ≤ 2 * N + 1) := Lib.hid HFR.out.len
        clear h4 hon4 hb4 f0 f1 f2 f3 f4
        refine go_on ?_
        have hz : Below w4.heap.size w4 w4.drew := below_drewN (Below.refl _ _) 1
        go_wp2_with fail
        refine wp_region_to 14 (fun w' => w'.cell? ⟨G, 3, none⟩ = some (.slice oa i oc) ∧ w'.cell? ⟨wo.heap.size, 0, none⟩ = some (.slice a1 rl c1) ∧ w'.cell? ⟨wo.heap.size, 1, none⟩ = some (.int .i64 sn) ∧ w'.cell? ⟨wo.heap.size, 2, none⟩ = some (.bool b) ∧ w'.cell? ⟨wo.heap.size, 3, none⟩ = some (.slice a2 n2 c2) ∧ w'.cell? ⟨wo.heap.size, 4, none⟩ = some (.slice a3 n3 c3)) (by kernel_rfl) (by (try dsimp only); refine ⟨?_, ?_, ?_, ?_, ?_, ?_⟩ <;> (first | exact RG.out 3 _ rfl _ (by assumption) | exact RY.out 0 _ rfl _ (by assumption) | exact RY.out 1 _ rfl _ (by assumption) | exact RY.out 2 _ rfl _ (by assumption) | exact RY.out 3 _ rfl _ (by assumption) | exact RY.out 4 _ rfl _ (by assumption))) (fun hHeld => ?_)
        refine to_take (i := 0) (oi := _) (v := ?_) rfl (by kernel_rfl) (by kernel_rfl) (by kernel_rfl) (fun _ _ _ h => h) (by kernel_rfl) (by decide) (Or.inl ⟨by kernel_rfl, ?_⟩) (by assumption) ?_
        rotate_left
        · intro w hSw
          (try dsimp only at hSw)
          go_simp
          try with_reducible rfl
        try simp only [Act.put, List.getElem_toArray, List.getElem_cons_zero, List.getElem_cons_succ, List.setIfInBounds_toArray, List.set_cons_zero, List.set_cons_succ]
        refine to_take (i := 1) (oi := _) (v := ?_) rfl (by kernel_rfl) (by kernel_rfl) (by kernel_rfl) (fun _ _ _ h => h) (by kernel_rfl) (by decide) (Or.inl ⟨by kernel_rfl, ?_⟩) (by assumption) ?_
        rotate_left
        · intro w hSw
          (try dsimp only at hSw)
          go_simp
          try with_reducible rfl
        try simp only [Act.put, List.getElem_toArray, List.getElem_cons_zero, List.getElem_cons_succ, List.setIfInBounds_toArray, List.set_cons_zero, List.set_cons_succ]
        refine to_take (i := 2) (oi := _) (v := ?_) rfl (by kernel_rfl) (by kernel_rfl) (by kernel_rfl) (fun _ _ _ h => h) (by kernel_rfl) (by decide) (Or.inl ⟨by kernel_rfl, ?_⟩) (by assumption) ?_
        rotate_left
        · intro w hSw
          (try dsimp only at hSw)
          go_simp
          try with_reducible rfl
        try simp only [Act.put, List.getElem_toArray, List.getElem_cons_zero, List.getElem_cons_succ, List.setIfInBounds_toArray, List.set_cons_zero, List.set_cons_succ]
        refine to_take (i := 3) (oi := _) (v := ?_) rfl (by kernel_rfl) (by kernel_rfl) (by kernel_rfl) (fun _ _ _ h => h) (by kernel_rfl) (by decide) (Or.inl ⟨by kernel_rfl, ?_⟩) (by assumption) ?_
        rotate_left
        · intro w hSw
          (try dsimp only at hSw)
          go_simp
          try with_reducible rfl
        try simp only [Act.put, List.getElem_toArray, List.getElem_cons_zero, List.getElem_cons_succ, List.setIfInBounds_toArray, List.set_cons_zero, List.set_cons_succ]
        refine to_take (i := 5) (oi := _) (v := ?_) rfl (by kernel_rfl) (by kernel_rfl) (by kernel_rfl) (fun _ _ _ h => h) (by kernel_rfl) (by decide) (Or.inl ⟨by kernel_rfl, ?_⟩) (by assumption) ?_
        rotate_left
        · intro w hSw
          (try dsimp only at hSw)
          go_simp
          try with_reducible rfl
        try simp only [Act.put, List.getElem_toArray, List.getElem_cons_zero, List.getElem_cons_succ, List.setIfInBounds_toArray, List.set_cons_zero, List.set_cons_succ]
        refine to_take (i := 6) (oi := _) (v := ?_) rfl (by kernel_rfl) (by kernel_rfl) (by kernel_rfl) (fun _ _ _ h => h) (by kernel_rfl) (by decide) (Or.inl ⟨by kernel_rfl, ?_⟩) (by assumption) ?_
        rotate_left
        · intro w hSw
          (try dsimp only at hSw)
          go_simp
          try with_reducible rfl
        try simp only [Act.put, List.getElem_toArray, List.getElem_cons_zero, List.getElem_cons_succ, List.setIfInBounds_toArray, List.set_cons_zero, List.set_cons_succ]
        refine to_take (i := 7) (oi := _) (v := ?_) rfl (by kernel_rfl) (by kernel_rfl) (by kernel_rfl) (fun _ _ _ h => h) (by kernel_rfl) (by decide) (Or.inl ⟨by kernel_rfl, ?_⟩) (by assumption) ?_
        rotate_left
        · intro w hSw
          (try dsimp only at hSw)
          go_simp
          try with_reducible rfl
        try simp only [Act.put, List.getElem_toArray, List.getElem_cons_zero, List.getElem_cons_succ, List.setIfInBounds_toArray, List.set_cons_zero, List.set_cons_succ]
        refine to_take (i := 8) (oi := _) (v := ?_) rfl (by kernel_rfl) (by kernel_rfl) (by kernel_rfl) (fun _ _ _ h => h) (by kernel_rfl) (by decide) (Or.inl ⟨by kernel_rfl, ?_⟩) (by assumption) ?_
        rotate_left
        · intro w hSw
          (try dsimp only at hSw)
          go_simp
          try with_reducible rfl
        try simp only [Act.put, List.getElem_toArray, List.getElem_cons_zero, List.getElem_cons_succ, List.setIfInBounds_toArray, List.set_cons_zero, List.set_cons_succ]
        refine to_ready (rs := [4]) (by kernel_rfl) (by simp) (AllTo.cons (o := _) rfl (fun K hK => ?_) AllTo.nil)
        go_simp
        refine (KR2.out _ hz).mono ?_
        rintro en6 w6 ⟨⟨r6, rfl, hl6⟩, hb6⟩
        have hn6 := fun k hk => (hl6.lt k hk).1
        obtain ⟨ar, rcap, hq6⟩ := hl6.form
        rw [← HRL.out] at hq6
        subst hq6
        have hs5 : wo.heap.size ≤ w4.drew.heap.size := HS4.out
        have hz := below_trans hz hb6
        try go_wp2_with fail
        refine hK.out _ _ (fun _ => ?_) (fun hHeld => ?_)
        · (try dsimp only); refine ⟨?_, ?_, ?_, ?_, ?_, ?_⟩ <;> (first | exact RG.out 3 _ rfl _ (by assumption) | exact RY.out 0 _ rfl _ (by assumption) | exact RY.out 1 _ rfl _ (by assumption) | exact RY.out 2 _ rfl _ (by assumption) | exact RY.out 3 _ rfl _ (by assumption) | exact RY.out 4 _ rfl _ (by assumption))
        replace hHeld := hHeld (by decide)
        clear hK K
        try simp only [Act.put, List.getElem_toArray, List.getElem_cons_zero, List.getElem_cons_succ, List.setIfInBounds_toArray, List.set_cons_zero, List.set_cons_succ]
        refine to_ready (rs := [9]) (by kernel_rfl) (by simp) (AllTo.cons (o := _) rfl (fun K hK => ?_) AllTo.nil)
        go_simp
        refine (KF2.out _ hz).mono ?_
        rintro en7 w7 ⟨⟨v7, rfl, f7⟩, hb7⟩
        obtain ⟨a7, n7, c7, i7, j7, k7, hq7⟩ := frac_form f7
        subst hq7
        have hz := below_trans hz hb7
        have hl6 := hl6.below hb7
        obtain ⟨bq, hbq⟩ : ∃ bq, bq = decide (Q.num < 0) := ⟨_, rfl⟩
        have f7 := fv_few9 f7 HLQ.out (by omega)
        rw [← hbq] at f7
        rw [← hbq]
        clear hbq
        try go_wp2_with fail
        refine hK.out _ _ (fun _ => ?_) (fun hHeld => ?_)
        · (try dsimp only); refine ⟨?_, ?_, ?_, ?_, ?_, ?_⟩ <;> (first | exact RG.out 3 _ rfl _ (by assumption) | exact RY.out 0 _ rfl _ (by assumption) | exact RY.out 1 _ rfl _ (by assumption) | exact RY.out 2 _ rfl _ (by assumption) | exact RY.out 3 _ rfl _ (by assumption) | exact RY.out 4 _ rfl _ (by assumption))
        replace hHeld := hHeld (by decide)
        clear hK K
        try simp only [Act.put, List.getElem_toArray, List.getElem_cons_zero, List.getElem_cons_succ, List.setIfInBounds_toArray, List.set_cons_zero, List.set_cons_succ]
        refine to_take (i := 10) (oi := _) (v := ?_) rfl (by kernel_rfl) (by kernel_rfl) (by kernel_rfl) (fun _ _ _ h => h) (by kernel_rfl) (by decide) (Or.inl ⟨by kernel_rfl, ?_⟩) (by assumption) ?_
        rotate_left
        · intro w hSw
          (try dsimp only at hSw)
          go_simp
          try with_reducible rfl
        try simp only [Act.put, List.getElem_toArray, List.getElem_cons_zero, List.getElem_cons_succ, List.setIfInBounds_toArray, List.set_cons_zero, List.set_cons_succ]
        refine to_ready (rs := [11]) (by kernel_rfl) (by simp) (AllTo.cons (o := _) rfl (fun K hK => ?_) AllTo.nil)
        go_simp
        obtain ⟨w8, hw8⟩ : ∃ w', w' = w7.alloc (Obj.cells #[Value.slice ar rl rcap, Value.int .i64 sn, Value.bool bq, Value.slice a7 n7 c7, Value.slice i7 j7 k7] 45) := ⟨_, rfl⟩
        have hb8 : Below w7.heap.size w7 w8 := by rw [hw8]; exact (Below.refl _ _).alloc (Nat.le_refl _) _
        have hr8 : w8.heap[w7.heap.size]? = some (.cells #[Value.slice ar rl rcap, Value.int .i64 sn, Value.bool bq, Value.slice a7 n7 c7, Value.slice i7 j7 k7] 45 (0, 0)) := by rw [hw8]; exact heap_alloc_new w7 _
        rw [← hw8]
        clear hw8
        have hz := below_trans hz hb8
        have hl6 := hl6.below hb8
        have f7 := f7.below hb8
        refine hK.out _ _ (fun _ => ?_) (fun hHeld => ?_)
        · (try dsimp only); refine ⟨?_, ?_, ?_, ?_, ?_, ?_⟩ <;> (first | exact RG.out 3 _ rfl _ (by assumption) | exact RY.out 0 _ rfl _ (by assumption) | exact RY.out 1 _ rfl _ (by assumption) | exact RY.out 2 _ rfl _ (by assumption) | exact RY.out 3 _ rfl _ (by assumption) | exact RY.out 4 _ rfl _ (by assumption))
        replace hHeld := hHeld (by decide)
        clear hK K
        try simp only [Act.put, List.getElem_toArray, List.getElem_cons_zero, List.getElem_cons_succ, List.setIfInBounds_toArray, List.set_cons_zero, List.set_cons_succ]
        refine to_ready (rs := [12]) (by kernel_rfl) (by simp) (AllTo.cons (o := _) rfl (fun K hK => ?_) AllTo.nil)
        rw [if_pos (by kernel_rfl)]
        have hzo : Below wo.heap.size wo w8 := below_trans HB4.out hz
        have HO8 := hO.out.below hzo
        have hlt8 := hO.out.lt
        refine oper_push_row (K := rkF (2 * N + 1)) _ _ rfl w2.heap.size (Value.slice oa i oc) (P.rows.take i) rfl HO8 w7.heap.size 1 ar rl rcap bq a7 i7 n7 c7 j7 k7 r rfl (by rw [HSN.out]; exact hr8) ⟨_, hl6⟩ (by rw [HQ2.out]; exact f7) (fun k hk => ⟨fun e => by have h1 := hn6 k hk; have h2 := (hlt8 k e).2; omega, by have := (hl6.lt k hk).2; omega, by have h1 := hn6 k hk; have h2 := hsz.out; omega⟩) (by rw [List.length_take]; omega) (by have h1 := hzo.size; have h2 := hsz.out; omega) ?_
        intro v9 w9 hown9 hg9 hbel9 hat9
        have hB9 : Below w2.heap.size wo w9 := hbel9 wo (hzo.mono hsz.out)
        have HG9 := (hB9.block _ HGL.out).trans hG.out
        have HY9 : w9.heap[wo.heap.size]? = some (.cells #[Value.slice a1 rl c1, Value.int .i64 sn, Value.bool b, Value.slice a2 n2 c2, Value.slice a3 n3 c3] 45 (0, 0)) := (hg9.block _ (Nat.lt_of_lt_of_le (lt_of_block HY4.out) hz.size) (fun e => by have := (hlt8 _ e.symm).2; omega)).trans ((hz.block _ (lt_of_block HY4.out)).trans HY4.out)
        obtain ⟨na, nc, hv9⟩ := hown9.form
        rw [HTK.out.1] at hown9
        rw [HTK.out.2] at hv9
        subst hv9
        have HL9 := ((rkF (2 * N + 1)).keepL ((rkF (2 * N + 1)).belowL HGL2.out hzo) HO8.clean hg9 (fun g hg e => by have h1 := HLB.out g hg; have h2 := (hlt8 g e).1; omega))
        have HZ9 : Below w1.heap.size w1 w9 := hZ.out.trans (hB9.mono HW12.out)
        refine hK.out _ _ (fun _ => ?_) (fun hHeld => ?_)
        · (try dsimp only); refine ⟨?_, ?_, ?_, ?_, ?_, ?_⟩ <;> (first | exact cells_later HG9 3 _ rfl _ (Below.refl _ _) | exact cells_later HY9 0 _ rfl _ (Below.refl _ _) | exact cells_later HY9 1 _ rfl _ (Below.refl _ _) | exact cells_later HY9 2 _ rfl _ (Below.refl _ _) | exact cells_later HY9 3 _ rfl _ (Below.refl _ _) | exact cells_later HY9 4 _ rfl _ (Below.refl _ _))
        replace hHeld := hHeld (by decide)
        clear hK K
        try simp only [Act.put, List.getElem_toArray, List.getElem_cons_zero, List.getElem_cons_succ, List.setIfInBounds_toArray, List.set_cons_zero, List.set_cons_succ]
        refine to_take (i := 13) (oi := _) (v := ?_) rfl (by kernel_rfl) (by kernel_rfl) (by kernel_rfl) (fun _ _ _ h => h) (by kernel_rfl) (by decide) (Or.inl ⟨by kernel_rfl, ?_⟩) (by assumption) ?_
        rotate_left
        · intro w hSw
          (try dsimp only at hSw)
          go_simp
          try with_reducible rfl
        try simp only [Act.put, List.getElem_toArray, List.getElem_cons_zero, List.getElem_cons_succ, List.setIfInBounds_toArray, List.set_cons_zero, List.set_cons_succ]
        refine to_ready (rs := [14]) (by kernel_rfl) (by simp) (AllTo.cons (o := _) rfl (fun K hK => ?_) AllTo.nil)
        have g3 := cells_later HG9 3 _ rfl _ (Below.refl _ _)
        have g4 := frozen_of_row _ _ 3 _ _ HG9
        go_simp
        refine hK.out _ _ (fun h => absurd rfl h) (fun _ => ?_)
        clear hK K
        try simp only [Act.put, List.getElem_toArray, List.getElem_cons_zero, List.getElem_cons_succ, List.setIfInBounds_toArray, List.set_cons_zero, List.set_cons_succ]
        refine to_done (by kernel_rfl) ?_ _
        have HON := set3_only w9 G (Value.slice na (i + 1) nc)
        have HG10 := Lib.hid (set3_row HG9 (v := Value.slice na (i + 1) nc))
        have HO10 := Lib.hid (hown9.other HG9 prog_cells HON HGL.out)
        have HL10 := Lib.hid ((rkF (2 * N + 1)).otherL HL9 HG9 prog_cells HON (fun g hg => HLG.out g hg))
        have HZ10 := Lib.hid (below_only HZ9 HON HGB.out)
        have HS10 : Hid (w2.heap.size ≤ (w9.setCell ⟨G, 3, none⟩ (Value.slice na (i + 1) nc)).heap.size) := Lib.hid (by rw [HON.size]; exact Nat.le_trans hsz.out hB9.size)
        clear HON HG9 HY9 HL9 HZ9 hB9 hown9
        go_wp2_with fail
        go_roundw
        case rel => exact ⟨i + 1, _, _, by omega, by go_num, HG10, HO10, HL10, HZ10, HS10⟩
        case measure => simp [intOf]; omega
      · have t5 : decide ((i : Int) < (rn : Int)) = false := by simp; omega
        obtain rfl : i = rn := by omega
        have g0 := cells_later hG.out 0 _ rfl _ (Below.refl _ _)
        have g1 := cells_later hG.out 1 _ rfl _ (Below.refl _ _)
        have g2 := cells_later hG.out 2 _ rfl _ (Below.refl _ _)
        have g3 := cells_later hG.out 3 _ rfl _ (Below.refl _ _)
        have HR9 := (hZ.out.block _ (lt_of_block HO1.out)).trans HO1.out
        have hlow : w.heap.size + 1 < w2.heap.size := Nat.lt_of_lt_of_le (lt_of_block HO1.out) HW12.out
        have HNE : w.heap.size + 1 ≠ G := by have := HGB.out; have := lt_of_block HO1.out; omega
        go_wp2_with ((with_reducible refine at_store ?_); refine wpList_store_var rfl _ _ _ rfl (w.heap.size + 1) rfl _ rfl _ _ HR9 info_prog9 rfl prog_one ?_; intro w5 h5 hon5; refine halt ?_)
        refine go_on ?_
        have hrt : P.rows.take i = P.rows := List.take_of_length_le (by have := HEQ.out; omega)
        have HO5 := hO.out.other HR9 prog_cells hon5 hlow
        rw [hrt] at HO5
        have HL5 := (rkF (2 * N + 1)).otherL HGL2.out HR9 prog_cells hon5 (fun g hg => by have h1 := HLNO.out g hg; exact h1)
        go_wp2_with fail
        refine bodyPost_ret (results_cell_row rfl _ _ (w.heap.size + 1) _ _ _ _ rfl h5 Tryz.underlying26 rfl info_prog9) rfl ⟨⟨_, rfl, fa, fc, ga', gc', oa, oc, w2.heap.size, ?_, HBO.out.below (below_only (below_trans HB1.out hZ.out) hon5 (Nat.le_succ _)), ?_, ?_, Nat.le_trans (Nat.le_succ _) (Nat.le_of_lt hlow), HFB.out, ?_, by rw [hon5.size]; exact hsz.out⟩, ?_⟩
        · rw [← HEQ.out.1, ← HEQ.out.2.1, ← HEQ.out.2.2.1, ← HEQ.out.2.2.2]
        · rw [← HEQ.out.2.2.1]
          exact HL5
        · rw [← HEQ.out.2.2.2]
          exact HO5
        · rw [← HEQ.out.2.2.1]
          exact HLB.out
        · exact below_only (below_trans HB1.out hZ.out) hon5 (Nat.le_succ _)
end Go.Proofs.YtafenoohjcpjgaaGreat
