/- Several texts in one: Y7. -/
import Derived.Test.YtafenoohjcpjgaaGreatZ24
import Derived.Deep.RegionHeld3
import Derived.Deep.DrawnRows
/- fixed: a program in memory of its own. -/
namespace Go.Proofs.YtafenoohjcpjgaaGreat
open Go.RowKit
attribute [local go_sem ↓] Go.wp_at_zero Go.wp_at_succ

/-- One cell of a variable stored. -/
theorem set3_row {w : World} {B : Nat} {x y z u v : Value} {t : TypeId} (h : w.heap[B]? = some (.cells #[x, y, z, u] t (0, 0))) :
    (w.setCell ⟨B, 3, none⟩ v).heap[B]? = some (.cells #[x, y, z, v] t (0, 0)) := heap_setCell_same _ _ 3 _ _ _ h
theorem set3_only (w : World) (B : Nat) (v : Value) : Only B w (w.setCell ⟨B, 3, none⟩ v) := (Only.refl B w).setCell 3 v
theorem prog_cells {z : Int} {fa ga ra : Option Addr} {fn fc gn gc rn rc : Nat} : ∀ (j k : Nat), (#[Value.int .i64 z, Value.slice fa fn fc, Value.slice ga gn gc, Value.slice ra rn rc] : Array Value)[j]? ≠ some (U k) := by
  intro j k h
  rcases j with _ | _ | _ | _ | j <;> simp [U] at h
/-- A program as told: of right numbers, its lists new. -/
def ProgN (K : RowK) (w : World) (base : Nat) (v : Value) (P : Pm) : Prop :=
  ∃ fa fc ga gc ra rc mid, v = .agg #[.int .i64 P.vars, .slice fa P.free.length fc, .slice ga P.goal.length gc, .slice ra P.rows.length rc] ∧ BoolsF w fa P.free ∧ K.L w (.slice ga P.goal.length gc) P.goal ∧ LRo K w mid (.slice ra P.rows.length rc) P.rows ∧ base ≤ mid ∧ (∀ x, fa = some x → x.block < mid) ∧ (∀ g, (Value.slice ga P.goal.length gc).ownBlock = some g → g < mid) ∧ mid ≤ w.heap.size
set_option maxRecDepth 8000 in
/-- A new variable of a program. -/
theorem oper_alloc_prog {w : World} {o : Oper} {a : Act} {K : Act → World → Prop} {Q : Exit → Act → World → Prop} (ho : o.op = .alloc 26)
    (h : ∀ G w', w'.heap[G]? = some (.cells #[Value.int .i64 0, Value.slice none 0 0, Value.slice none 0 0, Value.slice none 0 0] 26 (0, 0)) → w.heap.size ≤ G → Below w.heap.size w w' → K (a.put o.dst (.pointer (some ⟨G, 0, none⟩))) w') : Oper.wp Tryz.prog o a w K Q := by
  have h9 := h w.heap.size (w.alloc (Obj.cells #[Value.int .i64 0, Value.slice none 0 0, Value.slice none 0 0, Value.slice none 0 0] 26)) (heap_alloc_new w _) (Nat.le_refl _) ((Below.refl _ _).alloc (Nat.le_refl _) _)
  unfold Oper.wp execOp
  simp only [ho]
  go_simp
  exact h9
/-- A whole program stored into a variable. -/
theorem oper_store_prog {w : World} {o : Oper} {a : Act} {K : Act → World → Prop} {Q : Exit → Act → World → Prop} (x y : Operand) (ho : o.op = .store 26 x y)
    (g : Nat) (hx : a.eval x = .pointer (some ⟨g, 0, none⟩)) (v0 v1 v2 v3 : Value) (hy : a.eval y = .agg #[v0, v1, v2, v3]) (cur : Array Value) (hg : w.heap[g]? = some (.cells cur 26 (0, 0))) (hs : cur.size = 4)
    (h1 : ∀ v ∈ (#[v0, v1, v2, v3] : Array Value).toList, v.oneCell' = true)
    (h : ∀ w', w'.heap[g]? = some (.cells #[v0, v1, v2, v3] 26 (0, 0)) → Only g w w' → K (a.put o.dst undef) w') : Oper.wp Tryz.prog o a w K Q := by
  unfold Oper.wp execOp
  have hr := run_storeVar_row (P := Tryz.prog) w g 26 26 cur #[v0, v1, v2, v3] hg (by kernel_rfl) (by rw [hs]; rfl) h1
  simp only [ho, hx, hy, Instr.storeAt, Instr.sureAddr, Sem.run_bind, Sem.run_pure, Result.andThen_ok, hr]
  exact h _ (setRow_heap w g cur _ _ _ hg) ⟨rfl, rfl, rfl, by simp [World.setRow], fun k hk => setRow_other w g k _ hk⟩
theorem BoolsF.other {w w' : World} {a : Option Addr} {bs : List Bool} {G : Nat} {cs : Array Value} {t : TypeId} {fr : Nat × Nat} (h : BoolsF w a bs) (hG : w.heap[G]? = some (.cells cs t fr)) (hcs : ∀ (j : Nat) (b : Bool), cs[j]? ≠ some (.bool b)) (ho : Only G w w') : BoolsF w' a bs := fun i b hi => by
  obtain ⟨B, off, ha, hc⟩ := h i b hi
  have hne : B ≠ G := by
    intro e
    rw [e, cell_of_row _ _ _ _ _ _ hG] at hc
    exact hcs _ _ hc
  refine ⟨B, off, ha, ?_⟩
  simp only [World.cell?] at hc ⊢
  rw [ho.block B hne]
  exact hc
theorem ListV.apart {w : World} {a : Option Addr} {n c : Nat} {qs : List Rat} {G : Nat} {cs : Array Value} {t : TypeId} {fr : Nat × Nat} (h : ListV w (.slice a n c) qs) (hn : 0 < n) (hG : w.heap[G]? = some (.cells cs t fr)) (hcs : ∀ (j : Nat) (b : Bool), cs[j]? ≠ some (.bool b)) : ∀ g, (Value.slice a n c).ownBlock = some g → g ≠ G := by
  obtain ⟨B, off, b, a1, n1, c1, a2, n2, c2, rfl, hc, -⟩ := h.at (i := 0) hn
  intro g hg e
  have h9 : some B = some g := hg
  obtain rfl := Option.some.inj h9
  obtain ⟨k0, -, -⟩ := hc w (Below.refl _ _)
  rw [e, cell_of_row _ _ _ _ _ _ hG] at k0
  exact hcs _ _ k0
theorem prog_nobool {z : Int} {fa ga ra : Option Addr} {fn fc gn gc rn rc : Nat} : ∀ (j : Nat) (b : Bool), (#[Value.int .i64 z, Value.slice fa fn fc, Value.slice ga gn gc, Value.slice ra rn rc] : Array Value)[j]? ≠ some (.bool b) := by
  intro j k h
  rcases j with _ | _ | _ | _ | j <;> simp at h
theorem info_prog9 : (Tryz.prog.info? 26).map (·.size) = some 4 := by kernel_rfl
theorem LRo.clean {K : RowK} {w : World} {base : Nat} {v : Value} {rs : List (List Rat × Int × Rat)} (h : LRo K w base v rs) : Clean w v := h.elim fun _ h => h.2.1
theorem BoolsF.belowN {N : Nat} {w w' : World} {a : Option Addr} {bs : List Bool} (h : BoolsF w a bs) (hlt : ∀ x, a = some x → x.block < N) (hb : Below N w w') : BoolsF w' a bs := fun i b hi => by
  obtain ⟨B, off, ha, hc⟩ := h i b hi
  refine ⟨B, off, ha, ?_⟩
  have h9 := hlt _ ha
  simp only [World.cell?] at hc ⊢
  rw [hb.block B h9]
  exact hc
theorem LRo.low {K : RowK} {w : World} {base base' : Nat} {v : Value} {rs : List (List Rat × Int × Rat)} (h : LRo K w base v rs) (hb : base' ≤ base) : LRo K w base' v rs := by
  obtain ⟨xs, ho, hc, he⟩ := h
  refine ⟨xs, ⟨ho.1, ?_⟩, hc, fun j r hr => ?_⟩
  · rcases ho.2 with h0 | ⟨g, cap, cur, hv, hbg, hrest⟩
    · exact .inl h0
    · exact .inr ⟨g, cap, cur, hv, Nat.le_trans hb hbg, hrest⟩
  · obtain ⟨a, n, c, b, a1, n1, c1, a2, n2, c2, h0, h1, h2, h3, h4, hl, hf, hne⟩ := he j r hr
    exact ⟨a, n, c, b, a1, n1, c1, a2, n2, c2, h0, h1, h2, h3, h4, hl, hf, fun g hg => ⟨(hne g hg).1, (hne g hg).2.1, Nat.le_trans hb (hne g hg).2.2⟩⟩
theorem ListV.lt9 {w : World} {v : Value} {qs : List Rat} (h : ListV w v qs) : ∀ g, v.ownBlock = some g → g < w.heap.size := by
  obtain ⟨B, rfl, h⟩ := h
  intro g hg
  have h9 : some B = some g := hg
  obtain rfl := Option.some.inj h9
  exact h.lt
set_option maxRecDepth 100000 in
set_option maxHeartbeats 4000000 in
set_option linter.unusedSimpArgs false in
theorem pfixed_w {N : Nat} {w : World} {v : Value} {P : Pm} (h : ProgF N w v P) (hrb : rightB2 P = true) (hv1 : P.vars ≤ 160) (hr1 : P.rows.length ≤ 400) :
    Calls Tryz.prog 18 #[v] w fun e w' => (∃ r, e = .returned r ∧ ProgN rkV w' w.heap.size r P) ∧ Below w.heap.size w w' := by
  have HRB := Lib.hid hrb
  have HP := Lib.hid h
  obtain ⟨fa, fc, ga, gc, ra, rc, rfl, -, -, hB, hG, hR⟩ := h
  have HBO := Lib.hid hB
  have HR := Lib.hid hR
  obtain ⟨z, hz⟩ : ∃ z, z = P.vars := ⟨_, rfl⟩
  obtain ⟨fn, hfn⟩ : ∃ n, n = P.free.length := ⟨_, rfl⟩
  obtain ⟨gn, hgn⟩ : ∃ n, n = P.goal.length := ⟨_, rfl⟩
  obtain ⟨rn, hrn⟩ : ∃ n, n = P.rows.length := ⟨_, rfl⟩
  rw [← hz] at HP ⊢
  rw [← hfn] at HP ⊢
  rw [← hgn] at HP hG ⊢
  rw [← hrn] at HP ⊢
  have HG := Lib.hid hG
  have HEQ := Lib.hid (And.intro hz (And.intro hfn (And.intro hgn hrn)))
  have HZF : Hid (z = (gn : Int) ∧ fn = gn ∧ 0 < gn ∧ gn ≤ 160 ∧ rn ≤ 400) := Lib.hid (by have := right_goal hrb; omega)
  obtain ⟨hzg, hfg, hg0, hg160, hr400⟩ := HZF.out
  clear hB hR hG hz hfn hgn hrn hrb hv1 hr1
  subst hfg
  subst hzg
  obtain ⟨w1, hw1⟩ : ∃ w1, w1 = (w.alloc (Obj.cells #[Value.int .i64 (fn : Int), Value.slice fa fn fc, Value.slice ga fn gc, Value.slice ra rn rc] 26)).alloc (Obj.cells #[Value.int .i64 0, Value.slice none 0 0, Value.slice none 0 0, Value.slice none 0 0] 26) := ⟨_, rfl⟩
  have HB1 : Hid (Below w.heap.size w w1) := Lib.hid (by rw [hw1]; exact ((Below.refl _ _).alloc (Nat.le_refl _) _).alloc (by simp) _)
  have HX1 : Hid (w1.heap[w.heap.size]? = some (.cells #[Value.int .i64 (fn : Int), Value.slice fa fn fc, Value.slice ga fn gc, Value.slice ra rn rc] 26 (0, 0))) := Lib.hid (by rw [hw1]; exact heap_alloc2_old w _ _)
  have HO1 : Hid (w1.heap[w.heap.size + 1]? = some (.cells #[Value.int .i64 0, Value.slice none 0 0, Value.slice none 0 0, Value.slice none 0 0] 26 (0, 0))) := Lib.hid (by rw [hw1]; exact heap_alloc2_new w _ _)
  have HW1 := Lib.hid hw1.symm
  clear hw1
  have RX := Lib.hid (cells_later HX1.out)
  have hb1 := Below.refl w1.heap.size w1
  have x0 := RX.out 0 _ rfl _ hb1
  have x1 := RX.out 1 _ rfl _ hb1
  have x2 := RX.out 2 _ rfl _ hb1
  have x3 := RX.out 3 _ rfl _ hb1
  have KC := Lib.hid (fun w' (hb : Below w.heap.size w w') => bclone_w (w := w') (c := fc) (HBO.out.below hb) HEQ.out.2.1 hg0 (by omega))
  have KE := Lib.hid (fun w' => entries_w (w := w') (a := ga) (n := fn) (c := gc))
  have KRD : Hid (∀ w' g, Below w.heap.size w w' → w'.cell? ⟨g, 0, none⟩ = some (.slice ga fn gc) → Calls Tryz.prog 19 #[.int .i64 (fn : Nat), .func (.func 54) #[] #[.pointer (some ⟨g, 0, none⟩)]] w' fun e w'' => (∃ r, e = .returned r ∧ ListV w'' r P.goal ∧ ∀ g, r.ownBlock = some g → w'.heap.size ≤ g) ∧ Below w'.heap.size w' w'') := Lib.hid (fun w' g hb hg => read_e (qs := P.goal) (fun i w'' hi hb9 => (entries1_w (w0 := w) (below_trans hb hb9) (cell_below hb9 hg) HG.out (by have := HEQ.out; omega)).mono (fun e w3 h3 => ReadI.of_read (below_trans hb hb9) h3)) HEQ.out.2.2.1 (by omega))
  go_enter Tryz.func18, Tryz.ntmps18
  go_wp2_with fail
  rw [HW1.out]
  go_cut [3] (fun sv wc => ∃ (G : Nat) (fa' : Option Addr) (fc' : Nat) (ga' : Option Addr), sv = .pointer (some ⟨G, 0, none⟩) ∧ Hid (wc.heap[G]? = some (.cells #[Value.int .i64 (fn : Int), Value.slice fa' fn fc', Value.slice ga' fn fn, Value.slice none 0 0] 26 (0, 0))) ∧ Hid (BoolsF wc fa' P.free) ∧ Hid (ListV wc (.slice ga' fn fn) P.goal) ∧ Hid (Below w1.heap.size w1 wc) ∧ Hid (w1.heap.size ≤ G))
  case first =>
    have hz : Below w1.heap.size w1 w1.drew := below_drewN (Below.refl _ _) 1
    refine wp_region_to 13 (fun w' => w'.cell? ⟨w.heap.size, 0, none⟩ = some (.int .i64 (fn : Int)) ∧ w'.cell? ⟨w.heap.size, 1, none⟩ = some (.slice fa fn fc) ∧ w'.cell? ⟨w.heap.size, 2, none⟩ = some (.slice ga fn gc) ∧ w'.cell? ⟨w.heap.size, 3, none⟩ = some (.slice ra rn rc)) (by kernel_rfl) (by (try dsimp only); refine ⟨?_, ?_, ?_, ?_⟩ <;> (first | exact RX.out 0 _ rfl _ (by assumption) | exact RX.out 1 _ rfl _ (by assumption) | exact RX.out 2 _ rfl _ (by assumption) | exact RX.out 3 _ rfl _ (by assumption))) (fun hHeld => ?_)
    refine to_take (i := 0) (oi := _) (v := ?_) rfl (by kernel_rfl) (by kernel_rfl) (by kernel_rfl) (fun _ _ _ h => h) (by kernel_rfl) (by decide) (Or.inl ⟨by kernel_rfl, ?_⟩) (by assumption) ?_
    rotate_left
    · intro w hSw
      (try dsimp only at hSw)
      go_simp
      try with_reducible rfl
    try simp only [Act.put, List.getElem_toArray, List.getElem_cons_zero, List.getElem_cons_succ, List.setIfInBounds_toArray, List.set_cons_zero, List.set_cons_succ]
    refine to_take (i := 1) (oi := _) (v := ?_) rfl (by kernel_rfl) (by kernel_rfl) (by kernel_rfl) (fun _ _ _ h => h) (by kernel_rfl) (by decide) (Or.inl ⟨by kernel_rfl, ?_⟩) (by assumption) ?_
    rotate_left
    · intro w hSw
      (try dsimp only at hSw)
      go_simp
      try with_reducible rfl
    try simp only [Act.put, List.getElem_toArray, List.getElem_cons_zero, List.getElem_cons_succ, List.setIfInBounds_toArray, List.set_cons_zero, List.set_cons_succ]
    refine to_take (i := 2) (oi := _) (v := ?_) rfl (by kernel_rfl) (by kernel_rfl) (by kernel_rfl) (fun _ _ _ h => h) (by kernel_rfl) (by decide) (Or.inl ⟨by kernel_rfl, ?_⟩) (by assumption) ?_
    rotate_left
    · intro w hSw
      (try dsimp only at hSw)
      go_simp
      try with_reducible rfl
    try simp only [Act.put, List.getElem_toArray, List.getElem_cons_zero, List.getElem_cons_succ, List.setIfInBounds_toArray, List.set_cons_zero, List.set_cons_succ]
    refine to_take (i := 3) (oi := _) (v := ?_) rfl (by kernel_rfl) (by kernel_rfl) (by kernel_rfl) (fun _ _ _ h => h) (by kernel_rfl) (by decide) (Or.inl ⟨by kernel_rfl, ?_⟩) (by assumption) ?_
    rotate_left
    · intro w hSw
      (try dsimp only at hSw)
      go_simp
      try with_reducible rfl
    try simp only [Act.put, List.getElem_toArray, List.getElem_cons_zero, List.getElem_cons_succ, List.setIfInBounds_toArray, List.set_cons_zero, List.set_cons_succ]
    refine to_take (i := 5) (oi := _) (v := ?_) rfl (by kernel_rfl) (by kernel_rfl) (by kernel_rfl) (fun _ _ _ h => h) (by kernel_rfl) (by decide) (Or.inl ⟨by kernel_rfl, ?_⟩) (by assumption) ?_
    rotate_left
    · intro w hSw
      (try dsimp only at hSw)
      go_simp
      try with_reducible rfl
    try simp only [Act.put, List.getElem_toArray, List.getElem_cons_zero, List.getElem_cons_succ, List.setIfInBounds_toArray, List.set_cons_zero, List.set_cons_succ]
    refine to_take (i := 6) (oi := _) (v := ?_) rfl (by kernel_rfl) (by kernel_rfl) (by kernel_rfl) (fun _ _ _ h => h) (by kernel_rfl) (by decide) (Or.inl ⟨by kernel_rfl, ?_⟩) (by assumption) ?_
    rotate_left
    · intro w hSw
      (try dsimp only at hSw)
      go_simp
      try with_reducible rfl
    try simp only [Act.put, List.getElem_toArray, List.getElem_cons_zero, List.getElem_cons_succ, List.setIfInBounds_toArray, List.set_cons_zero, List.set_cons_succ]
    refine to_take (i := 7) (oi := _) (v := ?_) rfl (by kernel_rfl) (by kernel_rfl) (by kernel_rfl) (fun _ _ _ h => h) (by kernel_rfl) (by decide) (Or.inl ⟨by kernel_rfl, ?_⟩) (by assumption) ?_
    rotate_left
    · intro w hSw
      (try dsimp only at hSw)
      go_simp
      try with_reducible rfl
    try simp only [Act.put, List.getElem_toArray, List.getElem_cons_zero, List.getElem_cons_succ, List.setIfInBounds_toArray, List.set_cons_zero, List.set_cons_succ]
    refine to_take (i := 8) (oi := _) (v := ?_) rfl (by kernel_rfl) (by kernel_rfl) (by kernel_rfl) (fun _ _ _ h => h) (by kernel_rfl) (by decide) (Or.inl ⟨by kernel_rfl, ?_⟩) (by assumption) ?_
    rotate_left
    · intro w hSw
      (try dsimp only at hSw)
      go_simp
      try with_reducible rfl
    try simp only [Act.put, List.getElem_toArray, List.getElem_cons_zero, List.getElem_cons_succ, List.setIfInBounds_toArray, List.set_cons_zero, List.set_cons_succ]
    refine to_ready (rs := [4, 12]) (by kernel_rfl) (by simp) ?_
    refine AllTo.cons (o := _) rfl (fun K hK => ?_) ?_
    · go_simp
      refine (KC.out _ (below_trans HB1.out hz)).mono ?_
      rintro en4 w4 ⟨⟨fa4, fc4, rfl, hf4⟩, hb4⟩
      have hz := below_trans hz hb4
      try go_wp2_with fail
      refine hK.out _ _ (fun _ => ?_) (fun hHeld => ?_)
      · (try dsimp only); refine ⟨?_, ?_, ?_, ?_⟩ <;> (first | exact RX.out 0 _ rfl _ (by assumption) | exact RX.out 1 _ rfl _ (by assumption) | exact RX.out 2 _ rfl _ (by assumption) | exact RX.out 3 _ rfl _ (by assumption))
      replace hHeld := hHeld (by decide)
      clear hK K
      try simp only [Act.put, List.getElem_toArray, List.getElem_cons_zero, List.getElem_cons_succ, List.setIfInBounds_toArray, List.set_cons_zero, List.set_cons_succ]
      refine to_ready (rs := [9, 12]) (by kernel_rfl) (by simp) ?_
      refine AllTo.cons (o := _) rfl (fun K hK => ?_) ?_
      · go_simp
        refine (KE.out _).mono ?_
        rintro en5 w5 ⟨⟨g5, rfl, hg5⟩, hb5⟩
        have hz := below_trans hz hb5
        have hf4 := hf4.below hb5
        try go_wp2_with fail
        refine hK.out _ _ (fun _ => ?_) (fun hHeld => ?_)
        · (try dsimp only); refine ⟨?_, ?_, ?_, ?_⟩ <;> (first | exact RX.out 0 _ rfl _ (by assumption) | exact RX.out 1 _ rfl _ (by assumption) | exact RX.out 2 _ rfl _ (by assumption) | exact RX.out 3 _ rfl _ (by assumption))
        replace hHeld := hHeld (by decide)
        clear hK K
        try simp only [Act.put, List.getElem_toArray, List.getElem_cons_zero, List.getElem_cons_succ, List.setIfInBounds_toArray, List.set_cons_zero, List.set_cons_succ]
        refine to_ready (rs := [10, 12]) (by kernel_rfl) (by simp) ?_
        refine AllTo.cons (o := _) rfl (fun K hK => ?_) ?_
        · go_simp
          refine (KRD.out _ _ (below_trans HB1.out hz) hg5).mono ?_
          rintro en6 w6 ⟨⟨r6, rfl, hl6, hn6⟩, hb6⟩
          obtain ⟨ga6, hq6⟩ := hl6.form
          rw [← HEQ.out.2.2.1] at hq6
          subst hq6
          have hz := below_trans hz hb6
          have hf4 := hf4.below hb6
          try go_wp2_with fail
          refine hK.out _ _ (fun _ => ?_) (fun hHeld => ?_)
          · (try dsimp only); refine ⟨?_, ?_, ?_, ?_⟩ <;> (first | exact RX.out 0 _ rfl _ (by assumption) | exact RX.out 1 _ rfl _ (by assumption) | exact RX.out 2 _ rfl _ (by assumption) | exact RX.out 3 _ rfl _ (by assumption))
          replace hHeld := hHeld (by decide)
          clear hK K
          try simp only [Act.put, List.getElem_toArray, List.getElem_cons_zero, List.getElem_cons_succ, List.setIfInBounds_toArray, List.set_cons_zero, List.set_cons_succ]
          refine to_take (i := 11) (oi := _) (v := ?_) rfl (by kernel_rfl) (by kernel_rfl) (by kernel_rfl) (fun _ _ _ h => h) (by kernel_rfl) (by decide) (Or.inl ⟨by kernel_rfl, ?_⟩) (by assumption) ?_
          rotate_left
          · intro w hSw
            (try dsimp only at hSw)
            go_simp
            try with_reducible rfl
          try simp only [Act.put, List.getElem_toArray, List.getElem_cons_zero, List.getElem_cons_succ, List.setIfInBounds_toArray, List.set_cons_zero, List.set_cons_succ]
          refine to_ready (rs := [12]) (by kernel_rfl) (by simp) ?_
          refine AllTo.cons (o := _) rfl (fun K hK => ?_) AllTo.nil
          rw [if_pos (by kernel_rfl)]
          refine oper_alloc_prog rfl ?_
          intro G wA HBX hG hbA
          have hG := Nat.le_trans hz.size hG
          have hz := below_trans hz hbA
          have hf4 := hf4.below hbA
          have hl6 := hl6.below hbA
          refine hK.out _ _ (fun _ => ?_) (fun hHeld => ?_)
          · (try dsimp only); refine ⟨?_, ?_, ?_, ?_⟩ <;> (first | exact RX.out 0 _ rfl _ (by assumption) | exact RX.out 1 _ rfl _ (by assumption) | exact RX.out 2 _ rfl _ (by assumption) | exact RX.out 3 _ rfl _ (by assumption))
          replace hHeld := hHeld (by decide)
          clear hK K
          try simp only [Act.put, List.getElem_toArray, List.getElem_cons_zero, List.getElem_cons_succ, List.setIfInBounds_toArray, List.set_cons_zero, List.set_cons_succ]
          refine to_ready (rs := [13]) (by kernel_rfl) (by simp) (AllTo.cons (o := _) rfl (fun K hK => ?_) AllTo.nil)
          rw [if_pos (by kernel_rfl)]
          refine oper_store_prog _ _ rfl G rfl _ _ _ _ rfl _ HBX rfl prog_one ?_
          intro w9 hr9 ho9
          refine hK.out _ _ (fun h => absurd rfl h) (fun _ => ?_)
          clear hK K
          try simp only [Act.put, List.getElem_toArray, List.getElem_cons_zero, List.getElem_cons_succ, List.setIfInBounds_toArray, List.set_cons_zero, List.set_cons_succ]
          refine to_done (by kernel_rfl) ?_ _
          go_wp2_with fail
          go_meet
          exact ⟨G, _, _, _, rfl, Lib.hid hr9, Lib.hid (hf4.other HBX prog_nobool ho9), Lib.hid (hl6.other HBX prog_cells ho9 (hl6.apart hg0 HBX prog_nobool)), Lib.hid (below_only hz ho9 hG), Lib.hid hG⟩
        refine AllTo.cons (o := _) rfl (fun K hK => ?_) AllTo.nil
        rw [if_pos (by kernel_rfl)]
        refine oper_alloc_prog rfl ?_
        intro G wA HBX hG hbA
        have hG := Nat.le_trans hz.size hG
        have hz := below_trans hz hbA
        have hf4 := hf4.below hbA
        have hg5 := cell_below hbA hg5
        refine hK.out _ _ (fun _ => ?_) (fun hHeld => ?_)
        · (try dsimp only); refine ⟨?_, ?_, ?_, ?_⟩ <;> (first | exact RX.out 0 _ rfl _ (by assumption) | exact RX.out 1 _ rfl _ (by assumption) | exact RX.out 2 _ rfl _ (by assumption) | exact RX.out 3 _ rfl _ (by assumption))
        replace hHeld := hHeld (by decide)
        clear hK K
        try simp only [Act.put, List.getElem_toArray, List.getElem_cons_zero, List.getElem_cons_succ, List.setIfInBounds_toArray, List.set_cons_zero, List.set_cons_succ]
        refine to_ready (rs := [10]) (by kernel_rfl) (by simp) ?_
        refine AllTo.cons (o := _) rfl (fun K hK => ?_) AllTo.nil
        go_simp
        refine (KRD.out _ _ (below_trans HB1.out hz) hg5).mono ?_
        rintro en6 w6 ⟨⟨r6, rfl, hl6, hn6⟩, hb6⟩
        obtain ⟨ga6, hq6⟩ := hl6.form
        rw [← HEQ.out.2.2.1] at hq6
        subst hq6
        have hz := below_trans hz hb6
        have hf4 := hf4.below hb6
        have HBX := (hb6.block _ (lt_of_block HBX)).trans HBX
        try go_wp2_with fail
        refine hK.out _ _ (fun _ => ?_) (fun hHeld => ?_)
        · (try dsimp only); refine ⟨?_, ?_, ?_, ?_⟩ <;> (first | exact RX.out 0 _ rfl _ (by assumption) | exact RX.out 1 _ rfl _ (by assumption) | exact RX.out 2 _ rfl _ (by assumption) | exact RX.out 3 _ rfl _ (by assumption))
        replace hHeld := hHeld (by decide)
        clear hK K
        try simp only [Act.put, List.getElem_toArray, List.getElem_cons_zero, List.getElem_cons_succ, List.setIfInBounds_toArray, List.set_cons_zero, List.set_cons_succ]
        refine to_take (i := 11) (oi := _) (v := ?_) rfl (by kernel_rfl) (by kernel_rfl) (by kernel_rfl) (fun _ _ _ h => h) (by kernel_rfl) (by decide) (Or.inl ⟨by kernel_rfl, ?_⟩) (by assumption) ?_
        rotate_left
        · intro w hSw
          (try dsimp only at hSw)
          go_simp
          try with_reducible rfl
        try simp only [Act.put, List.getElem_toArray, List.getElem_cons_zero, List.getElem_cons_succ, List.setIfInBounds_toArray, List.set_cons_zero, List.set_cons_succ]
        refine to_ready (rs := [13]) (by kernel_rfl) (by simp) (AllTo.cons (o := _) rfl (fun K hK => ?_) AllTo.nil)
        rw [if_pos (by kernel_rfl)]
        refine oper_store_prog _ _ rfl G rfl _ _ _ _ rfl _ HBX rfl prog_one ?_
        intro w9 hr9 ho9
        refine hK.out _ _ (fun h => absurd rfl h) (fun _ => ?_)
        clear hK K
        try simp only [Act.put, List.getElem_toArray, List.getElem_cons_zero, List.getElem_cons_succ, List.setIfInBounds_toArray, List.set_cons_zero, List.set_cons_succ]
        refine to_done (by kernel_rfl) ?_ _
        go_wp2_with fail
        go_meet
        exact ⟨G, _, _, _, rfl, Lib.hid hr9, Lib.hid (hf4.other HBX prog_nobool ho9), Lib.hid (hl6.other HBX prog_cells ho9 (hl6.apart hg0 HBX prog_nobool)), Lib.hid (below_only hz ho9 hG), Lib.hid hG⟩
      refine AllTo.cons (o := _) rfl (fun K hK => ?_) AllTo.nil
      rw [if_pos (by kernel_rfl)]
      refine oper_alloc_prog rfl ?_
      intro G wA HBX hG hbA
      have hG := Nat.le_trans hz.size hG
      have hz := below_trans hz hbA
      have hf4 := hf4.below hbA
      refine hK.out _ _ (fun _ => ?_) (fun hHeld => ?_)
      · (try dsimp only); refine ⟨?_, ?_, ?_, ?_⟩ <;> (first | exact RX.out 0 _ rfl _ (by assumption) | exact RX.out 1 _ rfl _ (by assumption) | exact RX.out 2 _ rfl _ (by assumption) | exact RX.out 3 _ rfl _ (by assumption))
      replace hHeld := hHeld (by decide)
      clear hK K
      try simp only [Act.put, List.getElem_toArray, List.getElem_cons_zero, List.getElem_cons_succ, List.setIfInBounds_toArray, List.set_cons_zero, List.set_cons_succ]
      refine to_ready (rs := [9]) (by kernel_rfl) (by simp) ?_
      refine AllTo.cons (o := _) rfl (fun K hK => ?_) AllTo.nil
      go_simp
      refine (KE.out _).mono ?_
      rintro en5 w5 ⟨⟨g5, rfl, hg5⟩, hb5⟩
      have hz := below_trans hz hb5
      have hf4 := hf4.below hb5
      have HBX := (hb5.block _ (lt_of_block HBX)).trans HBX
      try go_wp2_with fail
      refine hK.out _ _ (fun _ => ?_) (fun hHeld => ?_)
      · (try dsimp only); refine ⟨?_, ?_, ?_, ?_⟩ <;> (first | exact RX.out 0 _ rfl _ (by assumption) | exact RX.out 1 _ rfl _ (by assumption) | exact RX.out 2 _ rfl _ (by assumption) | exact RX.out 3 _ rfl _ (by assumption))
      replace hHeld := hHeld (by decide)
      clear hK K
      try simp only [Act.put, List.getElem_toArray, List.getElem_cons_zero, List.getElem_cons_succ, List.setIfInBounds_toArray, List.set_cons_zero, List.set_cons_succ]
      refine to_ready (rs := [10]) (by kernel_rfl) (by simp) ?_
      refine AllTo.cons (o := _) rfl (fun K hK => ?_) AllTo.nil
      go_simp
      refine (KRD.out _ _ (below_trans HB1.out hz) hg5).mono ?_
      rintro en6 w6 ⟨⟨r6, rfl, hl6, hn6⟩, hb6⟩
      obtain ⟨ga6, hq6⟩ := hl6.form
      rw [← HEQ.out.2.2.1] at hq6
      subst hq6
      have hz := below_trans hz hb6
      have hf4 := hf4.below hb6
      have HBX := (hb6.block _ (lt_of_block HBX)).trans HBX
      try go_wp2_with fail
      refine hK.out _ _ (fun _ => ?_) (fun hHeld => ?_)
      · (try dsimp only); refine ⟨?_, ?_, ?_, ?_⟩ <;> (first | exact RX.out 0 _ rfl _ (by assumption) | exact RX.out 1 _ rfl _ (by assumption) | exact RX.out 2 _ rfl _ (by assumption) | exact RX.out 3 _ rfl _ (by assumption))
      replace hHeld := hHeld (by decide)
      clear hK K
      try simp only [Act.put, List.getElem_toArray, List.getElem_cons_zero, List.getElem_cons_succ, List.setIfInBounds_toArray, List.set_cons_zero, List.set_cons_succ]
      refine to_take (i := 11) (oi := _) (v := ?_) rfl (by kernel_rfl) (by kernel_rfl) (by kernel_rfl) (fun _ _ _ h => h) (by kernel_rfl) (by decide) (Or.inl ⟨by kernel_rfl, ?_⟩) (by assumption) ?_
      rotate_left
      · intro w hSw
        (try dsimp only at hSw)
        go_simp
        try with_reducible rfl
      try simp only [Act.put, List.getElem_toArray, List.getElem_cons_zero, List.getElem_cons_succ, List.setIfInBounds_toArray, List.set_cons_zero, List.set_cons_succ]
      refine to_ready (rs := [13]) (by kernel_rfl) (by simp) (AllTo.cons (o := _) rfl (fun K hK => ?_) AllTo.nil)
      rw [if_pos (by kernel_rfl)]
      refine oper_store_prog _ _ rfl G rfl _ _ _ _ rfl _ HBX rfl prog_one ?_
      intro w9 hr9 ho9
      refine hK.out _ _ (fun h => absurd rfl h) (fun _ => ?_)
      clear hK K
      try simp only [Act.put, List.getElem_toArray, List.getElem_cons_zero, List.getElem_cons_succ, List.setIfInBounds_toArray, List.set_cons_zero, List.set_cons_succ]
      refine to_done (by kernel_rfl) ?_ _
      go_wp2_with fail
      go_meet
      exact ⟨G, _, _, _, rfl, Lib.hid hr9, Lib.hid (hf4.other HBX prog_nobool ho9), Lib.hid (hl6.other HBX prog_cells ho9 (hl6.apart hg0 HBX prog_nobool)), Lib.hid (below_only hz ho9 hG), Lib.hid hG⟩
    refine AllTo.cons (o := _) rfl (fun K hK => ?_) AllTo.nil
    rw [if_pos (by kernel_rfl)]
    refine oper_alloc_prog rfl ?_
    intro G wA HBX hG hbA
    have hG := Nat.le_trans hz.size hG
    have hz := below_trans hz hbA
    refine hK.out _ _ (fun _ => ?_) (fun hHeld => ?_)
    · (try dsimp only); refine ⟨?_, ?_, ?_, ?_⟩ <;> (first | exact RX.out 0 _ rfl _ (by assumption) | exact RX.out 1 _ rfl _ (by assumption) | exact RX.out 2 _ rfl _ (by assumption) | exact RX.out 3 _ rfl _ (by assumption))
    replace hHeld := hHeld (by decide)
    clear hK K
    try simp only [Act.put, List.getElem_toArray, List.getElem_cons_zero, List.getElem_cons_succ, List.setIfInBounds_toArray, List.set_cons_zero, List.set_cons_succ]
    refine to_ready (rs := [4]) (by kernel_rfl) (by simp) ?_
    refine AllTo.cons (o := _) rfl (fun K hK => ?_) AllTo.nil
    go_simp
    refine (KC.out _ (below_trans HB1.out hz)).mono ?_
    rintro en4 w4 ⟨⟨fa4, fc4, rfl, hf4⟩, hb4⟩
    have hz := below_trans hz hb4
    have HBX := (hb4.block _ (lt_of_block HBX)).trans HBX
    try go_wp2_with fail
    refine hK.out _ _ (fun _ => ?_) (fun hHeld => ?_)
    · (try dsimp only); refine ⟨?_, ?_, ?_, ?_⟩ <;> (first | exact RX.out 0 _ rfl _ (by assumption) | exact RX.out 1 _ rfl _ (by assumption) | exact RX.out 2 _ rfl _ (by assumption) | exact RX.out 3 _ rfl _ (by assumption))
    replace hHeld := hHeld (by decide)
    clear hK K
    try simp only [Act.put, List.getElem_toArray, List.getElem_cons_zero, List.getElem_cons_succ, List.setIfInBounds_toArray, List.set_cons_zero, List.set_cons_succ]
    refine to_ready (rs := [9]) (by kernel_rfl) (by simp) ?_
    refine AllTo.cons (o := _) rfl (fun K hK => ?_) AllTo.nil
    go_simp
    refine (KE.out _).mono ?_
    rintro en5 w5 ⟨⟨g5, rfl, hg5⟩, hb5⟩
    have hz := below_trans hz hb5
    have hf4 := hf4.below hb5
    have HBX := (hb5.block _ (lt_of_block HBX)).trans HBX
    try go_wp2_with fail
    refine hK.out _ _ (fun _ => ?_) (fun hHeld => ?_)
    · (try dsimp only); refine ⟨?_, ?_, ?_, ?_⟩ <;> (first | exact RX.out 0 _ rfl _ (by assumption) | exact RX.out 1 _ rfl _ (by assumption) | exact RX.out 2 _ rfl _ (by assumption) | exact RX.out 3 _ rfl _ (by assumption))
    replace hHeld := hHeld (by decide)
    clear hK K
    try simp only [Act.put, List.getElem_toArray, List.getElem_cons_zero, List.getElem_cons_succ, List.setIfInBounds_toArray, List.set_cons_zero, List.set_cons_succ]
    refine to_ready (rs := [10]) (by kernel_rfl) (by simp) ?_
    refine AllTo.cons (o := _) rfl (fun K hK => ?_) AllTo.nil
    go_simp
    refine (KRD.out _ _ (below_trans HB1.out hz) hg5).mono ?_
    rintro en6 w6 ⟨⟨r6, rfl, hl6, hn6⟩, hb6⟩
    obtain ⟨ga6, hq6⟩ := hl6.form
    rw [← HEQ.out.2.2.1] at hq6
    subst hq6
    have hz := below_trans hz hb6
    have hf4 := hf4.below hb6
    have HBX := (hb6.block _ (lt_of_block HBX)).trans HBX
    try go_wp2_with fail
    refine hK.out _ _ (fun _ => ?_) (fun hHeld => ?_)
    · (try dsimp only); refine ⟨?_, ?_, ?_, ?_⟩ <;> (first | exact RX.out 0 _ rfl _ (by assumption) | exact RX.out 1 _ rfl _ (by assumption) | exact RX.out 2 _ rfl _ (by assumption) | exact RX.out 3 _ rfl _ (by assumption))
    replace hHeld := hHeld (by decide)
    clear hK K
    try simp only [Act.put, List.getElem_toArray, List.getElem_cons_zero, List.getElem_cons_succ, List.setIfInBounds_toArray, List.set_cons_zero, List.set_cons_succ]
    refine to_take (i := 11) (oi := _) (v := ?_) rfl (by kernel_rfl) (by kernel_rfl) (by kernel_rfl) (fun _ _ _ h => h) (by kernel_rfl) (by decide) (Or.inl ⟨by kernel_rfl, ?_⟩) (by assumption) ?_
    rotate_left
    · intro w hSw
      (try dsimp only at hSw)
      go_simp
      try with_reducible rfl
    try simp only [Act.put, List.getElem_toArray, List.getElem_cons_zero, List.getElem_cons_succ, List.setIfInBounds_toArray, List.set_cons_zero, List.set_cons_succ]
    refine to_ready (rs := [13]) (by kernel_rfl) (by simp) (AllTo.cons (o := _) rfl (fun K hK => ?_) AllTo.nil)
    rw [if_pos (by kernel_rfl)]
    refine oper_store_prog _ _ rfl G rfl _ _ _ _ rfl _ HBX rfl prog_one ?_
    intro w9 hr9 ho9
    refine hK.out _ _ (fun h => absurd rfl h) (fun _ => ?_)
    clear hK K
    try simp only [Act.put, List.getElem_toArray, List.getElem_cons_zero, List.getElem_cons_succ, List.setIfInBounds_toArray, List.set_cons_zero, List.set_cons_succ]
    refine to_done (by kernel_rfl) ?_ _
    go_wp2_with fail
    go_meet
    exact ⟨G, _, _, _, rfl, Lib.hid hr9, Lib.hid (hf4.other HBX prog_nobool ho9), Lib.hid (hl6.other HBX prog_cells ho9 (hl6.apart hg0 HBX prog_nobool)), Lib.hid (below_only hz ho9 hG), Lib.hid hG⟩
  case rest =>
    obtain ⟨w2, rfl⟩ : ∃ w8 : World, w8 = wc := ⟨_, rfl⟩
    obtain ⟨G, fa', fc', ga', rfl, HG2, HF2, HL2, HZ2, HGB⟩ := hcut
    have x0 := RX.out 0 _ rfl _ HZ2.out
    have x1 := RX.out 1 _ rfl _ HZ2.out
    have x2 := RX.out 2 _ rfl _ HZ2.out
    have x3 := RX.out 3 _ rfl _ HZ2.out
    have HGL : Hid (G < w2.heap.size) := Lib.hid (lt_of_block HG2.out)
    have HW12 : Hid (w1.heap.size ≤ w2.heap.size) := Lib.hid HZ2.out.size
    have HPL : Hid (w.heap.size < w2.heap.size) := Lib.hid (Nat.lt_of_lt_of_le (lt_of_block HX1.out) HZ2.out.size)
    have HFB : Hid (∀ x, fa' = some x → x.block < w2.heap.size) := Lib.hid (by
      obtain ⟨b0, B0, off0, -, ha0, hc0⟩ := HF2.out.at (i := 0) (by have := HEQ.out; omega)
      intro x hx
      rw [ha0] at hx
      cases hx
      exact cell_lt (hc0 _ (Below.refl _ _)))
    have HLB : Hid (∀ g, (Value.slice ga' fn fn).ownBlock = some g → g < w2.heap.size) := Lib.hid (fun g hg => HL2.out.lt9 g hg)
    have HLG : Hid (∀ g, (Value.slice ga' fn fn).ownBlock = some g → g ≠ G) := Lib.hid (HL2.out.apart hg0 HG2.out prog_nobool)
    clear KC KE KRD
    go_wp2_with fail
    go_loopw [21] (fun iv wr => ∃ (i : Nat) (oa : Option Addr) (oc : Nat), i ≤ rn ∧ iv = .int .i64 i ∧ Hid (wr.heap[G]? = some (.cells #[Value.int .i64 (fn : Int), Value.slice fa' fn fc', Value.slice ga' fn fn, Value.slice oa i oc] 26 (0, 0))) ∧ Hid (LRo rkV wr w2.heap.size (.slice oa i oc) (P.rows.take i)) ∧ Hid (BoolsF wr fa' P.free) ∧ Hid (ListV wr (.slice ga' fn fn) P.goal) ∧ Hid (Below w1.heap.size w1 wr) ∧ Hid (w2.heap.size ≤ wr.heap.size)) (fun iv _ => rn - (intOf iv).toNat)
    case atStart => exact ⟨0, none, 0, Nat.zero_le _, rfl, HG2, Lib.hid (LRo.nil _ _ _), HF2, HL2, HZ2, Lib.hid (Nat.le_refl _)⟩
    case round =>
      obtain ⟨i, oa, oc, hi, rfl, hG, hO, hF, HGL2, hZ, hsz⟩ := hrel
      obtain ⟨wo, rfl⟩ : ∃ wo : World, wo = wr := ⟨_, rfl⟩
      by_cases hin : i < rn
      · have t5 : decide ((i : Int) < (rn : Int)) = true := by simp; omega
        obtain ⟨r, B, off, a1, c1, b, a2, n2, c2, a3, n3, c3, hr, ha, hlr, hfr, hs3, hs4, hcr⟩ := HR.out.at (i := i) (by have := HEQ.out; omega)
        subst ha
        obtain ⟨f0, f1, f2, f3, f4⟩ := hcr wo (below_trans HB1.out hZ.out)
        have HTK : Hid (P.rows.take i ++ [r] = P.rows.take (i + 1) ∧ (P.rows.take i ++ [r]).length = i + 1) := Lib.hid (by
          have h9 : i < P.rows.length := by have := HEQ.out; omega
          have h8 := hr
          rw [List.getElem?_eq_getElem h9] at h8
          simp only [Option.some.injEq] at h8
          exact ⟨by rw [List.take_succ_eq_append_getElem h9, h8], by rw [List.length_append, List.length_take]; simp; omega⟩)
        have hrl0 := row_len HRB.out hr
        obtain ⟨rl, hrl⟩ : ∃ n, n = r.1.length := ⟨_, rfl⟩
        have HRL := Lib.hid hrl
        have hrln : rl = fn := by have := HEQ.out; omega
        rw [← hrl] at f0 hlr
        obtain ⟨sn, hsn⟩ : ∃ n, n = r.2.1 := ⟨_, rfl⟩
        rw [← hsn] at f1
        have HSN := Lib.hid hsn.symm
        obtain ⟨Q, hQ⟩ : ∃ Q, Q = r.2.2 := ⟨_, rfl⟩
        rw [← hQ] at hfr
        have HQ2 := Lib.hid hQ.symm
        have HFR := Lib.hid hfr
        have HLR := Lib.hid hlr
        have HW := Lib.hid (below_trans HB1.out hZ.out)
        clear hcr hr hrl hlr hfr hs3 hs4 hrl0 hsn hQ
        subst hrln
        go_wp2_with ((with_reducible refine at_store ?_); refine wpList_store_var rfl _ _ _ rfl wo.heap.size rfl _ rfl _ _ (heap_alloc_new _ _) irow rfl row_one ?_; intro w4 h4 hon4; refine halt ?_)
        have hb4 : Below wo.heap.size wo w4 := below_only ((Below.refl _ _).alloc (Nat.le_refl _) _) hon4 (Nat.le_refl _)
        have HB4 := Lib.hid hb4
        have HS4 : Hid (wo.heap.size ≤ w4.heap.size) := Lib.hid hb4.size
        have HY4 := Lib.hid h4
        have RY := Lib.hid (cells_later h4)
        have HXO := Lib.hid ((hZ.out.block _ (lt_of_block HX1.out)).trans HX1.out)
        have RXO := Lib.hid (cells_later ((hb4.block _ (lt_of_block HXO.out)).trans HXO.out))
        have RG := Lib.hid (cells_later ((hb4.block _ (lt_of_block hG.out)).trans hG.out))
        have KE2 := Lib.hid (fun w' => entries_w (w := w') (a := a1) (n := rl) (c := c1))
        have KR2 : Hid (∀ w' g, Below w4.heap.size w4 w' → w'.cell? ⟨g, 0, none⟩ = some (.slice a1 rl c1) → Calls Tryz.prog 19 #[.int .i64 (rl : Nat), .func (.func 54) #[] #[.pointer (some ⟨g, 0, none⟩)]] w' fun e w'' => (∃ r', e = .returned r' ∧ ListV w'' r' r.1 ∧ ∀ g, r'.ownBlock = some g → w'.heap.size ≤ g) ∧ Below w'.heap.size w' w'') := Lib.hid (fun w' g hb hg => read_e (qs := r.1) (fun j w'' hj hb9 => (entries1_w (w0 := w) (below_trans (below_trans HW.out (below_trans HB4.out hb)) hb9) (cell_below hb9 hg) HLR.out (by have := HRL.out; omega)).mono (fun e w3 h3 => ReadI.of_read (below_trans (below_trans HW.out (below_trans HB4.out hb)) hb9) h3)) HRL.out (by omega))
        have KF2 := Lib.hid (fun w' (hb : Below w4.heap.size w4 w') => fix_f ((HFR.out.below (below_trans HW.out (below_trans HB4.out hb))).inF))
        clear h4 hon4 hb4 f0 f1 f2 f3 f4
        refine go_on ?_
        have hz : Below w4.heap.size w4 w4.drew := below_drewN (Below.refl _ _) 1
        go_wp2_with fail
        refine wp_region_to 17 (fun w' => w'.cell? ⟨w.heap.size, 0, none⟩ = some (.int .i64 (rl : Int)) ∧ w'.cell? ⟨G, 3, none⟩ = some (.slice oa i oc) ∧ w'.cell? ⟨wo.heap.size, 0, none⟩ = some (.slice a1 rl c1) ∧ w'.cell? ⟨wo.heap.size, 1, none⟩ = some (.int .i64 sn) ∧ w'.cell? ⟨wo.heap.size, 2, none⟩ = some (.bool b) ∧ w'.cell? ⟨wo.heap.size, 3, none⟩ = some (.slice a2 n2 c2) ∧ w'.cell? ⟨wo.heap.size, 4, none⟩ = some (.slice a3 n3 c3)) (by kernel_rfl) (by (try dsimp only); refine ⟨?_, ?_, ?_, ?_, ?_, ?_, ?_⟩ <;> (first | exact RXO.out 0 _ rfl _ (by assumption) | exact RG.out 3 _ rfl _ (by assumption) | exact RY.out 0 _ rfl _ (by assumption) | exact RY.out 1 _ rfl _ (by assumption) | exact RY.out 2 _ rfl _ (by assumption) | exact RY.out 3 _ rfl _ (by assumption) | exact RY.out 4 _ rfl _ (by assumption))) (fun hHeld => ?_)
        refine to_take (i := 0) (oi := _) (v := ?_) rfl (by kernel_rfl) (by kernel_rfl) (by kernel_rfl) (fun _ _ _ h => h) (by kernel_rfl) (by decide) (Or.inl ⟨by kernel_rfl, ?_⟩) (by assumption) ?_
        rotate_left
        · intro w hSw
          (try dsimp only at hSw)
          go_simp
          try with_reducible rfl
        try simp only [Act.put, List.getElem_toArray, List.getElem_cons_zero, List.getElem_cons_succ, List.setIfInBounds_toArray, List.set_cons_zero, List.set_cons_succ]
        refine to_take (i := 1) (oi := _) (v := ?_) rfl (by kernel_rfl) (by kernel_rfl) (by kernel_rfl) (fun _ _ _ h => h) (by kernel_rfl) (by decide) (Or.inl ⟨by kernel_rfl, ?_⟩) (by assumption) ?_
        rotate_left
        · intro w hSw
          (try dsimp only at hSw)
          go_simp
          try with_reducible rfl
        try simp only [Act.put, List.getElem_toArray, List.getElem_cons_zero, List.getElem_cons_succ, List.setIfInBounds_toArray, List.set_cons_zero, List.set_cons_succ]
        refine to_take (i := 2) (oi := _) (v := ?_) rfl (by kernel_rfl) (by kernel_rfl) (by kernel_rfl) (fun _ _ _ h => h) (by kernel_rfl) (by decide) (Or.inl ⟨by kernel_rfl, ?_⟩) (by assumption) ?_
        rotate_left
        · intro w hSw
          (try dsimp only at hSw)
          go_simp
          try with_reducible rfl
        try simp only [Act.put, List.getElem_toArray, List.getElem_cons_zero, List.getElem_cons_succ, List.setIfInBounds_toArray, List.set_cons_zero, List.set_cons_succ]
        refine to_take (i := 3) (oi := _) (v := ?_) rfl (by kernel_rfl) (by kernel_rfl) (by kernel_rfl) (fun _ _ _ h => h) (by kernel_rfl) (by decide) (Or.inl ⟨by kernel_rfl, ?_⟩) (by assumption) ?_
        rotate_left
        · intro w hSw
          (try dsimp only at hSw)
          go_simp
          try with_reducible rfl
        try simp only [Act.put, List.getElem_toArray, List.getElem_cons_zero, List.getElem_cons_succ, List.setIfInBounds_toArray, List.set_cons_zero, List.set_cons_succ]
        refine to_take (i := 4) (oi := _) (v := ?_) rfl (by kernel_rfl) (by kernel_rfl) (by kernel_rfl) (fun _ _ _ h => h) (by kernel_rfl) (by decide) (Or.inl ⟨by kernel_rfl, ?_⟩) (by assumption) ?_
        rotate_left
        · intro w hSw
          (try dsimp only at hSw)
          go_simp
          try with_reducible rfl
        try simp only [Act.put, List.getElem_toArray, List.getElem_cons_zero, List.getElem_cons_succ, List.setIfInBounds_toArray, List.set_cons_zero, List.set_cons_succ]
        refine to_take (i := 5) (oi := _) (v := ?_) rfl (by kernel_rfl) (by kernel_rfl) (by kernel_rfl) (fun _ _ _ h => h) (by kernel_rfl) (by decide) (Or.inl ⟨by kernel_rfl, ?_⟩) (by assumption) ?_
        rotate_left
        · intro w hSw
          (try dsimp only at hSw)
          go_simp
          try with_reducible rfl
        try simp only [Act.put, List.getElem_toArray, List.getElem_cons_zero, List.getElem_cons_succ, List.setIfInBounds_toArray, List.set_cons_zero, List.set_cons_succ]
        refine to_take (i := 8) (oi := _) (v := ?_) rfl (by kernel_rfl) (by kernel_rfl) (by kernel_rfl) (fun _ _ _ h => h) (by kernel_rfl) (by decide) (Or.inl ⟨by kernel_rfl, ?_⟩) (by assumption) ?_
        rotate_left
        · intro w hSw
          (try dsimp only at hSw)
          go_simp
          try with_reducible rfl
        try simp only [Act.put, List.getElem_toArray, List.getElem_cons_zero, List.getElem_cons_succ, List.setIfInBounds_toArray, List.set_cons_zero, List.set_cons_succ]
        refine to_take (i := 9) (oi := _) (v := ?_) rfl (by kernel_rfl) (by kernel_rfl) (by kernel_rfl) (fun _ _ _ h => h) (by kernel_rfl) (by decide) (Or.inl ⟨by kernel_rfl, ?_⟩) (by assumption) ?_
        rotate_left
        · intro w hSw
          (try dsimp only at hSw)
          go_simp
          try with_reducible rfl
        try simp only [Act.put, List.getElem_toArray, List.getElem_cons_zero, List.getElem_cons_succ, List.setIfInBounds_toArray, List.set_cons_zero, List.set_cons_succ]
        refine to_take (i := 10) (oi := _) (v := ?_) rfl (by kernel_rfl) (by kernel_rfl) (by kernel_rfl) (fun _ _ _ h => h) (by kernel_rfl) (by decide) (Or.inl ⟨by kernel_rfl, ?_⟩) (by assumption) ?_
        rotate_left
        · intro w hSw
          (try dsimp only at hSw)
          go_simp
          try with_reducible rfl
        try simp only [Act.put, List.getElem_toArray, List.getElem_cons_zero, List.getElem_cons_succ, List.setIfInBounds_toArray, List.set_cons_zero, List.set_cons_succ]
        refine to_take (i := 11) (oi := _) (v := ?_) rfl (by kernel_rfl) (by kernel_rfl) (by kernel_rfl) (fun _ _ _ h => h) (by kernel_rfl) (by decide) (Or.inl ⟨by kernel_rfl, ?_⟩) (by assumption) ?_
        rotate_left
        · intro w hSw
          (try dsimp only at hSw)
          go_simp
          try with_reducible rfl
        try simp only [Act.put, List.getElem_toArray, List.getElem_cons_zero, List.getElem_cons_succ, List.setIfInBounds_toArray, List.set_cons_zero, List.set_cons_succ]
        refine to_ready (rs := [6]) (by kernel_rfl) (by simp) (AllTo.cons (o := _) rfl (fun K hK => ?_) AllTo.nil)
        go_simp
        refine (KE2.out _).mono ?_
        rintro en5 w5 ⟨⟨g5, rfl, hg5⟩, hb5⟩
        have hz := below_trans hz hb5
        try go_wp2_with fail
        refine hK.out _ _ (fun _ => ?_) (fun hHeld => ?_)
        · (try dsimp only); refine ⟨?_, ?_, ?_, ?_, ?_, ?_, ?_⟩ <;> (first | exact RXO.out 0 _ rfl _ (by assumption) | exact RG.out 3 _ rfl _ (by assumption) | exact RY.out 0 _ rfl _ (by assumption) | exact RY.out 1 _ rfl _ (by assumption) | exact RY.out 2 _ rfl _ (by assumption) | exact RY.out 3 _ rfl _ (by assumption) | exact RY.out 4 _ rfl _ (by assumption))
        replace hHeld := hHeld (by decide)
        clear hK K
        try simp only [Act.put, List.getElem_toArray, List.getElem_cons_zero, List.getElem_cons_succ, List.setIfInBounds_toArray, List.set_cons_zero, List.set_cons_succ]
        refine to_ready (rs := [7]) (by kernel_rfl) (by simp) (AllTo.cons (o := _) rfl (fun K hK => ?_) AllTo.nil)
        go_simp
        refine (KR2.out _ _ hz hg5).mono ?_
        rintro en6 w6 ⟨⟨r6, rfl, hl6, hn6⟩, hb6⟩
        obtain ⟨ar, hq6⟩ := hl6.form
        rw [← HRL.out] at hq6
        subst hq6
        have hs5 : wo.heap.size ≤ w5.heap.size := Nat.le_trans HS4.out hz.size
        have hz := below_trans hz hb6
        try go_wp2_with fail
        refine hK.out _ _ (fun _ => ?_) (fun hHeld => ?_)
        · (try dsimp only); refine ⟨?_, ?_, ?_, ?_, ?_, ?_, ?_⟩ <;> (first | exact RXO.out 0 _ rfl _ (by assumption) | exact RG.out 3 _ rfl _ (by assumption) | exact RY.out 0 _ rfl _ (by assumption) | exact RY.out 1 _ rfl _ (by assumption) | exact RY.out 2 _ rfl _ (by assumption) | exact RY.out 3 _ rfl _ (by assumption) | exact RY.out 4 _ rfl _ (by assumption))
        replace hHeld := hHeld (by decide)
        clear hK K
        try simp only [Act.put, List.getElem_toArray, List.getElem_cons_zero, List.getElem_cons_succ, List.setIfInBounds_toArray, List.set_cons_zero, List.set_cons_succ]
        refine to_ready (rs := [12]) (by kernel_rfl) (by simp) (AllTo.cons (o := _) rfl (fun K hK => ?_) AllTo.nil)
        go_simp
        refine (KF2.out _ hz).mono ?_
        rintro en7 w7 ⟨⟨v7, rfl, f7, -⟩, hb7⟩
        obtain ⟨a7, n7, c7, i7, j7, k7, hq7⟩ := frac_form f7
        subst hq7
        have hz := below_trans hz hb7
        have hl6 := hl6.below hb7
        obtain ⟨bq, hbq⟩ : ∃ bq, bq = decide (Q.num < 0) := ⟨_, rfl⟩
        rw [← hbq] at f7
        rw [← hbq]
        clear hbq
        try go_wp2_with fail
        refine hK.out _ _ (fun _ => ?_) (fun hHeld => ?_)
        · (try dsimp only); refine ⟨?_, ?_, ?_, ?_, ?_, ?_, ?_⟩ <;> (first | exact RXO.out 0 _ rfl _ (by assumption) | exact RG.out 3 _ rfl _ (by assumption) | exact RY.out 0 _ rfl _ (by assumption) | exact RY.out 1 _ rfl _ (by assumption) | exact RY.out 2 _ rfl _ (by assumption) | exact RY.out 3 _ rfl _ (by assumption) | exact RY.out 4 _ rfl _ (by assumption))
        replace hHeld := hHeld (by decide)
        clear hK K
        try simp only [Act.put, List.getElem_toArray, List.getElem_cons_zero, List.getElem_cons_succ, List.setIfInBounds_toArray, List.set_cons_zero, List.set_cons_succ]
        refine to_take (i := 13) (oi := _) (v := ?_) rfl (by kernel_rfl) (by kernel_rfl) (by kernel_rfl) (fun _ _ _ h => h) (by kernel_rfl) (by decide) (Or.inl ⟨by kernel_rfl, ?_⟩) (by assumption) ?_
        rotate_left
        · intro w hSw
          (try dsimp only at hSw)
          go_simp
          try with_reducible rfl
        try simp only [Act.put, List.getElem_toArray, List.getElem_cons_zero, List.getElem_cons_succ, List.setIfInBounds_toArray, List.set_cons_zero, List.set_cons_succ]
        refine to_ready (rs := [14]) (by kernel_rfl) (by simp) (AllTo.cons (o := _) rfl (fun K hK => ?_) AllTo.nil)
        go_simp
        obtain ⟨w8, hw8⟩ : ∃ w', w' = w7.alloc (Obj.cells #[Value.slice ar rl rl, Value.int .i64 sn, Value.bool bq, Value.slice a7 n7 c7, Value.slice i7 j7 k7] 45) := ⟨_, rfl⟩
        have hb8 : Below w7.heap.size w7 w8 := by rw [hw8]; exact (Below.refl _ _).alloc (Nat.le_refl _) _
        have hr8 : w8.heap[w7.heap.size]? = some (.cells #[Value.slice ar rl rl, Value.int .i64 sn, Value.bool bq, Value.slice a7 n7 c7, Value.slice i7 j7 k7] 45 (0, 0)) := by rw [hw8]; exact heap_alloc_new w7 _
        rw [← hw8]
        clear hw8
        have hz := below_trans hz hb8
        have hl6 := hl6.below hb8
        have f7 := f7.below hb8
        refine hK.out _ _ (fun _ => ?_) (fun hHeld => ?_)
        · (try dsimp only); refine ⟨?_, ?_, ?_, ?_, ?_, ?_, ?_⟩ <;> (first | exact RXO.out 0 _ rfl _ (by assumption) | exact RG.out 3 _ rfl _ (by assumption) | exact RY.out 0 _ rfl _ (by assumption) | exact RY.out 1 _ rfl _ (by assumption) | exact RY.out 2 _ rfl _ (by assumption) | exact RY.out 3 _ rfl _ (by assumption) | exact RY.out 4 _ rfl _ (by assumption))
        replace hHeld := hHeld (by decide)
        clear hK K
        try simp only [Act.put, List.getElem_toArray, List.getElem_cons_zero, List.getElem_cons_succ, List.setIfInBounds_toArray, List.set_cons_zero, List.set_cons_succ]
        refine to_ready (rs := [15]) (by kernel_rfl) (by simp) (AllTo.cons (o := _) rfl (fun K hK => ?_) AllTo.nil)
        rw [if_pos (by kernel_rfl)]
        have hzo : Below wo.heap.size wo w8 := below_trans HB4.out hz
        have HO8 := hO.out.below hzo
        have hlt8 := hO.out.lt
        refine oper_push_row (K := rkV) _ _ rfl w2.heap.size (Value.slice oa i oc) (P.rows.take i) rfl HO8 w7.heap.size 1 ar rl rl bq a7 i7 n7 c7 j7 k7 r rfl (by rw [HSN.out]; exact hr8) hl6 (by rw [HQ2.out]; exact f7) (fun k hk => ⟨fun e => by have h1 := hn6 k hk; have h2 := (hlt8 k e).2; omega, by have := hl6.lt9 k hk; omega, by have h1 := hn6 k hk; have h2 := hsz.out; omega⟩) (by rw [List.length_take]; omega) (by have h1 := hzo.size; have h2 := hsz.out; omega) ?_
        intro v9 w9 hown9 hg9 hbel9 hat9
        have hB9 : Below w2.heap.size wo w9 := hbel9 wo (hzo.mono hsz.out)
        have HX9 := (hB9.block _ HPL.out).trans (HXO.out)
        have HG9 := (hB9.block _ HGL.out).trans hG.out
        have HY9 : w9.heap[wo.heap.size]? = some (.cells #[Value.slice a1 rl c1, Value.int .i64 sn, Value.bool b, Value.slice a2 n2 c2, Value.slice a3 n3 c3] 45 (0, 0)) := (hg9.block _ (Nat.lt_of_lt_of_le (lt_of_block HY4.out) hz.size) (fun e => by have := (hlt8 _ e.symm).2; omega)).trans ((hz.block _ (lt_of_block HY4.out)).trans HY4.out)
        obtain ⟨na, nc, hv9⟩ := hown9.form
        rw [HTK.out.1] at hown9
        rw [HTK.out.2] at hv9
        subst hv9
        have HL9 := ((HGL2.out.below hzo).grown HO8.clean hg9 (fun g hg e => by have h1 := HLB.out g hg; have h2 := (hlt8 g e).1; omega))
        have HF9 := hF.out.belowN HFB.out hB9
        have HZ9 : Below w1.heap.size w1 w9 := hZ.out.trans (hB9.mono HW12.out)
        refine hK.out _ _ (fun _ => ?_) (fun hHeld => ?_)
        · (try dsimp only); refine ⟨?_, ?_, ?_, ?_, ?_, ?_, ?_⟩ <;> (first | exact cells_later HX9 0 _ rfl _ (Below.refl _ _) | exact cells_later HG9 3 _ rfl _ (Below.refl _ _) | exact cells_later HY9 0 _ rfl _ (Below.refl _ _) | exact cells_later HY9 1 _ rfl _ (Below.refl _ _) | exact cells_later HY9 2 _ rfl _ (Below.refl _ _) | exact cells_later HY9 3 _ rfl _ (Below.refl _ _) | exact cells_later HY9 4 _ rfl _ (Below.refl _ _))
        replace hHeld := hHeld (by decide)
        clear hK K
        try simp only [Act.put, List.getElem_toArray, List.getElem_cons_zero, List.getElem_cons_succ, List.setIfInBounds_toArray, List.set_cons_zero, List.set_cons_succ]
        refine to_take (i := 16) (oi := _) (v := ?_) rfl (by kernel_rfl) (by kernel_rfl) (by kernel_rfl) (fun _ _ _ h => h) (by kernel_rfl) (by decide) (Or.inl ⟨by kernel_rfl, ?_⟩) (by assumption) ?_
        rotate_left
        · intro w hSw
          (try dsimp only at hSw)
          go_simp
          try with_reducible rfl
        try simp only [Act.put, List.getElem_toArray, List.getElem_cons_zero, List.getElem_cons_succ, List.setIfInBounds_toArray, List.set_cons_zero, List.set_cons_succ]
        refine to_ready (rs := [17]) (by kernel_rfl) (by simp) (AllTo.cons (o := _) rfl (fun K hK => ?_) AllTo.nil)
        have g3 := cells_later HG9 3 _ rfl _ (Below.refl _ _)
        have g4 := frozen_of_row _ _ 3 _ _ HG9
        go_simp
        refine hK.out _ _ (fun h => absurd rfl h) (fun _ => ?_)
        clear hK K
        try simp only [Act.put, List.getElem_toArray, List.getElem_cons_zero, List.getElem_cons_succ, List.setIfInBounds_toArray, List.set_cons_zero, List.set_cons_succ]
        refine to_done (by kernel_rfl) ?_ _
        have HON := set3_only w9 G (Value.slice na (i + 1) nc)
        have HG10 := Lib.hid (set3_row HG9 (v := Value.slice na (i + 1) nc))
        have HO10 := Lib.hid (hown9.other HG9 prog_cells HON HGL.out)
        have HF10 := Lib.hid (HF9.other HG9 prog_nobool HON)
        have HL10 := Lib.hid (HL9.other HG9 prog_cells HON (fun g hg => by have h1 := HLB.out g hg; have h2 := HLG.out g hg; exact h2))
        have HZ10 := Lib.hid (below_only HZ9 HON HGB.out)
        have HS10 : Hid (w2.heap.size ≤ (w9.setCell ⟨G, 3, none⟩ (Value.slice na (i + 1) nc)).heap.size) := Lib.hid (by rw [HON.size]; exact Nat.le_trans hsz.out hB9.size)
        clear HON HG9 HX9 HY9 HL9 HF9 HZ9 hB9 hown9
        go_wp2_with fail
        go_roundw
        case rel => exact ⟨i + 1, _, _, by omega, by go_num, HG10, HO10, HF10, HL10, HZ10, HS10⟩
        case measure => simp [intOf]; omega
      · have t5 : decide ((i : Int) < (rn : Int)) = false := by simp; omega
        obtain rfl : i = rn := by omega
        have g0 := cells_later hG.out 0 _ rfl _ (Below.refl _ _)
        have g1 := cells_later hG.out 1 _ rfl _ (Below.refl _ _)
        have g2 := cells_later hG.out 2 _ rfl _ (Below.refl _ _)
        have g3 := cells_later hG.out 3 _ rfl _ (Below.refl _ _)
        have HR9 := (hZ.out.block _ (lt_of_block HO1.out)).trans HO1.out
        have hlow : w.heap.size + 1 < w2.heap.size := Nat.lt_of_lt_of_le (lt_of_block HO1.out) HW12.out
        have HNE : w.heap.size + 1 ≠ G := by have := HGB.out; have := lt_of_block HO1.out; omega
        go_wp2_with ((with_reducible refine at_store ?_); refine wpList_store_var rfl _ _ _ rfl (w.heap.size + 1) rfl _ rfl _ _ HR9 info_prog9 rfl prog_one ?_; intro w5 h5 hon5; refine halt ?_)
        refine go_on ?_
        have hrt : P.rows.take i = P.rows := List.take_of_length_le (by have := HEQ.out; omega)
        have HO5 := hO.out.other HR9 prog_cells hon5 hlow
        rw [hrt] at HO5
        have HF5 := hF.out.other HR9 prog_nobool hon5
        have HL5 := HGL2.out.other HR9 prog_cells hon5 (HGL2.out.apart hg0 HR9 prog_nobool)
        go_wp2_with fail
        refine bodyPost_ret (results_cell_row rfl _ _ (w.heap.size + 1) _ _ _ _ rfl h5 Tryz.underlying26 rfl info_prog9) rfl ⟨⟨_, rfl, fa', fc', ga', fn, oa, oc, w2.heap.size, ?_, HF5, ?_, ?_, Nat.le_trans (Nat.le_succ _) (Nat.le_of_lt hlow), HFB.out, ?_, by rw [hon5.size]; exact hsz.out⟩, ?_⟩
        · rw [← HEQ.out.1, ← HEQ.out.2.1, ← HEQ.out.2.2.1, ← HEQ.out.2.2.2]
        · rw [← HEQ.out.2.2.1]
          exact HL5
        · rw [← HEQ.out.2.2.2]
          exact HO5
        · rw [← HEQ.out.2.2.1]
          exact HLB.out
        · exact below_only (below_trans HB1.out hZ.out) hon5 (Nat.le_succ _)
end Go.Proofs.YtafenoohjcpjgaaGreat
