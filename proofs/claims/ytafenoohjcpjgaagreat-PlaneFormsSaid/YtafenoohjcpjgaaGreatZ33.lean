/- Several texts in one: Yc. -/
import Derived.Test.YtafenoohjcpjgaaGreatZ32
import Derived.Test.YtafenoohjcpjgaaGreatZ30
import Derived.Deep.RegionHeld3
import Derived.Deep.DrawnRows
/- The dual: lists of truth values of the call's own. -/
namespace Go.Proofs.YtafenoohjcpjgaaGreat
open Go.RowKit
attribute [local go_sem ↓] Go.wp_at_zero Go.wp_at_succ

/-- The dual of a program whose rows are turned. -/
def dualR (n : Pm) (j : Nat) : List Rat × Int × Rat := (n.rows.map (fun r => -(nthQ r.1 j)), (if (n.free[j]?).getD false = true then 0 else -1), -(nthQ n.goal j))
def dualN (n : Pm) : Pm := { vars := n.rows.length, free := n.rows.map (fun r => decide (r.2.1 = 0)), goal := n.rows.map (fun r => -r.2.2), rows := (List.range n.goal.length).map (dualR n) }
theorem nth_sides {n : Pm} {i : Nat} (hi : i < n.rows.length) : nthQ (n.rows.map (fun r => -r.2.2)) i = -(bQ n i) := by
  unfold nthQ bQ
  rw [List.getElem?_map, List.getElem?_eq_getElem hi]
  rfl
theorem nth_column {n : Pm} {v i : Nat} (hi : i < n.rows.length) : nthQ (n.rows.map (fun r => -(nthQ r.1 v))) i = -(aQ n v i) := by
  show ((n.rows.map (fun r => -(nthQ r.1 v)))[i]?).getD 0 = _
  unfold aQ
  rw [List.getElem?_map, List.getElem?_eq_getElem hi]
  rfl
theorem ProgF.parts {M : Nat} {w : World} {P : Pm} {z : Int} {fa ga ra : Option Addr} {fn fc gn gc rn rc : Nat} (h : ProgF M w (.agg #[.int .i64 z, .slice fa fn fc, .slice ga gn gc, .slice ra rn rc]) P) : z = P.vars ∧ fn = P.free.length ∧ gn = P.goal.length ∧ rn = P.rows.length ∧ BoolsF w fa P.free ∧ ListF M w (.slice ga gn gc) P.goal ∧ RowsPF M w ra P.rows := by
  obtain ⟨fa', fc', ga', gc', ra', rc', hv, -, -, hB, hG, hR⟩ := h
  simp only [Value.agg.injEq, Array.mk.injEq, List.cons.injEq, Value.int.injEq, Value.slice.injEq, and_true, true_and] at hv
  obtain ⟨rfl, ⟨rfl, rfl, rfl⟩, ⟨rfl, rfl, rfl⟩, ⟨rfl, rfl, rfl⟩⟩ := hv
  exact ⟨rfl, rfl, rfl, rfl, hB, hG, hR⟩
/-- A list of truth values of the call's own. -/
def LBo (w : World) (base : Nat) (v : Value) (bs : List Bool) : Prop := w.ownsRow base 4 1 v bs.length (bs.map Value.bool) ∧ Clean w v
theorem LBo.nil (w : World) (base : Nat) : LBo w base (.slice none 0 0) [] := ⟨World.ownsRow_nil w base _ 1, fun _ _ _ _ h => by simp [Value.ownBlock] at h⟩
theorem LBo.lt {w : World} {base : Nat} {v : Value} {bs : List Bool} (h : LBo w base v bs) : ∀ g, v.ownBlock = some g → base ≤ g ∧ g < w.heap.size := fun g hg => World.ownsRow.lt h.1 g hg
theorem LBo.form {w : World} {base : Nat} {v : Value} {bs : List Bool} (h : LBo w base v bs) : ∃ a c, v = .slice a bs.length c := by
  rcases h.1.2 with ⟨rfl, h0⟩ | ⟨g, cap, cur, rfl, -⟩
  · exact ⟨none, 0, by rw [h0]⟩
  · exact ⟨_, _, rfl⟩
theorem LBo.keep {w w' : World} {base : Nat} {v : Value} {bs : List Bool} {row : Option Nat} (h : LBo w base v bs) (hg : w.grownBy w' row) (hne : ∀ g, v.ownBlock = some g → row ≠ some g) : LBo w' base v bs := by
  refine ⟨World.ownsRow.kept (row := row) h.1 hg (by
    cases hv : v.ownBlock with
    | none => simp
    | some g => exact Or.inr (fun e => hne g hv e.symm)), fun g cs e fr hv hh => h.2 g cs e fr hv (by rw [← hg.block g (h.lt g hv).2 (fun e => hne g hv e.symm)]; exact hh)⟩
theorem LBo.below {w w' : World} {base : Nat} {v : Value} {bs : List Bool} (h : LBo w base v bs) (hb : Below w.heap.size w w') : LBo w' base v bs :=
  h.keep (row := none) ⟨hb.os, hb.tape, hb.output, hb.size, fun k hk _ => hb.block k hk⟩ (fun _ _ e => by cases e)
theorem LBo.other {w w' : World} {base B : Nat} {v : Value} {bs : List Bool} (h : LBo w base v bs) (ho : Only B w w') (hlow : B < base) : LBo w' base v bs :=
  h.keep (only_grown ho) (fun g hg e => by have := (h.lt g hg).1; cases e; omega)
theorem LBo.bools {w : World} {base n c : Nat} {a : Option Addr} {bs : List Bool} (h : LBo w base (.slice a n c) bs) : BoolsF w a bs := fun i b hi => by
  have hlt : i < bs.length := (List.getElem?_eq_some_iff.1 hi).1
  have hcells := fun g hg => World.ownsRow.cells h.1 (g := g) hg
  rcases h.1.2 with ⟨h0, h1⟩ | ⟨g, cap, cur, hv, -⟩
  · omega
  · simp only [Value.slice.injEq] at hv
    obtain ⟨rfl, -, -⟩ := hv
    have k0 := hcells g rfl i (.bool b) (by rw [List.getElem?_map, hi]; rfl)
    rw [Addr.add_lit] at k0
    exact ⟨g, 0, rfl, k0⟩
theorem oper_push_bool {w : World} {o : Oper} {a : Act} {C : Act → World → Prop} {Q : Exit → Act → World → Prop} (s x : Operand)
    (ho : o.op = .call { callee := .builtin .append, args := #[s, x], argTypes := #[22, 22] }) (base : Nat) (v : Value) (bs : List Bool) (hs : a.eval s = v) (hown : LBo w base v bs)
    (g cc : Nat) (b : Bool) (hx : a.eval x = .slice (some ⟨g, 0, none⟩) 1 cc) (hrow : w.heap[g]? = some (.cells #[Value.bool b] 4 (0, 0))) (hlen : bs.length ≤ 1000000) (hbase : base ≤ w.heap.size)
    (h : ∀ v' w', LBo w' base v' (bs ++ [b]) → w.grownBy w' v.ownBlock → (∀ W, Below base W w → Below base W w') → (v'.ownBlock = v.ownBlock ∨ v'.ownBlock = some w.heap.size) → C (a.put o.dst v') w') :
    Oper.wp Tryz.prog o a w C Q := by
  obtain ⟨i0, hi0, hz0, hz1, hz2⟩ := info_parts info_bool9
  have hlt := hown.lt
  obtain ⟨hxs, hcl⟩ := hown
  obtain ⟨v', w', hr, h2, h3, h4, h5, -, -⟩ := run_append_clean (P := Tryz.prog) (w := w) base 22 o.type 4 i0 (.bool false) 1 1 Tryz.underlying22 hi0 hz0 hz1 hz2 rfl (by decide) v bs.length (bs.map Value.bool) hxs ⟨g, 0, none⟩ 1 cc
    [Value.bool b] rfl (by
      intro j u hu
      rw [Addr.add_lit, cell_of_row _ _ _ _ _ _ hrow]
      simpa using hu) (by intro u hu; simp at hu; rcases hu with rfl; rfl) (by unfold maxLen; omega) (by omega) hbase (by decide)
    (by intro u hu k; simp [Value.cells] at hu; rcases hu with rfl; intro e; cases e) (by intro u hu k; simp at hu; rcases hu with rfl; intro e; cases e) hcl
  unfold Oper.wp execOp
  simp only [ho, resolve, invoke, builtin, Sem.run_bind, Sem.run_pure, Result.andThen_ok, List.map_toArray, List.map_cons, List.map_nil, hs, hx, hr]
  refine h v' w' ⟨by rw [List.length_append, List.map_append]; exact h2, h5⟩ h3 ?_ h4
  intro W hW
  exact hW.grown h3 hbase (fun k hk => (hlt k hk).1)
theorem wpList_push_bool {w : World} {ops : Array Oper} {rest : List Oper} {o : Oper} {a : Act} {Q : Exit → Act → World → Prop} (hgd : o.guard = none) (s x : Operand)
    (ho : o.op = .call { callee := .builtin .append, args := #[s, x], argTypes := #[22, 22] }) (base : Nat) (v : Value) (bs : List Bool) (hs : a.eval s = v) (hown : LBo w base v bs)
    (g cc : Nat) (b : Bool) (hx : a.eval x = .slice (some ⟨g, 0, none⟩) 1 cc) (hrow : w.heap[g]? = some (.cells #[Value.bool b] 4 (0, 0))) (hlen : bs.length ≤ 1000000) (hbase : base ≤ w.heap.size)
    (h : ∀ v' w', LBo w' base v' (bs ++ [b]) → w.grownBy w' v.ownBlock → (∀ W, Below base W w → Below base W w') → (v'.ownBlock = v.ownBlock ∨ v'.ownBlock = some w.heap.size) → wpList Tryz.prog ops Q rest (a.put o.dst v') w') :
    wpList Tryz.prog ops Q (o :: rest) a w :=
  wpList_plain hgd fun _ hK => oper_push_bool s x ho base v bs hs hown g cc b hx hrow hlen hbase fun v' w' h1 h2 h3 h4 => hK _ _ (h v' w' h1 h2 h3 h4)
theorem wpList_push_row {K : RowK} {w : World} {ops : Array Oper} {rest : List Oper} {o : Oper} {a : Act} {Q : Exit → Act → World → Prop} (hgd : o.guard = none) (s x : Operand)
    (ho : o.op = .call { callee := .builtin .append, args := #[s, x], argTypes := #[24, 24] }) (base : Nat) (v : Value) (rs : List (List Rat × Int × Rat)) (hs : a.eval s = v) (hown : LRo K w base v rs)
    (g cc : Nat) (ar : Option Addr) (nr cr : Nat) (b : Bool) (a1 a2 : Option Addr) (n1 c1 n2 c2 : Nat) (r : List Rat × Int × Rat) (hx : a.eval x = .slice (some ⟨g, 0, none⟩) 1 cc) (hrow : w.heap[g]? = some (.cells #[Value.slice ar nr cr, Value.int .i64 r.2.1, Value.bool b, Value.slice a1 n1 c1, Value.slice a2 n2 c2] 45 (0, 0)))
    (hL : K.L w (.slice ar nr cr) r.1) (hf : K.F w (.agg #[.bool b, .slice a1 n1 c1, .slice a2 n2 c2]) r.2.2) (hne : ∀ k, (Value.slice ar nr cr).ownBlock = some k → v.ownBlock ≠ some k ∧ k < w.heap.size ∧ base ≤ k) (hlen : rs.length ≤ 1000000) (hbase : base ≤ w.heap.size)
    (h : ∀ v' w', LRo K w' base v' (rs ++ [r]) → w.grownBy w' v.ownBlock → (∀ W, Below base W w → Below base W w') → (v'.ownBlock = v.ownBlock ∨ v'.ownBlock = some w.heap.size) → wpList Tryz.prog ops Q rest (a.put o.dst v') w') :
    wpList Tryz.prog ops Q (o :: rest) a w :=
  wpList_plain hgd fun _ hK => oper_push_row s x ho base v rs hs hown g cc ar nr cr b a1 a2 n1 c1 n2 c2 r hx hrow hL hf hne hlen hbase fun v' w' h1 h2 h3 h4 => hK _ _ (h v' w' h1 h2 h3 h4)
set_option maxRecDepth 8000 in
/-- A new variable of a row. -/
theorem oper_alloc_row {w : World} {o : Oper} {a : Act} {K : Act → World → Prop} {Q : Exit → Act → World → Prop} (ho : o.op = .alloc 45)
    (h : ∀ G w', w'.heap[G]? = some (.cells #[Value.slice none 0 0, Value.int .i64 0, Value.bool false, Value.slice none 0 0, Value.slice none 0 0] 45 (0, 0)) → w.heap.size ≤ G → Below w.heap.size w w' → K (a.put o.dst (.pointer (some ⟨G, 0, none⟩))) w') : Oper.wp Tryz.prog o a w K Q := by
  have h9 := h w.heap.size (w.alloc (Obj.cells #[Value.slice none 0 0, Value.int .i64 0, Value.bool false, Value.slice none 0 0, Value.slice none 0 0] 45)) (heap_alloc_new w _) (Nat.le_refl _) ((Below.refl _ _).alloc (Nat.le_refl _) _)
  unfold Oper.wp execOp
  simp only [ho]
  go_simp
  exact h9
theorem set1_prog {w : World} {B : Nat} {x y z u v : Value} {t : TypeId} (h : w.heap[B]? = some (.cells #[x, y, z, u] t (0, 0))) :
    (w.setCell ⟨B, 1, none⟩ v).heap[B]? = some (.cells #[x, v, z, u] t (0, 0)) := heap_setCell_same _ _ 1 _ _ _ h
theorem set2_prog {w : World} {B : Nat} {x y z u v : Value} {t : TypeId} (h : w.heap[B]? = some (.cells #[x, y, z, u] t (0, 0))) :
    (w.setCell ⟨B, 2, none⟩ v).heap[B]? = some (.cells #[x, y, v, u] t (0, 0)) := heap_setCell_same _ _ 2 _ _ _ h
theorem set1_row5 {w : World} {B : Nat} {x y z u t v : Value} {ty : TypeId} (h : w.heap[B]? = some (.cells #[x, y, z, u, t] ty (0, 0))) :
    (w.setCell ⟨B, 1, none⟩ v).heap[B]? = some (.cells #[x, v, z, u, t] ty (0, 0)) := heap_setCell_same _ _ 1 _ _ _ h
theorem row_nobool9 {α : Type} {f : α → Bool} {l : List α} {i : Nat} {r : α} (h : l[i]? = some r) : (l.map f).take i ++ [f r] = (l.map f).take (i + 1) ∧ ((l.map f).take i ++ [f r]).length = i + 1 := by
  obtain ⟨hi, h9⟩ := List.getElem?_eq_some_iff.1 h
  refine ⟨?_, by rw [List.length_append, List.length_take, List.length_map]; simp; omega⟩
  rw [List.take_succ_eq_append_getElem (by simpa using hi)]
  simp [h9]
theorem dual_take {n : Pm} {j : Nat} (hj : j < n.goal.length) : ((List.range n.goal.length).map (dualR n)).take j ++ [dualR n j] = ((List.range n.goal.length).map (dualR n)).take (j + 1) ∧ (((List.range n.goal.length).map (dualR n)).take j ++ [dualR n j]).length = j + 1 := by
  refine ⟨?_, by rw [List.length_append, List.length_take, List.length_map, List.length_range]; simp; omega⟩
  rw [List.take_succ_eq_append_getElem (by simpa using hj)]
  simp
end Go.Proofs.YtafenoohjcpjgaaGreat
