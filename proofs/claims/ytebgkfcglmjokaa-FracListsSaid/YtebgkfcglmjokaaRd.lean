/- Ratios: lowest terms. -/
import Derived.Test.YtebgkfcglmjokaaQ
namespace Go.Proofs.Ytebgkfcglmjokaa
open Go.RowKit

/-- The value v is the ratio q in lowest terms. -/
def RatQ (w : World) (v : Value) (q : Rat) : Prop := RatV w v q.num q.den
theorem RatQ.below {w w' : World} {v : Value} {q : Rat} (h : RatQ w v q) (hb : Below w.heap.size w w') : RatQ w' v q := RatV.below h hb

/-- A block with a ratio in it holds no words. -/
theorem rat_cells {u d : Value} {b : Bool} (hu : ∃ a n c, u = .slice a n c) (hd : ∃ a n c, d = .slice a n c) : ∀ (j k : Nat), (#[u, .bool b, d] : Array Value)[j]? ≠ some (U k) := by
  obtain ⟨a, n, c, rfl⟩ := hu
  obtain ⟨a', n', c', rfl⟩ := hd
  intro j k h
  match j, h with
  | 0, h => simp [U] at h
  | 1, h => simp [U] at h
  | 2, h => simp [U] at h
  | (j + 3), h => simp at h

theorem zero_rat_cells : ∀ (j k : Nat), (#[Value.slice none 0 0, Value.bool false, Value.slice none 0 0] : Array Value)[j]? ≠ some (U k) := rat_cells ⟨_, _, _, rfl⟩ ⟨_, _, _, rfl⟩

/-- The result's block, filled. -/
def rat3 (w : World) (R : Nat) (u : Value) (b : Bool) (d : Value) : World := ((w.setCell ⟨R, 0, none⟩ u).setCell ⟨R, 1, none⟩ (.bool b)).setCell ⟨R, 2, none⟩ d
theorem rat3_only (w : World) (R : Nat) (u : Value) (b : Bool) (d : Value) : Only R w (rat3 w R u b d) := (((Only.refl R w).setCell 0 u).setCell 1 (.bool b)).setCell 2 d
theorem rat3_heap {w : World} {R : Nat} {u d : Value} {b : Bool} {t : TypeId} (hR : w.heap[R]? = some (.cells #[Value.slice none 0 0, Value.bool false, Value.slice none 0 0] t (0, 0))) :
    (rat3 w R u b d).heap[R]? = some (.cells #[u, .bool b, d] t (0, 0)) :=
  heap_setCell_same _ _ 2 _ _ _ (heap_setCell_same _ _ 1 _ _ _ (heap_setCell_same _ _ 0 _ _ _ hR))
theorem rat3_q {w : World} {R : Nat} {u d : Value} {t : TypeId} {q : Rat} (hR : w.heap[R]? = some (.cells #[Value.slice none 0 0, Value.bool false, Value.slice none 0 0] t (0, 0)))
    (hu : IsW w u (digs q.num.natAbs)) (hd : IsW w d (digs q.den)) : RatQ (rat3 w R u (decide (q.num < 0)) d) (.agg #[u, .bool (decide (q.num < 0)), d]) q :=
  ⟨u, d, rfl, hu.other hR zero_rat_cells (rat3_only _ _ _ _ _), hd.other hR zero_rat_cells (rat3_only _ _ _ _ _)⟩

set_option maxHeartbeats 1000000 in
theorem lowest_w {w : World} {v d : Value} {z : Int} {y : Nat} (hv : NumV w v z) (hd : IsW w d (digs y)) (hy : 0 < y) (hz : (digs z.natAbs).length < 1073741824) (hyl : (digs y).length < 1073741824) :
    Calls Try.prog 67 #[v, d] w fun e w' => (∃ r, e = .returned r ∧ RatQ w' r (mkRat z y)) ∧ Below w.heap.size w w' := by
  obtain ⟨u, rfl, hu⟩ := hv
  have HU := Lib.hid hu
  have HD := Lib.hid hd
  have HZ := Lib.hid hz
  have HYL := Lib.hid hyl
  obtain ⟨ua, uc, hue, -⟩ := hu
  obtain ⟨un, hun⟩ : ∃ un, un = (digs z.natAbs).length := ⟨_, rfl⟩
  rw [← hun] at hue
  subst hue
  obtain ⟨da, dc, hde, -⟩ := hd
  obtain ⟨dn, hdn⟩ : ∃ dn, dn = (digs y).length := ⟨_, rfl⟩
  rw [← hdn] at hde
  subst hde
  clear hun hdn hz hyl
  obtain ⟨g, hg⟩ : ∃ g, g = Nat.gcd z.natAbs y := ⟨_, rfl⟩
  have HG := Lib.hid hg
  have hg0 : 0 < g := by rw [hg]; exact Nat.gcd_pos_of_pos_right _ hy
  clear hg
  obtain ⟨q, hq⟩ : ∃ q, q = mkRat z y := ⟨_, rfl⟩
  have HQ := Lib.hid hq
  rw [← hq]
  clear hq
  have hy0 : Hid (y ≠ 0) := Lib.hid (by omega)
  have HB0 : Hid (Below w.heap.size w ((w.alloc (Obj.cells #[Value.slice ua un uc, Value.bool (decide (z < 0))] 61)).alloc (Obj.cells #[Value.slice none 0 0, Value.bool false, Value.slice none 0 0] 63))) :=
    Lib.hid (((Below.refl _ _).alloc (Nat.le_refl _) _).alloc (by simp) _)
  go_enter Try.func67, Try.ntmps67
  go_wp2_with fail
  refine (gcd_w (HU.out.below HB0.out) (HD.out.below HB0.out) HZ.out HYL.out).mono ?_
  rintro en w3 ⟨⟨gv, rfl, hgv, -⟩, hbel3⟩
  have HGV : Hid (IsW w3 gv (digs g)) := Lib.hid (by rw [HG.out]; exact hgv)
  have hb1 : w3.heap[w.heap.size]? = some (.cells #[Value.slice ua un uc, Value.bool (decide (z < 0))] 61 (0, 0)) :=
    (hbel3.block _ (by simp; omega)).trans (heap_alloc2_old w _ _)
  have hb2 : w3.heap[w.heap.size + 1]? = some (.cells #[Value.slice none 0 0, Value.bool false, Value.slice none 0 0] 63 (0, 0)) :=
    (hbel3.block _ (by simp)).trans (heap_alloc2_new w _ _)
  have HB2 := Lib.hid hb2
  have HBel := Lib.hid (below_trans HB0.out hbel3)
  have c0 : w3.cell? ⟨w.heap.size, 0, none⟩ = some (Value.slice ua un uc) := by rw [cell_of_row _ _ _ _ _ _ hb1]; rfl
  have c1 : w3.cell? ⟨w.heap.size, 1, none⟩ = some (Value.bool (decide (z < 0))) := by rw [cell_of_row _ _ _ _ _ _ hb1]; rfl
  clear hgv hb1 hb2 hbel3
  go_wp2_with fail
  refine (shrink_w (q := q.num) ⟨_, rfl, HU.out.below HBel.out⟩ HGV.out hg0 (by rw [HQ.out, HG.out]; exact mkRat_num_mul hy0.out) HZ.out).mono ?_
  rintro en w4 ⟨⟨r1, rfl, r1u, rfl, hr1⟩, hbel4⟩
  obtain ⟨ra, rn, rc, hre⟩ := hr1.form
  subst hre
  have HR1 := Lib.hid hr1
  have HB24 : Hid (w4.heap[w.heap.size + 1]? = some (.cells #[Value.slice none 0 0, Value.bool false, Value.slice none 0 0] 63 (0, 0))) := Lib.hid ((hbel4.block _ (by have := lt_of_block HB2.out; omega)).trans HB2.out)
  have HBel4 := Lib.hid (below_trans HBel.out hbel4)
  have HGV4 := Lib.hid (HGV.out.below hbel4)
  clear hr1 hbel4 c0 c1
  go_wp2_with fail
  refine (over_w (HD.out.below HBel4.out) HGV4.out hg0 HYL.out).mono ?_
  rintro en w5 ⟨⟨d1, rfl, hd1, -⟩, hbel5⟩
  obtain ⟨ea, en, ec, hde⟩ := hd1.form
  subst hde
  have hR5 : w5.heap[w.heap.size + 1]? = some (.cells #[Value.slice none 0 0, Value.bool false, Value.slice none 0 0] 63 (0, 0)) := (hbel5.block _ (by have := lt_of_block HB24.out; omega)).trans HB24.out
  have r0 : w5.cell? ⟨w.heap.size + 1, 0, none⟩ = some (Value.slice none 0 0) := by rw [cell_of_row _ _ _ _ _ _ hR5]; rfl
  have r1 : w5.cell? ⟨w.heap.size + 1, 1, none⟩ = some (Value.bool false) := by rw [cell_of_row _ _ _ _ _ _ hR5]; rfl
  have r2 : w5.cell? ⟨w.heap.size + 1, 2, none⟩ = some (Value.slice none 0 0) := by rw [cell_of_row _ _ _ _ _ _ hR5]; rfl
  have f0 := frozen_of_row _ _ 0 _ _ hR5
  have f1 := frozen_of_row _ _ 1 _ _ hR5
  have f2 := frozen_of_row _ _ 2 _ _ hR5
  have HR5 := Lib.hid hR5
  have HBW := Lib.hid (below_trans HBel4.out hbel5)
  have HN := Lib.hid (HR1.out.below hbel5)
  have HD1 : Hid (IsW w5 (Value.slice ea en ec) (digs q.den)) := Lib.hid (by rw [HQ.out, mkRat_den hy0.out, ← HG.out]; exact hd1)
  clear hR5 hd1 hbel5
  go_wp2_with fail
  exact bodyPost_ret (results_cell_row rfl _ _ (w.heap.size + 1) _ _ _ _ rfl (rat3_heap HR5.out) Try.underlying63 rfl irat) rfl ⟨⟨_, rfl, rat3_q HR5.out HN.out HD1.out⟩, below_only HBW.out (rat3_only _ _ _ _ _) (by omega)⟩
end Go.Proofs.Ytebgkfcglmjokaa
