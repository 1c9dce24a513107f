/- Ratios: nought. -/
import Derived.Test.YtebgkfcglmjokaaRa
namespace Go.Proofs.Ytebgkfcglmjokaa
open Go.RowKit

theorem irat : (Try.prog.info? 63).map (·.size) = some 3 := by kernel_rfl
theorem isW_nil0 (w : World) : IsW w (.slice none 0 0) (digs (0 : Int).natAbs) := by
  have h : digs (0 : Int).natAbs = [] := by show digs 0 = []; unfold digs; simp
  rw [h]
  exact ⟨none, 0, rfl, by simp, by simp, by intro x hx; simp at hx, by simp [Cells], by simp⟩

set_option maxHeartbeats 1000000 in
theorem zero_w {w : World} :
    Calls Try.prog 113 #[] w fun e w' => (∃ r, e = .returned r ∧ RatV w' r 0 1) ∧ Below w.heap.size w w' := by
  have HB0 : Hid (Below w.heap.size w (w.alloc (Obj.cells #[Value.slice none 0 0, Value.bool false, Value.slice none 0 0] 63))) := Lib.hid ((Below.refl _ _).alloc (Nat.le_refl _) _)
  go_enter Try.func113, Try.ntmps113
  go_wp2_with fail
  refine one_w.mono ?_
  rintro en w5 ⟨⟨r, rfl, hr, hro⟩, hbel5⟩
  obtain ⟨ra, rn, rc, hre⟩ := hr.form
  subst hre
  have hR5 : w5.heap[w.heap.size]? = some (.cells #[Value.slice none 0 0, Value.bool false, Value.slice none 0 0] 63 (0, 0)) := by
    rw [hbel5.block _ (by simp)]
    exact heap_alloc_new w _
  have r0 : w5.cell? ⟨w.heap.size, 0, none⟩ = some (Value.slice none 0 0) := by rw [cell_of_row _ _ _ _ _ _ hR5]; rfl
  have r1 : w5.cell? ⟨w.heap.size, 1, none⟩ = some (Value.bool false) := by rw [cell_of_row _ _ _ _ _ _ hR5]; rfl
  have r2 : w5.cell? ⟨w.heap.size, 2, none⟩ = some (Value.slice none 0 0) := by rw [cell_of_row _ _ _ _ _ _ hR5]; rfl
  have f0 := frozen_of_row _ _ 0 _ _ hR5
  have f1 := frozen_of_row _ _ 1 _ _ hR5
  have f2 := frozen_of_row _ _ 2 _ _ hR5
  have HR5 := Lib.hid hR5
  have HR := Lib.hid hr
  have HBW := Lib.hid (below_trans HB0.out hbel5)
  have HNE : Hid ((Value.slice ra rn rc).ownBlock ≠ some w.heap.size) := Lib.hid (fun e => by have := hro _ e; simp at this; omega)
  clear hR5 hr hro
  go_wp2_with fail
  have hset := (((Only.refl w.heap.size w5).setCell 0 (Value.slice none 0 0)).setCell 1 (Value.bool false)).setCell 2 (Value.slice ra rn rc)
  refine bodyPost_ret (results_cell_row rfl _ _ w.heap.size _ _ _ _ rfl (heap_setCell_same _ _ 2 _ _ _ (heap_setCell_same _ _ 1 _ _ _ (heap_setCell_same _ _ 0 _ _ _ HR5.out))) Try.underlying63 rfl irat) rfl ⟨⟨_, rfl, ?_⟩, below_only HBW.out hset (by omega)⟩
  exact ⟨Value.slice none 0 0, Value.slice ra rn rc, rfl, isW_nil0 _, HR.out.only hset HNE.out⟩
end Go.Proofs.Ytebgkfcglmjokaa
