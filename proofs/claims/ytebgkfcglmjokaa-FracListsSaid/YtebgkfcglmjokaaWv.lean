/- Numbers with a sign: the negative. -/
import Derived.Test.YtebgkfcglmjokaaWu
namespace Go.Proofs.Ytebgkfcglmjokaa
open Go.RowKit

theorem sgn_neg (z : Int) : (if (!decide (z < 0)) = true then -((z.natAbs : Nat) : Int) else ((z.natAbs : Nat) : Int)) = -z := by
  by_cases h : z < 0
  · simp only [h, decide_true, Bool.not_true]; simp; omega
  · simp only [h, decide_false, Bool.not_false, if_true]; omega

set_option maxHeartbeats 1000000 in
theorem neg_w {w : World} {v : Value} {z : Int} (hv : NumV w v z) :
    Calls Try.prog 121 #[v] w fun e w' => (∃ r, e = .returned r ∧ NumV w' r (-z)) ∧ Below w.heap.size w w' := by
  obtain ⟨u, rfl, hu⟩ := hv
  have HU := Lib.hid hu
  obtain ⟨ua, uc, hue, -⟩ := hu
  obtain ⟨un, hun⟩ : ∃ un, un = (digs z.natAbs).length := ⟨_, rfl⟩
  rw [← hun] at hue
  subst hue
  clear hun
  have HB0 : Hid (Below w.heap.size w ((w.alloc (Obj.cells #[Value.slice ua un uc, Value.bool (decide (z < 0))] 61)).alloc (Obj.cells #[Value.slice none 0 0, Value.bool false] 61))) :=
    Lib.hid (((Below.refl _ _).alloc (Nat.le_refl _) _).alloc (by simp) _)
  go_enter Try.func121, Try.ntmps121
  go_wp2_with fail
  refine (signed_l (HU.out.below HB0.out) (!decide (z < 0))).mono ?_
  rintro en w5 ⟨rfl, hbel5⟩
  have hR5 : w5.heap[w.heap.size + 1]? = some (.cells #[Value.slice none 0 0, Value.bool false] 61 (0, 0)) := by
    rw [hbel5.block _ (by simp)]
    exact heap_alloc2_new w _ _
  have r0 : w5.cell? ⟨w.heap.size + 1, 0, none⟩ = some (Value.slice none 0 0) := by rw [cell_of_row _ _ _ _ _ _ hR5]; rfl
  have r1 : w5.cell? ⟨w.heap.size + 1, 1, none⟩ = some (Value.bool false) := by rw [cell_of_row _ _ _ _ _ _ hR5]; rfl
  have f0 := frozen_of_row _ _ 0 _ _ hR5
  have f1 := frozen_of_row _ _ 1 _ _ hR5
  have HR5 := Lib.hid hR5
  have HBW := Lib.hid (below_trans HB0.out hbel5)
  have HNV : Hid (NumV w5 (.agg #[Value.slice ua un uc, Value.bool ((!decide (z < 0)) && !zerB (z.natAbs))]) (-z)) := Lib.hid (by
    have h9 := numV_of (HU.out.below HBW.out) (!decide (z < 0))
    rwa [sgn_neg] at h9)
  have HNE : Hid (digs z.natAbs ≠ [] → (Value.slice ua un uc).ownBlock ≠ some (w.heap.size + 1)) := Lib.hid (HU.out.own_ne (by omega))
  clear hR5
  go_wp2_with fail
  have hset := ((Only.refl (w.heap.size + 1) w5).setCell 0 (Value.slice ua un uc)).setCell 1 (Value.bool ((!decide (z < 0)) && !zerB (z.natAbs)))
  refine bodyPost_ret (results_cell_row rfl _ _ (w.heap.size + 1) _ _ _ _ rfl (heap_setCell_same _ _ 1 _ _ _ (heap_setCell_same _ _ 0 _ _ _ HR5.out)) Try.underlying61 rfl inum) rfl ⟨⟨_, rfl, ?_⟩, below_only HBW.out hset (by omega)⟩
  obtain ⟨u9, h8, h9⟩ := HNV.out
  simp only [Value.agg.injEq, Array.mk.injEq, List.cons.injEq, and_true, Value.bool.injEq] at h8
  obtain ⟨h7, hb⟩ := h8
  subst h7
  exact ⟨_, by rw [hb]; rfl, h9.only0 hset (by rw [Int.natAbs_neg]; exact HNE.out)⟩
end Go.Proofs.Ytebgkfcglmjokaa
