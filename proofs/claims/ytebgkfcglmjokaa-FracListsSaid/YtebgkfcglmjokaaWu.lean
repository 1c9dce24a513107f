/- Numbers with a sign: shrinking. -/
import Derived.Test.YtebgkfcglmjokaaWt
namespace Go.Proofs.Ytebgkfcglmjokaa
open Go.RowKit

theorem sgn_div_nat {z q : Int} {y : Nat} (hy : 0 < y) (hq : z = q * y) : (if decide (z < 0) = true then -((z.natAbs / y : Nat) : Int) else ((z.natAbs / y : Nat) : Int)) = q := by
  subst hq
  have hy' : (0 : Int) < y := by omega
  rw [Int.natAbs_mul, Int.natAbs_natCast, Nat.mul_div_cancel _ hy]
  by_cases h : q < 0
  · have h9 : q * (y : Int) < 0 := Int.mul_neg_of_neg_of_pos h hy'
    simp only [h9, decide_true, if_true]
    omega
  · have h9 : ¬ q * (y : Int) < 0 := by
      have := Int.mul_nonneg (by omega : 0 ≤ q) (Int.le_of_lt hy')
      omega
    simp only [h9, decide_false]
    simp
    omega

set_option maxHeartbeats 1000000 in
theorem shrink_w {w : World} {v d : Value} {z : Int} {y : Nat} (hv : NumV w v z) (hd : IsW w d (digs y)) {q : Int} (hy : 0 < y) (hq : z = q * y) (hlen : (digs z.natAbs).length < 1073741824) :
    Calls Try.prog 114 #[v, d] w fun e w' => (∃ r, e = .returned r ∧ NumV w' r q) ∧ Below w.heap.size w w' := by
  obtain ⟨u, rfl, hu⟩ := hv
  have HU := Lib.hid hu
  have HD := Lib.hid hd
  have HL := Lib.hid hlen
  have HQ := Lib.hid hq
  clear hq
  obtain ⟨ua, uc, hue, -⟩ := hu
  obtain ⟨un, hun⟩ : ∃ un, un = (digs z.natAbs).length := ⟨_, rfl⟩
  rw [← hun] at hue
  subst hue
  clear hd hlen hun
  go_enter Try.func114, Try.ntmps114
  go_wp2_with fail
  have HB0 : Hid (Below w.heap.size w ((w.alloc (Obj.cells #[Value.slice ua un uc, Value.bool (decide (z < 0))] 61)).alloc (Obj.cells #[Value.slice none 0 0, Value.bool false] 61))) :=
    Lib.hid (((Below.refl _ _).alloc (Nat.le_refl _) _).alloc (by simp) _)
  have R0 : Hid (∀ o v, (#[Value.slice none 0 0, Value.bool false] : Array Value)[o]? = some v → ((w.alloc (Obj.cells #[Value.slice ua un uc, Value.bool (decide (z < 0))] 61)).alloc (Obj.cells #[Value.slice none 0 0, Value.bool false] 61)).drew.cell? ⟨w.heap.size + 1, o, none⟩ = some v ∧ ((w.alloc (Obj.cells #[Value.slice ua un uc, Value.bool (decide (z < 0))] 61)).alloc (Obj.cells #[Value.slice none 0 0, Value.bool false] 61)).drew.frozen? ⟨w.heap.size + 1, o, none⟩ = false) :=
    Lib.hid (fun o v h => by
      have h9 := heap_alloc2_new w (Obj.cells #[Value.slice ua un uc, Value.bool (decide (z < 0))] 61) (Obj.cells #[Value.slice none 0 0, Value.bool false] 61)
      exact ⟨by rw [World.cell?_drew, cell_of_row _ _ _ _ _ _ h9]; exact h, by rw [World.frozen?_drew, frozen_of_row _ _ _ _ _ h9]⟩)
  go_region_held3 (fun w' => w'.cell? ⟨w.heap.size, 0, none⟩ = some (.slice ua un uc) ∧ w'.cell? ⟨w.heap.size, 1, none⟩ = some (.bool (decide (z < 0))))
    (((try dsimp only); refine ⟨?_, ?_⟩ <;> (first | (refine cell_below ‹Below _ _ _› ?_; first | assumption | (simp [*]; done)) | go_keep)))
    (first | (go_at_call 115; refine (over_w (HU.out.below HB0.out).drew (HD.out.below HB0.out).drew hy HL.out).mono ?_; rintro en w4 ⟨⟨r, rfl, hr, hro⟩, hbel4⟩; obtain ⟨ra, rn, rc, hre⟩ := hr.form; subst hre) | (go_at_call 68; refine (signed_l hr (decide (z < 0))).mono ?_; rintro en w5 ⟨rfl, hbel5⟩; have r0 := cell_below hbel5 (cell_below hbel4 (R0.out 0 _ rfl).1); have r1 := cell_below hbel5 (cell_below hbel4 (R0.out 1 _ rfl).1); have f0 := frozen_below hbel5 (by rw [cell_below hbel4 (R0.out 0 _ rfl).1]; rfl) (frozen_below hbel4 (by rw [(R0.out 0 _ rfl).1]; rfl) (R0.out 0 _ rfl).2); have f1 := frozen_below hbel5 (by rw [cell_below hbel4 (R0.out 1 _ rfl).1]; rfl) (frozen_below hbel4 (by rw [(R0.out 1 _ rfl).1]; rfl) (R0.out 1 _ rfl).2)))
  have hR5 : w5.heap[w.heap.size + 1]? = some (.cells #[Value.slice none 0 0, Value.bool false] 61 (0, 0)) := by
    rw [hbel5.block _ (by have := hbel4.size; simp at this; omega), hbel4.block _ (by simp)]
    exact heap_alloc2_new w _ _
  have HR5 := Lib.hid hR5
  have HBW := Lib.hid (below_trans (below_trans HB0.out (below_undrew hbel4)) hbel5)
  have HNV : Hid (NumV w5 (.agg #[Value.slice ra rn rc, Value.bool (decide (z < 0) && !zerB (z.natAbs / y))]) q) := Lib.hid (by
    have h9 := numV_of (hr.below hbel5) (decide (z < 0))
    rwa [sgn_div_nat hy HQ.out] at h9)
  clear hR5 r0 r1 f0 f1 hro
  go_wp2_with fail
  have hset := ((Only.refl (w.heap.size + 1) w5).setCell 0 (Value.slice ra rn rc)).setCell 1 (Value.bool (decide (z < 0) && !zerB (z.natAbs / y)))
  refine bodyPost_ret (results_cell_row rfl _ _ (w.heap.size + 1) _ _ _ _ rfl (heap_setCell_same _ _ 1 _ _ _ (heap_setCell_same _ _ 0 _ _ _ HR5.out)) Try.underlying61 rfl inum) rfl ⟨⟨_, rfl, ?_⟩, below_only HBW.out hset (by omega)⟩
  obtain ⟨u9, h8, h9⟩ := HNV.out
  simp only [Value.agg.injEq, Array.mk.injEq, List.cons.injEq, and_true, Value.bool.injEq] at h8
  obtain ⟨h7, hb⟩ := h8
  subst h7
  exact ⟨_, by rw [hb]; rfl, h9.other HR5.out (num_cells9 ⟨_, _, _, rfl⟩) hset⟩
end Go.Proofs.Ytebgkfcglmjokaa
