/- Ratios: what a value means, and whether it fits. -/
import Derived.Test.YtebgkfcglmjokaaWy
namespace Go.Proofs.Ytebgkfcglmjokaa
open Go.RowKit

/-- The value v is the ratio z / y, not yet said to be in lowest terms. -/
def RatV (w : World) (v : Value) (z : Int) (y : Nat) : Prop := ∃ u d, v = .agg #[u, .bool (decide (z < 0)), d] ∧ IsW w u (digs z.natAbs) ∧ IsW w d (digs y)
theorem RatV.below {w w' : World} {v : Value} {z : Int} {y : Nat} (h : RatV w v z y) (hb : Below w.heap.size w w') : RatV w' v z y := by
  obtain ⟨n, d, rfl, hn, hd⟩ := h
  exact ⟨n, d, rfl, hn.below hb, hd.below hb⟩

set_option maxHeartbeats 400000 in
set_option maxRecDepth 4000 in
theorem fits_w {w : World} {v : Value} {z : Int} {y : Nat} (hv : RatV w v z y) (hz : (digs z.natAbs).length < 1073741824) (hy : (digs y).length < 1073741824) :
    Calls Try.prog 112 #[v] w fun e w' => e = .returned (.bool (decide ((digs z.natAbs).length + (digs y).length ≤ 4096))) ∧ Below w.heap.size w w' := by
  obtain ⟨u, d, rfl, hu, hd⟩ := hv
  obtain ⟨un, hun⟩ : ∃ un, un = (digs z.natAbs).length := ⟨_, rfl⟩
  obtain ⟨dn, hdn⟩ : ∃ dn, dn = (digs y).length := ⟨_, rfl⟩
  obtain ⟨ua, uc, hue, -⟩ := hu
  obtain ⟨da, dc, hde, -⟩ := hd
  rw [← hun] at hue hz
  rw [← hdn] at hde hy
  rw [← hun, ← hdn]
  subst hue hde
  have HZ := Lib.hid hz
  have HY := Lib.hid hy
  clear hun hdn hz hy
  have hB0 : Hid (∀ o, Below w.heap.size w (w.alloc o)) := Lib.hid (fun o => (Below.refl _ _).alloc (Nat.le_refl _) o)
  have HW : Hid (wrap64 ((un : Int) + (dn : Int)) = (un : Int) + (dn : Int)) := Lib.hid (by unfold wrap64; have := HZ.out; have := HY.out; omega)
  obtain ⟨M, hM⟩ : ∃ M : Nat, M = 4096 := ⟨_, rfl⟩
  rw [← hM]
  have HM := Lib.hid hM
  clear hM
  go_enter Try.func112, Try.ntmps112
  go_wp2_with fail
  go_ret
  refine ⟨?_, hB0.out _⟩
  show Ending.returned (Value.bool (decide (wrap64 ((un : Int) + (dn : Int)) ≤ 4096))) = _
  have h1 := HW.out
  have h2 := HM.out
  rw [h1]
  congr 2
  exact decide_eq_decide.mpr (by omega)

set_option maxHeartbeats 400000 in
theorem one_w {w : World} :
    Calls Try.prog 123 #[] w fun e w' => (∃ r, e = .returned r ∧ IsW w' r (digs 1) ∧ (∀ b, r.ownBlock = some b → w.heap.size ≤ b)) ∧ Below w.heap.size w w' := by
  go_enter Try.func123, Try.ntmps123
  go_wp2_with fail
  have hB : Blk (w.alloc (Obj.cells #[Value.int IntKind.u32 1] 40)) w.heap.size 40 [1] := by
    show (w.heap.push _)[w.heap.size]? = _
    simp [U]
  have h1 : digs 1 = [1] := by unfold digs; simp [digs]
  have hI := hB.isW_all (by intro x hx; simp at hx; omega) 1 (by simp) (by simp)
  go_ret
  refine ⟨⟨_, rfl, h1 ▸ hI, fun x hx => ?_⟩, (Below.refl _ _).alloc (Nat.le_refl _) _⟩
  simp [Value.ownBlock] at hx
  omega
end Go.Proofs.Ytebgkfcglmjokaa
