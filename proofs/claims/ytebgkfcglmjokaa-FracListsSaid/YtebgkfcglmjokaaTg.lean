/- Exact, of the reference: fractions that are written alike. -/
import Derived.Test.YtebgkfcglmjokaaLd
namespace Go.Proofs.Ytebgkfcglmjokaa
open Go.RowKit

theorem slice_at {w : World} {v : Value} {l : List Nat} (h : IsW w v l) : ∃ a c, v = .slice a l.length c ∧ (0 < l.length → ∃ b off, a = some ⟨b, off, none⟩ ∧ ∀ j, j < l.length → w.cell? ⟨b, off + j, none⟩ = some (.int .u32 (nth l j))) := by
  obtain ⟨a, c, rfl, h1, h2, h3, h4, h5⟩ := id h
  refine ⟨a, c, rfl, fun hp => ?_⟩
  obtain ⟨b, off, rfl, -, -⟩ := h4 (by intro e; simp at e; subst e; simp at hp)
  exact ⟨b, off, rfl, fun j hj => h.cell j hj⟩

set_option maxRecDepth 4000 in
set_option maxHeartbeats 2000000 in
theorem exact_w {w : World} {x y : Value} {q : Rat} (hx : FracV w x q) (hy : FracV w y q) :
    Calls Try.prog 38 #[x, y] w fun e w' => e = .returned (.bool true) ∧ Below w.heap.size w w' := by
  obtain ⟨bn, hbn⟩ : ∃ b, b = decide (q.num < 0) := ⟨_, rfl⟩
  obtain ⟨l, hl⟩ : ∃ l, l = digs q.num.natAbs := ⟨_, rfl⟩
  obtain ⟨m, hm⟩ : ∃ m, m = digs q.den := ⟨_, rfl⟩
  obtain ⟨xu, xd, rfl, hxu, hxd⟩ := hx
  obtain ⟨yu, yd, rfl, hyu, hyd⟩ := hy
  rw [← hl] at hxu hyu
  rw [← hm] at hxd hyd
  rw [← hbn]
  clear hbn hl hm
  have hll := hxu.len
  have hml := hxd.len
  obtain ⟨a1, c1, rfl, k1⟩ := slice_at hxu
  obtain ⟨a2, c2, rfl, k2⟩ := slice_at hxd
  obtain ⟨a3, c3, rfl, k3⟩ := slice_at hyu
  obtain ⟨a4, c4, rfl, k4⟩ := slice_at hyd
  obtain ⟨w1, hw1⟩ : ∃ w1, w1 = ((w.alloc (Obj.cells #[Value.bool bn, Value.slice a1 l.length c1, Value.slice a2 m.length c2] 24)).alloc (Obj.cells #[Value.bool bn, Value.slice a3 l.length c3, Value.slice a4 m.length c4] 24)) := ⟨_, rfl⟩
  have hb1 : Below w.heap.size w w1 := by rw [hw1]; exact ((Below.refl _ _).alloc (Nat.le_refl _) _).alloc (by simp) _
  have HB1 := Lib.hid hb1
  have K1 : Hid (0 < l.length → ∃ b off, a1 = some ⟨b, off, none⟩ ∧ ∀ j, j < l.length → w1.cell? ⟨b, off + j, none⟩ = some (.int .u32 (nth l j))) := Lib.hid (fun h => by
    obtain ⟨b, off, e, f⟩ := k1 h
    exact ⟨b, off, e, fun j hj => cell_below hb1 (f j hj)⟩)
  have K2 : Hid (0 < m.length → ∃ b off, a2 = some ⟨b, off, none⟩ ∧ ∀ j, j < m.length → w1.cell? ⟨b, off + j, none⟩ = some (.int .u32 (nth m j))) := Lib.hid (fun h => by
    obtain ⟨b, off, e, f⟩ := k2 h
    exact ⟨b, off, e, fun j hj => cell_below hb1 (f j hj)⟩)
  have K3 : Hid (0 < l.length → ∃ b off, a3 = some ⟨b, off, none⟩ ∧ ∀ j, j < l.length → w1.cell? ⟨b, off + j, none⟩ = some (.int .u32 (nth l j))) := Lib.hid (fun h => by
    obtain ⟨b, off, e, f⟩ := k3 h
    exact ⟨b, off, e, fun j hj => cell_below hb1 (f j hj)⟩)
  have K4 : Hid (0 < m.length → ∃ b off, a4 = some ⟨b, off, none⟩ ∧ ∀ j, j < m.length → w1.cell? ⟨b, off + j, none⟩ = some (.int .u32 (nth m j))) := Lib.hid (fun h => by
    obtain ⟨b, off, e, f⟩ := k4 h
    exact ⟨b, off, e, fun j hj => cell_below hb1 (f j hj)⟩)
  have hX : w1.heap[w.heap.size]? = some (.cells #[Value.bool bn, Value.slice a1 l.length c1, Value.slice a2 m.length c2] 24 (0, 0)) := by rw [hw1]; exact heap_alloc2_old w _ _
  have hY : w1.heap[w.heap.size + 1]? = some (.cells #[Value.bool bn, Value.slice a3 l.length c3, Value.slice a4 m.length c4] 24 (0, 0)) := by rw [hw1]; exact heap_alloc2_new w _ _
  have hz1 := Below.refl w1.heap.size w1
  have x0 := cells_later hX 0 _ rfl _ hz1
  have x1 := cells_later hX 1 _ rfl _ hz1
  have x2 := cells_later hX 2 _ rfl _ hz1
  have y0 := cells_later hY 0 _ rfl _ hz1
  have y1 := cells_later hY 1 _ rfl _ hz1
  have y2 := cells_later hY 2 _ rfl _ hz1
  have HW1 := Lib.hid hw1.symm
  clear hw1 hb1 hX hY hz1 hxu hxd hyu hyd k1 k2 k3 k4
  go_enter Try.func38, Try.ntmps38
  go_wp2_with fail
  rw [HW1.out]
  go_loopw [5] (fun i wr => ∃ k n : Nat, k ≤ l.length ∧ i = .int .i64 k ∧ wr = w1.drewN n) (fun i _ => l.length - (intOf i).toNat)
  case atStart => exact ⟨0, 0, Nat.zero_le _, rfl, rfl⟩
  case round =>
    obtain ⟨k, n, hk, rfl, rfl⟩ := hrel
    by_cases hkl : k < l.length
    · obtain ⟨b1, o1, rfl, f1⟩ := K1.out (by omega)
      obtain ⟨b3, o3, rfl, f3⟩ := K3.out (by omega)
      have g1 := f1 k hkl
      have g3 := f3 k hkl
      clear f1 f3
      go_wp2_with fail
      go_quiet (fail)
      go_wp2_with fail
      go_roundw
      case rel => exact ⟨k + 1, _, by omega, by go_num, rfl⟩
      case measure => simp [intOf]; omega
    · go_wp2_with fail
      go_loopw [6] (fun i wr => ∃ k n : Nat, k ≤ m.length ∧ i = .int .i64 k ∧ wr = w1.drewN n) (fun i _ => m.length - (intOf i).toNat)
      case atStart => exact ⟨0, n, Nat.zero_le _, rfl, rfl⟩
      case round =>
        obtain ⟨k2, n2, hk2, rfl, rfl⟩ := hrel
        by_cases hkm : k2 < m.length
        · obtain ⟨b2, o2, rfl, f2⟩ := K2.out (by omega)
          obtain ⟨b4, o4, rfl, f4⟩ := K4.out (by omega)
          have g2 := f2 k2 hkm
          have g4 := f4 k2 hkm
          clear f2 f4
          go_wp2_with fail
          go_quiet (fail)
          go_wp2_with fail
          go_roundw
          case rel => exact ⟨k2 + 1, _, by omega, by go_num, rfl⟩
          case measure => simp [intOf]; omega
        · go_wp2_with fail
          go_ret
          exact ⟨rfl, below_drewN HB1.out _⟩
end Go.Proofs.Ytebgkfcglmjokaa
