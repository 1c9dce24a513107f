import Derived.Test.YtkkbmlkpgknhgaaGreatZ4
set_option maxRecDepth 100000
set_option maxHeartbeats 16000000
namespace Go.Proofs.YtkkbmlkpgknhgaaGreat
open Go.RowKit
variable {R y : Nat} {b : Bool} {d u v : Value} {q : Rat} {w w' : World} {z : Int}
theorem v3h {q : Int} (hy : 0 < y) (hq : z = q * y) : (if decide (z < 0) = true then -((z.natAbs / y : Nat) : Int) else ((z.natAbs / y : Nat) : Int)) = q := by
 subst hq
 have hy' : (0 : Int) < y := by omega
 rw [Int.natAbs_mul, Int.natAbs_natCast, Nat.mul_div_cancel _ hy]
 by_cases h : q < 0
 ·
  have h9 : q * (y : Int) < 0 := Int.mul_neg_of_neg_of_pos h hy'
  simp only [h9, decide_true, if_true]
  omega
 ·
  have h9 : ¬ q * (y : Int) < 0 := by
   have := Int.mul_nonneg (by omega : 0 ≤ q) (Int.le_of_lt hy')
   omega
  simp only [h9, decide_false]
  simp
  omega

theorem v0y (hv : p7q w v z) (hd : IsW w d (q2q y)) {q : Int} (hy : 0 < y) (hq : z = q * y) (hlen : (q2q z.natAbs).length < 1073741824) :
  Calls Tryz.prog 156 #[v, d] w fun e w' => (∃ r, e = .returned r ∧ p7q w' r q) ∧ Below w.heap.size w w' := by
 obtain ⟨u, rfl, hu⟩ := hv
 have HU := hdd hu
 have HD := hdd hd
 have HL := hdd hlen
 have HQ := hdd hq
 clear hq
 obtain ⟨ua, uc, hue, -⟩ := hu
 obtain ⟨un, hun⟩ := qx ((q2q z.natAbs).length)
 rw [← hun] at hue
 subst hue
 clear hd hlen hun
 go_enter Tryz.func156, Tryz.ntmps156
 go_wp2_with fail
 have HB0 : Hi (Below w.heap.size w ((w.alloc (Obj.cells #[.slice ua un uc, .bool (decide (z < 0))] 87)).alloc (Obj.cells #[.slice none 0 0, .bool false] 87))) :=
  hdd (((qb).alloc qm _).alloc (by simp) _)
 have R0 : Hi (∀ o v, (#[Value.slice none 0 0, Value.bool false] : Array Value)[o]? = some v → ((w.alloc (Obj.cells #[.slice ua un uc, .bool (decide (z < 0))] 87)).alloc (Obj.cells #[.slice none 0 0, .bool false] 87)).drew.cell? ⟨w.heap.size + 1, o, none⟩ = some v ∧ ((w.alloc (Obj.cells #[.slice ua un uc, .bool (decide (z < 0))] 87)).alloc (Obj.cells #[.slice none 0 0, .bool false] 87)).drew.frozen? ⟨w.heap.size + 1, o, none⟩ = false) :=
  hdd (fun o v h => by
   have h9 := heap_alloc2_new w (Obj.cells #[.slice ua un uc, .bool (decide (z < 0))] 87) (Obj.cells #[.slice none 0 0, .bool false] 87)
   exact ⟨by rw [World.cell?_drew, cell_of_row _ _ _ _ _ _ h9]; exact h, by rw [World.frozen?_drew, frozen_of_row _ _ _ _ _ h9]⟩)
 go_region_held3 (fun w' => w'.cell? ⟨w.heap.size, 0, none⟩ = some (.slice ua un uc) ∧ w'.cell? ⟨w.heap.size, 1, none⟩ = some (.bool (decide (z < 0))))
  (((try dsimp only); refine ⟨?_, ?_⟩ <;> (first | (refine q3q ‹Below _ _ _› ?_; first | assumption | (simp [*]; done)) | go_keep)))
  (first | (go_at_call 153; refine (q6v (HU.o.below HB0.o).drew (HD.o.below HB0.o).drew hy HL.o).mono ?_; rintro en w4 ⟨⟨r, rfl, hr, hro⟩, hbel4⟩; obtain ⟨ra, rn, rc, hre⟩ := hr.form; subst hre) | (go_at_call 114; refine (a5q hr (decide (z < 0))).mono ?_; rintro en w5 ⟨rfl, hbel5⟩; have r0 := q3q hbel5 (q3q hbel4 (R0.o 0 _ rfl).1); have r1 := q3q hbel5 (q3q hbel4 (R0.o 1 _ rfl).1); have f0 := z3q hbel5 (by rw [q3q hbel4 (R0.o 0 _ rfl).1]; rfl) (z3q hbel4 (by rw [(R0.o 0 _ rfl).1]; rfl) (R0.o 0 _ rfl).2); have f1 := z3q hbel5 (by rw [q3q hbel4 (R0.o 1 _ rfl).1]; rfl) (z3q hbel4 (by rw [(R0.o 1 _ rfl).1]; rfl) (R0.o 1 _ rfl).2)))
 have hR5 : w5.heap[w.heap.size + 1]? = some (.cells #[.slice none 0 0, .bool false] 87 (0, 0)) := by
  rw [hbel5.block _ (by have := hbel4.size; simp at this; omega), hbel4.block _ (by simp)]
  exact heap_alloc2_new w _ _
 have HR5 := hdd hR5
 have HBW := hdd (q0q (q0q HB0.o (u2q hbel4)) hbel5)
 have HNV : Hi (p7q w5 (.agg #[Value.slice ra rn rc, Value.bool (decide (z < 0) && !g7q (z.natAbs / y))]) q) := hdd (by
  have h9 := q4j (hr.below hbel5) (decide (z < 0))
  rwa [v3h hy HQ.o] at h9)
 clear hR5 r0 r1 f0 f1 hro
 go_wp2_with fail
 have hset := ((z9q.refl (w.heap.size + 1) w5).setCell 0 (Value.slice ra rn rc)).setCell 1 (Value.bool (decide (z < 0) && !g7q (z.natAbs / y)))
 refine bodyPost_ret (results_cell_row rfl _ _ (w.heap.size + 1) _ _ _ _ rfl (heap_setCell_same _ _ 1 _ _ _ (heap_setCell_same _ _ 0 _ _ _ HR5.o)) Tryz.underlying87 rfl o5q) rfl ⟨⟨_, rfl, ?_⟩, q4q HBW.o hset (by omega)⟩
 obtain ⟨u9, h8, h9⟩ := HNV.o
 simp only [Value.agg.injEq, Array.mk.injEq, List.cons.injEq, and_true, Value.bool.injEq] at h8
 obtain ⟨h7, hb⟩ := h8
 subst h7
 exact ⟨_, by rw [hb]; rfl, h9.other HR5.o (j4j ⟨_, _, _, rfl⟩) hset⟩
theorem g3k (z y : Int) : (if (decide (z < 0) != decide (y < 0)) = true then -((z.natAbs * y.natAbs : Nat) : Int) else ((z.natAbs * y.natAbs : Nat) : Int)) = z * y := by
 rcases Int.lt_or_le z 0 with hz | hz <;> rcases Int.lt_or_le y 0 with hy | hy
 ·
  obtain ⟨k, rfl⟩ : ∃ k : Nat, z = -(k : Int) := ⟨z.natAbs, by omega⟩
  obtain ⟨j, rfl⟩ : ∃ k : Nat, y = -(k : Int) := ⟨y.natAbs, by omega⟩
  simp only [hz, hy, decide_true, bne_self_eq_false]
  simp [Int.neg_mul_neg]
 ·
  obtain ⟨k, rfl⟩ : ∃ k : Nat, z = -(k : Int) := ⟨z.natAbs, by omega⟩
  obtain ⟨j, rfl⟩ : ∃ k : Nat, y = (k : Int) := ⟨y.natAbs, by omega⟩
  simp only [hz, Int.not_lt.mpr hy, decide_true, decide_false]
  simp [Int.neg_mul]
 ·
  obtain ⟨k, rfl⟩ : ∃ k : Nat, z = (k : Int) := ⟨z.natAbs, by omega⟩
  obtain ⟨j, rfl⟩ : ∃ k : Nat, y = -(k : Int) := ⟨y.natAbs, by omega⟩
  simp only [hy, Int.not_lt.mpr hz, decide_true, decide_false]
  simp [Int.mul_neg]
 ·
  obtain ⟨k, rfl⟩ : ∃ k : Nat, z = (k : Int) := ⟨z.natAbs, by omega⟩
  obtain ⟨j, rfl⟩ : ∃ k : Nat, y = (k : Int) := ⟨y.natAbs, by omega⟩
  simp only [Int.not_lt.mpr hy, Int.not_lt.mpr hz, decide_false, bne_self_eq_false]
  simp

theorem h3q (w : World) (a b c : Obj) : (((w.alloc a).alloc b).alloc c).heap[w.heap.size + 2]? = some c := by
 have h := heap_alloc_new ((w.alloc a).alloc b) c
 simpa using h

theorem p8q (w : World) (a b c : Obj) : (((w.alloc a).alloc b).alloc c).heap[w.heap.size]? = some a :=
 (heap_alloc_old (r := w.heap.size) ((w.alloc a).alloc b) c (by simp; omega)).trans (heap_alloc2_old w a b)
theorem p9q (w : World) (a b c : Obj) : (((w.alloc a).alloc b).alloc c).heap[w.heap.size + 1]? = some b :=
 (heap_alloc_old (r := w.heap.size + 1) ((w.alloc a).alloc b) c (by simp)).trans (heap_alloc2_new w a b)

theorem g4k {y : Int} (hv : p7q w v z) (hd : p7q w d y) (hlen : (q2q z.natAbs).length + (q2q y.natAbs).length ≤ 536870912) :
  Calls Tryz.prog 158 #[v, d] w fun e w' => (∃ r, e = .returned r ∧ p7q w' r (z * y)) ∧ Below w.heap.size w w' := by
 obtain ⟨u, rfl, hu⟩ := hv
 obtain ⟨u2, rfl, hu2⟩ := hd
 have HU := hdd hu
 have HD := hdd hu2
 have HL := hdd hlen
 obtain ⟨ua, uc, hue, -⟩ := hu
 obtain ⟨un, hun⟩ := qx ((q2q z.natAbs).length)
 rw [← hun] at hue
 subst hue
 obtain ⟨va, vc, hve, -⟩ := hu2
 obtain ⟨vn, hvn⟩ := qx ((q2q y.natAbs).length)
 rw [← hvn] at hve
 subst hve
 clear hlen hun hvn
 have HB0 : Hi (Below w.heap.size w (((w.alloc (Obj.cells #[.slice ua un uc, .bool (decide (z < 0))] 87)).alloc (Obj.cells #[.slice va vn vc, .bool (decide (y < 0))] 87)).alloc (Obj.cells #[.slice none 0 0, .bool false] 87))) :=
  hdd ((((qb).alloc qm _).alloc (by simp) _).alloc (by simp; omega) _)
 have R0 : Hi (∀ o v, (#[Value.slice none 0 0, Value.bool false] : Array Value)[o]? = some v → (((w.alloc (Obj.cells #[.slice ua un uc, .bool (decide (z < 0))] 87)).alloc (Obj.cells #[.slice va vn vc, .bool (decide (y < 0))] 87)).alloc (Obj.cells #[.slice none 0 0, .bool false] 87)).drew.cell? ⟨w.heap.size + 2, o, none⟩ = some v ∧ (((w.alloc (Obj.cells #[.slice ua un uc, .bool (decide (z < 0))] 87)).alloc (Obj.cells #[.slice va vn vc, .bool (decide (y < 0))] 87)).alloc (Obj.cells #[.slice none 0 0, .bool false] 87)).drew.frozen? ⟨w.heap.size + 2, o, none⟩ = false) :=
  hdd (fun o v h => by
   have h9 := h3q w (Obj.cells #[.slice ua un uc, .bool (decide (z < 0))] 87) (Obj.cells #[.slice va vn vc, .bool (decide (y < 0))] 87) (Obj.cells #[.slice none 0 0, .bool false] 87)
   exact ⟨by rw [World.cell?_drew, cell_of_row _ _ _ _ _ _ h9]; exact h, by rw [World.frozen?_drew, frozen_of_row _ _ _ _ _ h9]⟩)
 have R1 : Hi (∀ o v, (#[Value.slice ua un uc, Value.bool (decide (z < 0))] : Array Value)[o]? = some v → (((w.alloc (Obj.cells #[.slice ua un uc, .bool (decide (z < 0))] 87)).alloc (Obj.cells #[.slice va vn vc, .bool (decide (y < 0))] 87)).alloc (Obj.cells #[.slice none 0 0, .bool false] 87)).drew.cell? ⟨w.heap.size, o, none⟩ = some v) :=
  hdd (fun o v h => by
   rw [World.cell?_drew, cell_of_row _ _ _ _ _ _ (p8q w _ _ _)]; exact h)
 have R2 : Hi (∀ o v, (#[Value.slice va vn vc, Value.bool (decide (y < 0))] : Array Value)[o]? = some v → (((w.alloc (Obj.cells #[.slice ua un uc, .bool (decide (z < 0))] 87)).alloc (Obj.cells #[.slice va vn vc, .bool (decide (y < 0))] 87)).alloc (Obj.cells #[.slice none 0 0, .bool false] 87)).drew.cell? ⟨w.heap.size + 1, o, none⟩ = some v) :=
  hdd (fun o v h => by
   rw [World.cell?_drew, cell_of_row _ _ _ _ _ _ (p9q w _ _ _)]; exact h)
 go_enter Tryz.func158, Tryz.ntmps158
 go_wp2_with fail
 go_region_held3 (fun w' => w'.cell? ⟨w.heap.size, 0, none⟩ = some (.slice ua un uc) ∧ w'.cell? ⟨w.heap.size, 1, none⟩ = some (.bool (decide (z < 0))) ∧ w'.cell? ⟨w.heap.size + 1, 0, none⟩ = some (.slice va vn vc) ∧ w'.cell? ⟨w.heap.size + 1, 1, none⟩ = some (.bool (decide (y < 0))))
  (((try dsimp only); refine ⟨?_, ?_, ?_, ?_⟩ <;> (first | (refine q3q ‹Below _ _ _› ?_; first | assumption | (simp [*]; done)) | (rw [World.cell?_setCell_far _ _ _ _ (by dsimp only; omega), World.cell?_setCell_far _ _ _ _ (by dsimp only; omega)]; exact q3q hbel5 (q3q hbel4 (by first | exact R1.o _ _ rfl | exact R2.o _ _ rfl))) | go_keep)))
  (first | (go_at_call 157; refine (j9k (HU.o.below HB0.o).drew (HD.o.below HB0.o).drew HL.o).mono ?_; rintro en w4 ⟨⟨r, rfl, hr, hro⟩, hbel4⟩; obtain ⟨ra, rn, rc, hre⟩ := hr.form; subst hre) | (go_at_call 114; refine (a5q hr (decide (z < 0) != decide (y < 0))).mono ?_; rintro en w5 ⟨rfl, hbel5⟩; have r0 := q3q hbel5 (q3q hbel4 (R0.o 0 _ rfl).1); have r1 := q3q hbel5 (q3q hbel4 (R0.o 1 _ rfl).1); have f0 := z3q hbel5 (by rw [q3q hbel4 (R0.o 0 _ rfl).1]; rfl) (z3q hbel4 (by rw [(R0.o 0 _ rfl).1]; rfl) (R0.o 0 _ rfl).2); have f1 := z3q hbel5 (by rw [q3q hbel4 (R0.o 1 _ rfl).1]; rfl) (z3q hbel4 (by rw [(R0.o 1 _ rfl).1]; rfl) (R0.o 1 _ rfl).2)))
 have hR5 : w5.heap[w.heap.size + 2]? = some (.cells #[.slice none 0 0, .bool false] 87 (0, 0)) := by
  rw [hbel5.block _ (by have := hbel4.size; simp at this; omega), hbel4.block _ (by simp)]
  exact h3q w _ _ _
 have HR5 := hdd hR5
 have HBW := hdd (q0q (q0q HB0.o (u2q hbel4)) hbel5)
 have HNV : Hi (p7q w5 (.agg #[Value.slice ra rn rc, Value.bool ((decide (z < 0) != decide (y < 0)) && !g7q (z.natAbs * y.natAbs))]) (z * y)) := hdd (by
  have h9 := q4j (hr.below hbel5) (decide (z < 0) != decide (y < 0))
  rwa [g3k] at h9)
 clear hR5 r0 r1 f0 f1 hro
 go_wp2_with fail
 have hset := ((z9q.refl (w.heap.size + 2) w5).setCell 0 (Value.slice ra rn rc)).setCell 1 (Value.bool ((decide (z < 0) != decide (y < 0)) && !g7q (z.natAbs * y.natAbs)))
 refine bodyPost_ret (results_cell_row rfl _ _ (w.heap.size + 2) _ _ _ _ rfl (heap_setCell_same _ _ 1 _ _ _ (heap_setCell_same _ _ 0 _ _ _ HR5.o)) Tryz.underlying87 rfl o5q) rfl ⟨⟨_, rfl, ?_⟩, q4q HBW.o hset (by omega)⟩
 obtain ⟨u9, h8, h9⟩ := HNV.o
 simp only [Value.agg.injEq, Array.mk.injEq, List.cons.injEq, and_true, Value.bool.injEq] at h8
 obtain ⟨h7, hb⟩ := h8
 subst h7
 exact ⟨_, by rw [hb]; rfl, h9.other HR5.o (j4j ⟨_, _, _, rfl⟩) hset⟩
theorem y9w {y : Int} (h : decide (z < 0) = decide (y < 0)) : (if decide (z < 0) = true then -((z.natAbs + y.natAbs : Nat) : Int) else ((z.natAbs + y.natAbs : Nat) : Int)) = z + y := by
 rcases Int.lt_or_le z 0 with hz | hz <;> rcases Int.lt_or_le y 0 with hy | hy
 ·
  simp only [hz, decide_true, if_true]; omega
 ·
  simp [hz, Int.not_lt.mpr hy] at h
 ·
  simp [hy, Int.not_lt.mpr hz] at h
 ·
  simp only [Int.not_lt.mpr hz, decide_false]; simp; omega
theorem y9x {y : Int} (h : decide (z < 0) ≠ decide (y < 0)) (hl : z.natAbs < y.natAbs) : (if decide (y < 0) = true then -((y.natAbs - z.natAbs : Nat) : Int) else ((y.natAbs - z.natAbs : Nat) : Int)) = z + y := by
 rcases Int.lt_or_le z 0 with hz | hz <;> rcases Int.lt_or_le y 0 with hy | hy
 ·
  simp [hz, hy] at h
 ·
  simp only [Int.not_lt.mpr hy, decide_false]; simp; omega
 ·
  simp only [hy, decide_true, if_true]; omega
 ·
  simp [Int.not_lt.mpr hz, Int.not_lt.mpr hy] at h
theorem y9k {y : Int} (h : decide (z < 0) ≠ decide (y < 0)) (hl : y.natAbs ≤ z.natAbs) : (if decide (z < 0) = true then -((z.natAbs - y.natAbs : Nat) : Int) else ((z.natAbs - y.natAbs : Nat) : Int)) = z + y := by
 have h' := h
 rcases Int.lt_or_le z 0 with hz | hz <;> rcases Int.lt_or_le y 0 with hy | hy
 ·
  simp [hz, hy] at h
 ·
  simp only [hz, decide_true, if_true]; omega
 ·
  simp only [Int.not_lt.mpr hz, decide_false]; simp; omega
 ·
  simp [Int.not_lt.mpr hz, Int.not_lt.mpr hy] at h

theorem g8z {y : Int} (hv : p7q w v z) (hd : p7q w d y) (hlen : (q2q z.natAbs).length < 1073741824) (hlen2 : (q2q y.natAbs).length < 1073741824) :
  Calls Tryz.prog 155 #[v, d] w fun e w' => (∃ r, e = .returned r ∧ p7q w' r (z + y)) ∧ Below w.heap.size w w' := by
 obtain ⟨u, rfl, hu⟩ := hv
 obtain ⟨u2, rfl, hu2⟩ := hd
 have HU := hdd hu
 have HD := hdd hu2
 have HL := hdd hlen
 have HM := hdd hlen2
 obtain ⟨ua, uc, hue, -⟩ := hu
 obtain ⟨un, hun⟩ := qx ((q2q z.natAbs).length)
 rw [← hun] at hue
 subst hue
 obtain ⟨va, vc, hve, -⟩ := hu2
 obtain ⟨vn, hvn⟩ := qx ((q2q y.natAbs).length)
 rw [← hvn] at hve
 subst hve
 clear hlen hlen2 hun hvn
 obtain ⟨bz, hbz⟩ := qx (decide (z < 0))
 obtain ⟨bq, hbq⟩ := qx (decide (y < 0))
 rw [← hbz, ← hbq]
 have HZ := hdd hbz
 have HY := hdd hbq
 clear hbz hbq
 have HB0 : Hi (Below w.heap.size w (((w.alloc (Obj.cells #[.slice ua un uc, .bool bz] 87)).alloc (Obj.cells #[.slice va vn vc, .bool bq] 87)).alloc (Obj.cells #[.slice none 0 0, .bool false] 87))) :=
  hdd ((((qb).alloc qm _).alloc (by simp) _).alloc (by simp; omega) _)
 by_cases hE : bz = bq
 ·
  subst hE
  have HE : Hi (decide (z < 0) = decide (y < 0)) := hdd (by rw [← HZ.o, ← HY.o])
  have hbb : (bz == bz) = true := by simp
  go_enter Tryz.func155, Tryz.ntmps155
  go_wp2_with fail
  obtain ⟨w1, hw1⟩ := qx ((((w.alloc (Obj.cells #[.slice ua un uc, .bool bz] 87)).alloc (Obj.cells #[.slice va vn vc, .bool bz] 87)).alloc (Obj.cells #[.slice none 0 0, .bool false] 87)))
  rw [← hw1]
  have HBX : Hi (Below w.heap.size w w1) := hdd (by rw [hw1]; exact HB0.o)
  have HS : Hi (w1.heap.size = w.heap.size + 3) := hdd (by rw [hw1]; simp)
  have R3 : Hi (w1.heap[w.heap.size + 2]? = some (.cells #[.slice none 0 0, .bool false] 87 (0, 0))) := hdd (by rw [hw1]; exact h3q w _ _ _)
  have R1 : Hi (∀ o v, (#[Value.slice ua un uc, Value.bool bz] : Array Value)[o]? = some v → w1.drew.cell? ⟨w.heap.size, o, none⟩ = some v) :=
   hdd (fun o v h => by
    rw [World.cell?_drew, hw1, cell_of_row _ _ _ _ _ _ (p8q w _ _ _)]; exact h)
  have R2 : Hi (∀ o v, (#[Value.slice va vn vc, Value.bool bz] : Array Value)[o]? = some v → w1.drew.cell? ⟨w.heap.size + 1, o, none⟩ = some v) :=
   hdd (fun o v h => by
    rw [World.cell?_drew, hw1, cell_of_row _ _ _ _ _ _ (p9q w _ _ _)]; exact h)
  have R0 : Hi (∀ o v, (#[Value.slice none 0 0, Value.bool false] : Array Value)[o]? = some v → w1.drew.cell? ⟨w.heap.size + 2, o, none⟩ = some v ∧ w1.drew.frozen? ⟨w.heap.size + 2, o, none⟩ = false) :=
   hdd (fun o v h => by
    exact ⟨by rw [World.cell?_drew, cell_of_row _ _ _ _ _ _ R3.o]; exact h, by rw [World.frozen?_drew, frozen_of_row _ _ _ _ _ R3.o]⟩)
  clear hw1

  go_region_held3 (fun w' => w'.cell? ⟨w.heap.size, 0, none⟩ = some (.slice ua un uc) ∧ w'.cell? ⟨w.heap.size, 1, none⟩ = some (.bool bz) ∧ w'.cell? ⟨w.heap.size + 1, 0, none⟩ = some (.slice va vn vc) ∧ w'.cell? ⟨w.heap.size + 1, 1, none⟩ = some (.bool bz))
   (((try dsimp only); refine ⟨?_, ?_, ?_, ?_⟩ <;> (first | exact R1.o _ _ rfl | exact R2.o _ _ rfl | (refine q3q ‹Below _ _ _› ?_; first | assumption | (simp [*]; done)) | (rw [World.cell?_setCell_far _ _ _ _ (by dsimp only; omega), World.cell?_setCell_far _ _ _ _ (by dsimp only; omega)]; exact q3q hbel5 (q3q hbel4 (by first | exact R1.o _ _ rfl | exact R2.o _ _ rfl))) | go_keep)))
   (first | (go_at_call 170; refine (v9v (HU.o.below HBX.o).drew (HD.o.below HBX.o).drew HL.o HM.o).mono ?_; rintro en w4 ⟨⟨r, rfl, hr, hro⟩, hbel4⟩; obtain ⟨ra, rn, rc, hre⟩ := hr.form; subst hre) | (go_at_call 114; refine (a5q hr bz).mono ?_; rintro en w5 ⟨rfl, hbel5⟩; have r0 := q3q hbel5 (q3q hbel4 (R0.o 0 _ rfl).1); have r1 := q3q hbel5 (q3q hbel4 (R0.o 1 _ rfl).1); have f0 := z3q hbel5 (by rw [q3q hbel4 (R0.o 0 _ rfl).1]; rfl) (z3q hbel4 (by rw [(R0.o 0 _ rfl).1]; rfl) (R0.o 0 _ rfl).2); have f1 := z3q hbel5 (by rw [q3q hbel4 (R0.o 1 _ rfl).1]; rfl) (z3q hbel4 (by rw [(R0.o 1 _ rfl).1]; rfl) (R0.o 1 _ rfl).2)))
  have hR5 : w5.heap[w.heap.size + 2]? = some (.cells #[.slice none 0 0, .bool false] 87 (0, 0)) := by
   have e1 : w1.drew.heap.size = w.heap.size + 3 := HS.o
   have e2 := hbel4.size
   exact (hbel5.block (w.heap.size + 2) (by omega)).trans ((hbel4.block (w.heap.size + 2) (by omega)).trans R3.o)
  have HR5 := hdd hR5
  have HBW := hdd (q0q (q0q HBX.o (u2q hbel4)) hbel5)
  have HNV : Hi (p7q w5 (.agg #[Value.slice ra rn rc, Value.bool (bz && !g7q (z.natAbs + y.natAbs))]) (z + y)) := hdd (by
   have h9 := q4j (hr.below hbel5) (decide (z < 0))
   rw [HZ.o]
   rwa [y9w HE.o] at h9)
  have HNE : Hi ((Value.slice ra rn rc).ownBlock ≠ some (w.heap.size + 2)) := hdd (fun e => by have e3 := hro _ e; have e1 : w1.drew.heap.size = w.heap.size + 3 := HS.o; omega)
  clear hR5 r0 r1 f0 f1 hro
  go_wp2_with fail
  have hset := ((z9q.refl (w.heap.size + 2) w5).setCell 0 (Value.slice ra rn rc)).setCell 1 (Value.bool (bz && !g7q (z.natAbs + y.natAbs)))
  refine bodyPost_ret (results_cell_row rfl _ _ (w.heap.size + 2) _ _ _ _ rfl (heap_setCell_same _ _ 1 _ _ _ (heap_setCell_same _ _ 0 _ _ _ HR5.o)) Tryz.underlying87 rfl o5q) rfl ⟨⟨_, rfl, ?_⟩, q4q HBW.o hset (by omega)⟩
  obtain ⟨u9, h8, h9⟩ := HNV.o
  simp only [Value.agg.injEq, Array.mk.injEq, List.cons.injEq, and_true, Value.bool.injEq] at h8
  obtain ⟨h7, hb⟩ := h8
  subst h7
  exact ⟨_, by rw [hb]; rfl, h9.only hset HNE.o⟩

 ·
  have hbb : (bz == bq) = false := by simp [hE]
  have HE : Hi (decide (z < 0) ≠ decide (y < 0)) := hdd (by rw [← HZ.o, ← HY.o]; exact hE)
  clear hE
  have HS0 : Hi ((((w.alloc (Obj.cells #[.slice ua un uc, .bool bz] 87)).alloc (Obj.cells #[.slice va vn vc, .bool bq] 87)).alloc (Obj.cells #[.slice none 0 0, .bool false] 87)).heap.size = w.heap.size + 3) := hdd (by simp)
  go_enter Tryz.func155, Tryz.ntmps155
  go_wp2_with fail
  refine (s6q (HU.o.below HB0.o) (HD.o.below HB0.o)).mono ?_
  rintro en w1 ⟨rfl, n, hw1⟩
  obtain ⟨c, hc⟩ := qx (u3q z.natAbs y.natAbs)
  rw [← hc]
  have HBX : Hi (Below w.heap.size w w1) := hdd (by rw [hw1]; exact q5q HB0.o n)
  have HS : Hi (w1.heap.size = w.heap.size + 3) := hdd (by rw [hw1]; exact HS0.o)
  have R3 : Hi (w1.heap[w.heap.size + 2]? = some (.cells #[.slice none 0 0, .bool false] 87 (0, 0))) := hdd (by rw [hw1]; exact h3q w _ _ _)
  have R1 : Hi (∀ o v, (#[Value.slice ua un uc, Value.bool bz] : Array Value)[o]? = some v → w1.drew.cell? ⟨w.heap.size, o, none⟩ = some v) :=
   hdd (fun o v h => by
    rw [World.cell?_drew, hw1]; refine (cell_of_row _ _ _ _ _ _ (p8q w _ _ _)).trans ?_; exact h)
  have R2 : Hi (∀ o v, (#[Value.slice va vn vc, Value.bool bq] : Array Value)[o]? = some v → w1.drew.cell? ⟨w.heap.size + 1, o, none⟩ = some v) :=
   hdd (fun o v h => by
    rw [World.cell?_drew, hw1]; refine (cell_of_row _ _ _ _ _ _ (p9q w _ _ _)).trans ?_; exact h)
  have R0 : Hi (∀ o v, (#[Value.slice none 0 0, Value.bool false] : Array Value)[o]? = some v → w1.drew.cell? ⟨w.heap.size + 2, o, none⟩ = some v ∧ w1.drew.frozen? ⟨w.heap.size + 2, o, none⟩ = false) :=
   hdd (fun o v h => by
    exact ⟨by rw [World.cell?_drew, cell_of_row _ _ _ _ _ _ R3.o]; exact h, by rw [World.frozen?_drew, frozen_of_row _ _ _ _ _ R3.o]⟩)
  clear hw1

  by_cases hlt : c < 0
  ·
   have hd : decide (c < 0) = true := by simp [hlt]
   have HLT : Hi (z.natAbs < y.natAbs) := hdd (by
    rw [hc] at hlt; unfold u3q at hlt
    by_cases h1 : z.natAbs < y.natAbs
    ·
     exact h1
    ·
     rw [if_neg h1] at hlt; split at hlt <;> omega)
   have HLE : Hi (z.natAbs ≤ y.natAbs) := hdd (Nat.le_of_lt HLT.o)
   clear hlt hc
   go_wp2_with fail
   go_region_held3 (fun w' => w'.cell? ⟨w.heap.size, 0, none⟩ = some (.slice ua un uc) ∧ w'.cell? ⟨w.heap.size, 1, none⟩ = some (.bool bz) ∧ w'.cell? ⟨w.heap.size + 1, 0, none⟩ = some (.slice va vn vc) ∧ w'.cell? ⟨w.heap.size + 1, 1, none⟩ = some (.bool bq))
    (((try dsimp only); refine ⟨?_, ?_, ?_, ?_⟩ <;> (first | exact R1.o _ _ rfl | exact R2.o _ _ rfl | (refine q3q ‹Below _ _ _› ?_; first | assumption | (simp [*]; done)) | (rw [World.cell?_setCell_far _ _ _ _ (by dsimp only; omega), World.cell?_setCell_far _ _ _ _ (by dsimp only; omega)]; exact q3q hbel5 (q3q hbel4 (by first | exact R1.o _ _ rfl | exact R2.o _ _ rfl))) | go_keep)))
    (first | (go_at_call 171; refine (y3v (HD.o.below HBX.o).drew (HU.o.below HBX.o).drew HLE.o).mono ?_; rintro en w4 ⟨⟨r, rfl, hr, hro⟩, hbel4⟩; obtain ⟨ra, rn, rc, hre⟩ := hr.form; subst hre) | (go_at_call 114; refine (a5q hr bq).mono ?_; rintro en w5 ⟨rfl, hbel5⟩; have r0 := q3q hbel5 (q3q hbel4 (R0.o 0 _ rfl).1); have r1 := q3q hbel5 (q3q hbel4 (R0.o 1 _ rfl).1); have f0 := z3q hbel5 (by rw [q3q hbel4 (R0.o 0 _ rfl).1]; rfl) (z3q hbel4 (by rw [(R0.o 0 _ rfl).1]; rfl) (R0.o 0 _ rfl).2); have f1 := z3q hbel5 (by rw [q3q hbel4 (R0.o 1 _ rfl).1]; rfl) (z3q hbel4 (by rw [(R0.o 1 _ rfl).1]; rfl) (R0.o 1 _ rfl).2)))
   have hR5 : w5.heap[w.heap.size + 2]? = some (.cells #[.slice none 0 0, .bool false] 87 (0, 0)) := by
    have e1 : w1.drew.heap.size = w.heap.size + 3 := HS.o
    have e2 := hbel4.size
    exact (hbel5.block (w.heap.size + 2) (by omega)).trans ((hbel4.block (w.heap.size + 2) (by omega)).trans R3.o)
   have HR5 := hdd hR5
   have HBW := hdd (q0q (q0q HBX.o (u2q hbel4)) hbel5)
   have HNV : Hi (p7q w5 (.agg #[Value.slice ra rn rc, Value.bool (bq && !g7q (y.natAbs - z.natAbs))]) (z + y)) := hdd (by
    have h9 := q4j (hr.below hbel5) (decide (y < 0))
    rw [HY.o]
    rwa [y9x HE.o HLT.o] at h9)
   have HNE : Hi ((Value.slice ra rn rc).ownBlock ≠ some (w.heap.size + 2)) := hdd (fun e => by have e3 := hro _ e; have e1 : w1.drew.heap.size = w.heap.size + 3 := HS.o; omega)
   clear hR5 r0 r1 f0 f1 hro
   go_wp2_with fail
   have hset := ((z9q.refl (w.heap.size + 2) w5).setCell 0 (Value.slice ra rn rc)).setCell 1 (Value.bool (bq && !g7q (y.natAbs - z.natAbs)))
   refine bodyPost_ret (results_cell_row rfl _ _ (w.heap.size + 2) _ _ _ _ rfl (heap_setCell_same _ _ 1 _ _ _ (heap_setCell_same _ _ 0 _ _ _ HR5.o)) Tryz.underlying87 rfl o5q) rfl ⟨⟨_, rfl, ?_⟩, q4q HBW.o hset (by omega)⟩
   obtain ⟨u9, h8, h9⟩ := HNV.o
   simp only [Value.agg.injEq, Array.mk.injEq, List.cons.injEq, and_true, Value.bool.injEq] at h8
   obtain ⟨h7, hb⟩ := h8
   subst h7
   exact ⟨_, by rw [hb]; rfl, h9.only hset HNE.o⟩
  ·
   have hd : decide (c < 0) = false := by simp; omega
   have HLE : Hi (y.natAbs ≤ z.natAbs) := hdd (by
    rw [hc] at hlt; unfold u3q at hlt
    by_cases h1 : z.natAbs < y.natAbs
    ·
     rw [if_pos h1] at hlt; omega
    ·
     omega)
   clear hlt hc
   go_wp2_with fail
   go_region_held3 (fun w' => w'.cell? ⟨w.heap.size, 0, none⟩ = some (.slice ua un uc) ∧ w'.cell? ⟨w.heap.size, 1, none⟩ = some (.bool bz) ∧ w'.cell? ⟨w.heap.size + 1, 0, none⟩ = some (.slice va vn vc) ∧ w'.cell? ⟨w.heap.size + 1, 1, none⟩ = some (.bool bq))
    (((try dsimp only); refine ⟨?_, ?_, ?_, ?_⟩ <;> (first | exact R1.o _ _ rfl | exact R2.o _ _ rfl | (refine q3q ‹Below _ _ _› ?_; first | assumption | (simp [*]; done)) | (rw [World.cell?_setCell_far _ _ _ _ (by dsimp only; omega), World.cell?_setCell_far _ _ _ _ (by dsimp only; omega)]; exact q3q hbel5 (q3q hbel4 (by first | exact R1.o _ _ rfl | exact R2.o _ _ rfl))) | go_keep)))
    (first | (go_at_call 171; refine (y3v (HU.o.below HBX.o).drew (HD.o.below HBX.o).drew HLE.o).mono ?_; rintro en w4 ⟨⟨r, rfl, hr, hro⟩, hbel4⟩; obtain ⟨ra, rn, rc, hre⟩ := hr.form; subst hre) | (go_at_call 114; refine (a5q hr bz).mono ?_; rintro en w5 ⟨rfl, hbel5⟩; have r0 := q3q hbel5 (q3q hbel4 (R0.o 0 _ rfl).1); have r1 := q3q hbel5 (q3q hbel4 (R0.o 1 _ rfl).1); have f0 := z3q hbel5 (by rw [q3q hbel4 (R0.o 0 _ rfl).1]; rfl) (z3q hbel4 (by rw [(R0.o 0 _ rfl).1]; rfl) (R0.o 0 _ rfl).2); have f1 := z3q hbel5 (by rw [q3q hbel4 (R0.o 1 _ rfl).1]; rfl) (z3q hbel4 (by rw [(R0.o 1 _ rfl).1]; rfl) (R0.o 1 _ rfl).2)))
   have hR5 : w5.heap[w.heap.size + 2]? = some (.cells #[.slice none 0 0, .bool false] 87 (0, 0)) := by
    have e1 : w1.drew.heap.size = w.heap.size + 3 := HS.o
    have e2 := hbel4.size
    exact (hbel5.block (w.heap.size + 2) (by omega)).trans ((hbel4.block (w.heap.size + 2) (by omega)).trans R3.o)
   have HR5 := hdd hR5
   have HBW := hdd (q0q (q0q HBX.o (u2q hbel4)) hbel5)
   have HNV : Hi (p7q w5 (.agg #[Value.slice ra rn rc, Value.bool (bz && !g7q (z.natAbs - y.natAbs))]) (z + y)) := hdd (by
    have h9 := q4j (hr.below hbel5) (decide (z < 0))
    rw [HZ.o]
    rwa [y9k HE.o HLE.o] at h9)
   have HNE : Hi ((Value.slice ra rn rc).ownBlock ≠ some (w.heap.size + 2)) := hdd (fun e => by have e3 := hro _ e; have e1 : w1.drew.heap.size = w.heap.size + 3 := HS.o; omega)
   clear hR5 r0 r1 f0 f1 hro
   go_wp2_with fail
   have hset := ((z9q.refl (w.heap.size + 2) w5).setCell 0 (Value.slice ra rn rc)).setCell 1 (Value.bool (bz && !g7q (z.natAbs - y.natAbs)))
   refine bodyPost_ret (results_cell_row rfl _ _ (w.heap.size + 2) _ _ _ _ rfl (heap_setCell_same _ _ 1 _ _ _ (heap_setCell_same _ _ 0 _ _ _ HR5.o)) Tryz.underlying87 rfl o5q) rfl ⟨⟨_, rfl, ?_⟩, q4q HBW.o hset (by omega)⟩
   obtain ⟨u9, h8, h9⟩ := HNV.o
   simp only [Value.agg.injEq, Array.mk.injEq, List.cons.injEq, and_true, Value.bool.injEq] at h8
   obtain ⟨h7, hb⟩ := h8
   subst h7
   exact ⟨_, by rw [hb]; rfl, h9.only hset HNE.o⟩
def z1x (w : World) (v : Value) (z : Int) (y : Nat) : Prop := ∃ u d, v = .agg #[u, .bool (decide (z < 0)), d] ∧ IsW w u (q2q z.natAbs) ∧ IsW w d (q2q y)
theorem z1x.below (h : z1x w v z y) (hb : Below w.heap.size w w') : z1x w' v z y := by
 obtain ⟨n, d, rfl, hn, hd⟩ := h
 exact ⟨n, d, rfl, hn.below hb, hd.below hb⟩

theorem g6v (hv : z1x w v z y) (hz : (q2q z.natAbs).length < 1073741824) (hy : (q2q y).length < 1073741824) :
  Calls Tryz.prog 85 #[v] w fun e w' => e = .returned (.bool (decide ((q2q z.natAbs).length + (q2q y).length ≤ 4096))) ∧ Below w.heap.size w w' := by
 obtain ⟨u, d, rfl, hu, hd⟩ := hv
 obtain ⟨un, hun⟩ := qx ((q2q z.natAbs).length)
 obtain ⟨dn, hdn⟩ := qx ((q2q y).length)
 obtain ⟨ua, uc, hue, -⟩ := hu
 obtain ⟨da, dc, hde, -⟩ := hd
 rw [← hun] at hue hz
 rw [← hdn] at hde hy
 rw [← hun, ← hdn]
 subst hue hde
 have HZ := hdd hz
 have HY := hdd hy
 clear hun hdn hz hy
 have hB0 : Hi (∀ o, Below w.heap.size w (w.alloc o)) := hdd (fun o => (qb).alloc qm o)
 have HW : Hi (wrap64 ((un : Int) + (dn : Int)) = (un : Int) + (dn : Int)) := hdd (by unfold wrap64; have := HZ.o; have := HY.o; omega)
 obtain ⟨M, hM⟩ := qx (4096 : Nat)
 rw [← hM]
 have HM := hdd hM
 clear hM
 go_enter Tryz.func85, Tryz.ntmps85
 go_wp2_with fail
 go_ret
 refine ⟨?_, hB0.o _⟩
 show Ending.returned (Value.bool (decide (wrap64 ((un : Int) + (dn : Int)) ≤ 4096))) = _
 have h1 := HW.o
 have h2 := HM.o
 rw [h1]
 congr 2
 exact decide_eq_decide.mpr (by omega)

theorem k1w :
  Calls Tryz.prog 113 #[] w fun e w' => (∃ r, e = .returned r ∧ IsW w' r (q2q 1) ∧ (∀ b, r.ownBlock = some b → w.heap.size ≤ b)) ∧ Below w.heap.size w w' := by
 go_enter Tryz.func113, Tryz.ntmps113
 go_wp2_with fail
 have hB : Blk (w.alloc (Obj.cells #[.int IntKind.u32 1] 125)) w.heap.size 125 [1] := by
  show (w.heap.push _)[w.heap.size]? = _
  simp [U]
 have h1 : q2q 1 = [1] := by unfold q2q; simp [q2q]
 have hI := hB.isW_all (by intro x hx; simp at hx; omega) 1 (by simp) (by simp)
 go_ret
 refine ⟨⟨_, rfl, h1 ▸ hI, fun x hx => ?_⟩, (qb).alloc qm _⟩
 simp [Value.ownBlock] at hx
 omega
theorem i8q : (Tryz.prog.info? 89).map (·.size) = some 3 := by kernel_rfl
theorem x4v (w : World) : IsW w (.slice none 0 0) (q2q (0 : Int).natAbs) := by
 have h : q2q (0 : Int).natAbs = [] := by show q2q 0 = []; unfold q2q; simp
 rw [h]
 exact ⟨none, 0, rfl, by simp, by simp, by intro x hx; simp at hx, by simp [d5q], by simp⟩

theorem z7y :
  Calls Tryz.prog 86 #[] w fun e w' => (∃ r, e = .returned r ∧ z1x w' r 0 1) ∧ Below w.heap.size w w' := by
 have HB0 : Hi (Below w.heap.size w (w.alloc (Obj.cells #[.slice none 0 0, .bool false, .slice none 0 0] 89))) := hdd ((qb).alloc qm _)
 go_enter Tryz.func86, Tryz.ntmps86
 go_wp2_with fail
 refine k1w.mono ?_
 rintro en w5 ⟨⟨r, rfl, hr, hro⟩, hbel5⟩
 obtain ⟨ra, rn, rc, hre⟩ := hr.form
 subst hre
 have hR5 : w5.heap[w.heap.size]? = some (.cells #[.slice none 0 0, .bool false, .slice none 0 0] 89 (0, 0)) := by
  rw [hbel5.block _ (by simp)]
  exact heap_alloc_new w _
 have r0 : w5.cell? ⟨w.heap.size, 0, none⟩ = some (Value.slice none 0 0) := by rw [cell_of_row _ _ _ _ _ _ hR5]; rfl
 have r1 : w5.cell? ⟨w.heap.size, 1, none⟩ = some (Value.bool false) := by rw [cell_of_row _ _ _ _ _ _ hR5]; rfl
 have r2 : w5.cell? ⟨w.heap.size, 2, none⟩ = some (Value.slice none 0 0) := by rw [cell_of_row _ _ _ _ _ _ hR5]; rfl
 have f0 := frozen_of_row _ _ 0 _ _ hR5
 have f1 := frozen_of_row _ _ 1 _ _ hR5
 have f2 := frozen_of_row _ _ 2 _ _ hR5
 have HR5 := hdd hR5
 have HR := hdd hr
 have HBW := hdd (q0q HB0.o hbel5)
 have HNE : Hi ((Value.slice ra rn rc).ownBlock ≠ some w.heap.size) := hdd (fun e => by have := hro _ e; simp at this; omega)
 clear hR5 hr hro
 go_wp2_with fail
 have hset := (((z9q.refl w.heap.size w5).setCell 0 (Value.slice none 0 0)).setCell 1 (Value.bool false)).setCell 2 (Value.slice ra rn rc)
 refine bodyPost_ret (results_cell_row rfl _ _ w.heap.size _ _ _ _ rfl (heap_setCell_same _ _ 2 _ _ _ (heap_setCell_same _ _ 1 _ _ _ (heap_setCell_same _ _ 0 _ _ _ HR5.o))) Tryz.underlying89 rfl i8q) rfl ⟨⟨_, rfl, ?_⟩, q4q HBW.o hset (by omega)⟩
 exact ⟨Value.slice none 0 0, Value.slice ra rn rc, rfl, x4v _, HR.o.only hset HNE.o⟩
end Go.Proofs.YtkkbmlkpgknhgaaGreat
namespace Go.Proofs.YtkkbmlkpgknhgaaGreat
variable {R y : Nat} {b : Bool} {d u v : Value} {q : Rat} {w w' : World} {z : Int}
theorem j7z (hy : y ≠ 0) : (mkRat z y).num = z / (Nat.gcd z.natAbs y : Nat) := by
 rw [Rat.num_mkRat, if_neg hy, Nat.gcd_comm]
theorem q1w (hy : y ≠ 0) : (mkRat z y).den = y / Nat.gcd z.natAbs y := by
 rw [Rat.den_mkRat, if_neg hy, Nat.gcd_comm]
theorem j0j (z : Int) (y : Nat) : ((Nat.gcd z.natAbs y : Nat) : Int) ∣ z := Int.ofNat_dvd_left.2 (Nat.gcd_dvd_left _ _)
theorem q2w (hy : y ≠ 0) : z = (mkRat z y).num * (Nat.gcd z.natAbs y : Nat) := by
 rw [j7z hy]; exact (Int.ediv_mul_cancel (j0j z y)).symm

def q2v (a b : Rat) : Int := a.num * ((b.den / Nat.gcd a.den b.den : Nat) : Int) + b.num * ((a.den / Nat.gcd a.den b.den : Nat) : Int)
def j8j (a b : Rat) : Nat := Nat.gcd (q2v a b).natAbs (Nat.gcd a.den b.den)

theorem v8y (a b : Rat) : j8j a b = Nat.gcd (q2v a b).natAbs (a.den / Nat.gcd a.den b.den * b.den) :=
 Rat.add.aux a b (g := Nat.gcd a.den b.den) rfl rfl rfl

theorem x0h (a b : Rat) : a + b = mkRat (q2v a b) (a.den / Nat.gcd a.den b.den * b.den) := by
 have hg : Nat.gcd a.den b.den ≠ 0 := Nat.gcd_ne_zero_left a.den_nz
 rw [Rat.add_def', ← Rat.mkRat_mul_right (n := q2v a b) (d := a.den / Nat.gcd a.den b.den * b.den) hg]
 congr 1
 ·
  unfold q2v
  rw [Int.add_mul, Int.mul_assoc, Int.mul_assoc, Int.ofNat_mul_ofNat, Int.ofNat_mul_ofNat, Nat.div_mul_cancel (Nat.gcd_dvd_left ..), Nat.div_mul_cancel (Nat.gcd_dvd_right ..)]
 ·
  rw [Nat.mul_right_comm, Nat.div_mul_cancel (Nat.gcd_dvd_left ..)]

theorem z1y (a b : Rat) : a.den / Nat.gcd a.den b.den * b.den ≠ 0 := by
 have h := Nat.div_gcd_pos_of_pos_left b.den a.den_pos
 exact Nat.ne_of_gt (Nat.mul_pos h b.den_pos)
theorem g4v (a b : Rat) : q2v a b = (a + b).num * (j8j a b : Nat) := by
 rw [v8y, x0h]; exact q2w (z1y a b)
theorem u3j (a b : Rat) : j8j a b ∣ b.den := Nat.dvd_trans (Nat.gcd_dvd_right _ _) (Nat.gcd_dvd_right _ _)
theorem g4y (a b : Rat) : (a + b).den = a.den / Nat.gcd a.den b.den * (b.den / j8j a b) := by
 have h := q1w (z := q2v a b) (z1y a b)
 rw [← x0h, ← v8y] at h
 rw [h, Nat.mul_div_assoc _ (u3j a b)]

theorem v6x (a b : Rat) : (a * b).num = a.num / (Nat.gcd a.num.natAbs b.den : Nat) * (b.num / (Nat.gcd b.num.natAbs a.den : Nat)) := by
 show (Rat.mul a b).num = _
 delta Rat.mul
 dsimp only
 simp only [Int.divExact_eq_ediv]
theorem v6v (a b : Rat) : (a * b).den = a.den / Nat.gcd b.num.natAbs a.den * (b.den / Nat.gcd a.num.natAbs b.den) := by
 show (Rat.mul a b).den = _
 delta Rat.mul
 dsimp only
 simp only [Nat.divExact_eq_div]

theorem j0h (a : Rat) : (a⁻¹).num.natAbs = if a.num = 0 then 0 else a.den := by
 rw [Rat.num_inv, Int.natAbs_mul]
 by_cases h : a.num = 0
 ·
  simp [h]
 ·
  simp [h, Int.natAbs_sign_of_ne_zero h]
theorem v2k (a : Rat) : decide ((a⁻¹).num < 0) = decide (a.num < 0) := by
 rw [Rat.num_inv]
 have hd : (0 : Int) < a.den := by have := a.den_pos; omega
 apply decide_eq_decide.2
 rcases Int.lt_trichotomy a.num 0 with h | h | h
 ·
  rw [Int.sign_eq_neg_one_of_neg h]; omega
 ·
  rw [h]; simp
 ·
  rw [Int.sign_eq_one_of_pos h]; omega

def z7q (a b : Rat) : Int := if a < b then -1 else if a = b then 0 else 1
theorem v0x (a : Rat) : a.num.sign = z7q a 0 := by
 unfold z7q
 have h0 : a < 0 ↔ a.num < 0 := by rw [Rat.lt_iff]; simp
 have h1 : a = 0 ↔ a.num = 0 := Rat.num_eq_zero.symm
 by_cases h : a.num < 0
 ·
  rw [if_pos (h0.2 h), Int.sign_eq_neg_one_of_neg h]
 ·
  rw [if_neg (fun e => h (h0.1 e))]
  by_cases h2 : a.num = 0
  ·
   rw [if_pos (h1.2 h2), h2]; rfl
  ·
   rw [if_neg (fun e => h2 (h1.1 e)), Int.sign_eq_one_of_pos (by omega)]

theorem u5j (a b : Rat) : z7q b a = - z7q a b := by
 unfold z7q
 by_cases h : a < b
 ·
  have : ¬ b < a := Rat.not_lt.2 (Rat.le_of_lt h)
  have h3 : b ≠ a := fun e => by subst e; exact Rat.lt_irrefl h
  simp [h, this, h3]
 ·
  by_cases h2 : a = b
  ·
   subst h2; simp [Rat.lt_irrefl]
  ·
   have h3 : b < a := Rat.lt_of_le_of_ne (Rat.not_lt.1 h) (Ne.symm h2)
   simp [h, h2, h3]

theorem q5k (a b : Rat) : z7q a b = (a.num * b.den - b.num * a.den).sign := by
 unfold z7q
 by_cases h : a < b
 ·
  rw [if_pos h, Int.sign_eq_neg_one_of_neg (by have := (Rat.lt_iff a b).1 h; omega)]
 ·
  rw [if_neg h]
  by_cases h2 : a = b
  ·
   subst h2; rw [if_pos rfl, Int.sub_self]; rfl
  ·
   rw [if_neg h2, Int.sign_eq_one_of_pos]
   have h3 : b < a := Rat.lt_of_le_of_ne (Rat.not_lt.1 h) (Ne.symm h2)
   have := (Rat.lt_iff b a).1 h3
   omega
theorem u5z (a b : Rat) (h : a.num.sign ≠ b.num.sign) : (if a.num.sign < b.num.sign then (-1 : Int) else 1) = z7q a b := by
 have ha : (0 : Int) < a.den := by have := a.den_pos; omega
 have hb : (0 : Int) < b.den := by have := b.den_pos; omega
 rw [q5k]
 have e1 : (a.num * b.den).sign = a.num.sign := by rw [Int.sign_mul, Int.sign_eq_one_of_pos hb, Int.mul_one]
 have e2 : (b.num * a.den).sign = b.num.sign := by rw [Int.sign_mul, Int.sign_eq_one_of_pos ha, Int.mul_one]
 rw [← e1, ← e2] at h ⊢
 generalize a.num * b.den = x at *
 generalize b.num * a.den = y at *
 rcases Int.lt_trichotomy x 0 with hx | hx | hx <;> rcases Int.lt_trichotomy y 0 with hy | hy | hy
 ·
  rw [Int.sign_eq_neg_one_of_neg hx, Int.sign_eq_neg_one_of_neg hy] at h; exact absurd rfl h
 ·
  subst hy; rw [Int.sign_eq_neg_one_of_neg (show x - 0 < 0 by omega), Int.sign_eq_neg_one_of_neg hx]; rfl
 ·
  rw [Int.sign_eq_neg_one_of_neg (show x - y < 0 by omega), Int.sign_eq_neg_one_of_neg hx, Int.sign_eq_one_of_pos hy]; rfl
 ·
  subst hx; rw [Int.sign_eq_one_of_pos (show 0 < 0 - y by omega), Int.sign_eq_neg_one_of_neg hy]; rfl
 ·
  subst hx; subst hy; exact absurd rfl h
 ·
  subst hx; rw [Int.sign_eq_neg_one_of_neg (show 0 - y < 0 by omega), Int.sign_eq_one_of_pos hy]; rfl
 ·
  rw [Int.sign_eq_one_of_pos (show 0 < x - y by omega), Int.sign_eq_one_of_pos hx, Int.sign_eq_neg_one_of_neg hy]; rfl
 ·
  subst hy; rw [Int.sign_eq_one_of_pos (show 0 < x - 0 by omega), Int.sign_eq_one_of_pos hx]; rfl
 ·
  rw [Int.sign_eq_one_of_pos hx, Int.sign_eq_one_of_pos hy] at h; exact absurd rfl h
theorem u5y (a b : Rat) (h : a.num.sign = b.num.sign) : u3q (a.num.natAbs * b.den) (b.num.natAbs * a.den) * a.num.sign = z7q a b := by
 rw [q5k]
 have ha : 0 < a.den := a.den_pos
 have hb : 0 < b.den := b.den_pos
 unfold u3q
 rcases Int.lt_trichotomy a.num 0 with hx | hx | hx
 ·
  rw [Int.sign_eq_neg_one_of_neg hx] at h ⊢
  have hy : b.num < 0 := by
   rcases Int.lt_trichotomy b.num 0 with hy | hy | hy
   ·
    exact hy
   ·
    rw [hy] at h; simp at h
   ·
    rw [Int.sign_eq_one_of_pos hy] at h; simp at h
  obtain ⟨x, hx'⟩ : ∃ x : Nat, a.num = -(x : Int) := ⟨a.num.natAbs, by omega⟩
  obtain ⟨y, hy'⟩ : ∃ x : Nat, b.num = -(x : Int) := ⟨b.num.natAbs, by omega⟩
  rw [hx', hy', Int.natAbs_neg, Int.natAbs_neg, Int.natAbs_natCast, Int.natAbs_natCast, Int.neg_mul, Int.neg_mul, ← Int.natCast_mul, ← Int.natCast_mul]
  generalize x * b.den = p at *
  generalize y * a.den = q at *
  by_cases h1 : p < q
  ·
   rw [if_pos h1, Int.sign_eq_one_of_pos (by omega)]; rfl
  ·
   by_cases h2 : q < p
   ·
    rw [if_neg h1, if_pos h2, Int.sign_eq_neg_one_of_neg (by omega)]; rfl
   ·
    have h3 : p = q := by omega
    rw [if_neg h1, if_neg h2, h3]; simp
 ·
  rw [hx] at h ⊢
  have hy : b.num = 0 := by
   rcases Int.lt_trichotomy b.num 0 with hy | hy | hy
   ·
    rw [Int.sign_eq_neg_one_of_neg hy] at h; simp at h
   ·
    exact hy
   ·
    rw [Int.sign_eq_one_of_pos hy] at h; simp at h
  rw [hy]; simp
 ·
  rw [Int.sign_eq_one_of_pos hx] at h ⊢
  have hy : 0 < b.num := by
   rcases Int.lt_trichotomy b.num 0 with hy | hy | hy
   ·
    rw [Int.sign_eq_neg_one_of_neg hy] at h; simp at h
   ·
    rw [hy] at h; simp at h
   ·
    exact hy
  obtain ⟨x, hx'⟩ : ∃ x : Nat, a.num = (x : Int) := ⟨a.num.natAbs, by omega⟩
  obtain ⟨y, hy'⟩ : ∃ x : Nat, b.num = (x : Int) := ⟨b.num.natAbs, by omega⟩
  rw [hx', hy', Int.natAbs_natCast, Int.natAbs_natCast, ← Int.natCast_mul, ← Int.natCast_mul]
  generalize x * b.den = p at *
  generalize y * a.den = q at *
  by_cases h1 : p < q
  ·
   rw [if_pos h1, Int.sign_eq_neg_one_of_neg (by omega)]; rfl
  ·
   by_cases h2 : q < p
   ·
    rw [if_neg h1, if_pos h2, Int.sign_eq_one_of_pos (by omega)]; rfl
   ·
    have h3 : p = q := by omega
    rw [if_neg h1, if_neg h2, h3]; simp

end Go.Proofs.YtkkbmlkpgknhgaaGreat
namespace Go.Proofs.YtkkbmlkpgknhgaaGreat
open Go.RowKit
variable {R y : Nat} {b : Bool} {d u v : Value} {q : Rat} {w w' : World} {z : Int}
def g0q (w : World) (v : Value) (q : Rat) : Prop := z1x w v q.num q.den
theorem g0q.below (h : g0q w v q) (hb : Below w.heap.size w w') : g0q w' v q := z1x.below h hb

theorem q1h (hu : ∃ a n c, u = .slice a n c) (hd : ∃ a n c, d = .slice a n c) : ∀ (j k : Nat), (#[u, .bool b, d] : Array Value)[j]? ≠ some (U k) := by
 obtain ⟨a, n, c, rfl⟩ := hu
 obtain ⟨a', n', c', rfl⟩ := hd
 intro j k h
 match j, h with
 | 0, h => simp [U] at h
 | 1, h => simp [U] at h
 | 2, h => simp [U] at h
 | (j + 3), h => simp at h

theorem j2y : ∀ (j k : Nat), (#[Value.slice none 0 0, Value.bool false, Value.slice none 0 0] : Array Value)[j]? ≠ some (U k) := q1h ⟨_, _, _, rfl⟩ ⟨_, _, _, rfl⟩

def u2z (w : World) (R : Nat) (u : Value) (b : Bool) (d : Value) : World := ((w.setCell ⟨R, 0, none⟩ u).setCell ⟨R, 1, none⟩ (.bool b)).setCell ⟨R, 2, none⟩ d
theorem g6q (w : World) (R : Nat) (u : Value) (b : Bool) (d : Value) : z9q R w (u2z w R u b d) := (((z9q.refl R w).setCell 0 u).setCell 1 (.bool b)).setCell 2 d
theorem b0q {t : TypeId} (hR : w.heap[R]? = some (.cells #[.slice none 0 0, .bool false, .slice none 0 0] t (0, 0))) :
  (u2z w R u b d).heap[R]? = some (.cells #[u, .bool b, d] t (0, 0)) :=
 heap_setCell_same _ _ 2 _ _ _ (heap_setCell_same _ _ 1 _ _ _ (heap_setCell_same _ _ 0 _ _ _ hR))
theorem s2q {t : TypeId} (hR : w.heap[R]? = some (.cells #[.slice none 0 0, .bool false, .slice none 0 0] t (0, 0)))
  (hu : IsW w u (q2q q.num.natAbs)) (hd : IsW w d (q2q q.den)) : g0q (u2z w R u (decide (q.num < 0)) d) (.agg #[u, .bool (decide (q.num < 0)), d]) q :=
 ⟨u, d, rfl, hu.other hR j2y (g6q _ _ _ _ _), hd.other hR j2y (g6q _ _ _ _ _)⟩

theorem x4w (hv : p7q w v z) (hd : IsW w d (q2q y)) (hy : 0 < y) (hz : (q2q z.natAbs).length < 1073741824) (hyl : (q2q y).length < 1073741824) :
  Calls Tryz.prog 143 #[v, d] w fun e w' => (∃ r, e = .returned r ∧ g0q w' r (mkRat z y)) ∧ Below w.heap.size w w' := by
 obtain ⟨u, rfl, hu⟩ := hv
 have HU := hdd hu
 have HD := hdd hd
 have HZ := hdd hz
 have HYL := hdd hyl
 obtain ⟨ua, uc, hue, -⟩ := hu
 obtain ⟨un, hun⟩ := qx ((q2q z.natAbs).length)
 rw [← hun] at hue
 subst hue
 obtain ⟨da, dc, hde, -⟩ := hd
 obtain ⟨dn, hdn⟩ := qx ((q2q y).length)
 rw [← hdn] at hde
 subst hde
 clear hun hdn hz hyl
 obtain ⟨g, hg⟩ := qx (Nat.gcd z.natAbs y)
 have HG := hdd hg
 have hg0 : 0 < g := by rw [hg]; exact Nat.gcd_pos_of_pos_right _ hy
 clear hg
 obtain ⟨q, hq⟩ := qx (mkRat z y)
 have HQ := hdd hq
 rw [← hq]
 clear hq
 have hy0 : Hi (y ≠ 0) := hdd (by omega)
 have HB0 : Hi (Below w.heap.size w ((w.alloc (Obj.cells #[.slice ua un uc, .bool (decide (z < 0))] 87)).alloc (Obj.cells #[.slice none 0 0, .bool false, .slice none 0 0] 89))) :=
  hdd (((qb).alloc qm _).alloc (by simp) _)
 go_enter Tryz.func143, Tryz.ntmps143
 go_wp2_with fail
 refine (j3y (HU.o.below HB0.o) (HD.o.below HB0.o) HZ.o HYL.o).mono ?_
 rintro en w3 ⟨⟨gv, rfl, hgv, -⟩, hbel3⟩
 have HGV : Hi (IsW w3 gv (q2q g)) := hdd (by rw [HG.o]; exact hgv)
 have hb1 : w3.heap[w.heap.size]? = some (.cells #[.slice ua un uc, .bool (decide (z < 0))] 87 (0, 0)) :=
  (hbel3.block _ (by simp; omega)).trans (heap_alloc2_old w _ _)
 have hb2 : w3.heap[w.heap.size + 1]? = some (.cells #[.slice none 0 0, .bool false, .slice none 0 0] 89 (0, 0)) :=
  (hbel3.block _ (by simp)).trans (heap_alloc2_new w _ _)
 have HB2 := hdd hb2
 have HBel := hdd (q0q HB0.o hbel3)
 have c0 : w3.cell? ⟨w.heap.size, 0, none⟩ = some (Value.slice ua un uc) := by rw [cell_of_row _ _ _ _ _ _ hb1]; rfl
 have c1 : w3.cell? ⟨w.heap.size, 1, none⟩ = some (Value.bool (decide (z < 0))) := by rw [cell_of_row _ _ _ _ _ _ hb1]; rfl
 clear hgv hb1 hb2 hbel3
 go_wp2_with fail
 refine (v0y (q := q.num) ⟨_, rfl, HU.o.below HBel.o⟩ HGV.o hg0 (by rw [HQ.o, HG.o]; exact q2w hy0.o) HZ.o).mono ?_
 rintro en w4 ⟨⟨r1, rfl, r1u, rfl, hr1⟩, hbel4⟩
 obtain ⟨ra, rn, rc, hre⟩ := hr1.form
 subst hre
 have HR1 := hdd hr1
 have HB24 : Hi (w4.heap[w.heap.size + 1]? = some (.cells #[.slice none 0 0, .bool false, .slice none 0 0] 89 (0, 0))) := hdd ((hbel4.block _ (by have := lt_of_block HB2.o; omega)).trans HB2.o)
 have HBel4 := hdd (q0q HBel.o hbel4)
 have HGV4 := hdd (HGV.o.below hbel4)
 clear hr1 hbel4 c0 c1
 go_wp2_with fail
 refine (q6v (HD.o.below HBel4.o) HGV4.o hg0 HYL.o).mono ?_
 rintro en w5 ⟨⟨d1, rfl, hd1, -⟩, hbel5⟩
 obtain ⟨ea, en, ec, hde⟩ := hd1.form
 subst hde
 have hR5 : w5.heap[w.heap.size + 1]? = some (.cells #[.slice none 0 0, .bool false, .slice none 0 0] 89 (0, 0)) := (hbel5.block _ (by have := lt_of_block HB24.o; omega)).trans HB24.o
 have r0 : w5.cell? ⟨w.heap.size + 1, 0, none⟩ = some (Value.slice none 0 0) := by rw [cell_of_row _ _ _ _ _ _ hR5]; rfl
 have r1 : w5.cell? ⟨w.heap.size + 1, 1, none⟩ = some (Value.bool false) := by rw [cell_of_row _ _ _ _ _ _ hR5]; rfl
 have r2 : w5.cell? ⟨w.heap.size + 1, 2, none⟩ = some (Value.slice none 0 0) := by rw [cell_of_row _ _ _ _ _ _ hR5]; rfl
 have f0 := frozen_of_row _ _ 0 _ _ hR5
 have f1 := frozen_of_row _ _ 1 _ _ hR5
 have f2 := frozen_of_row _ _ 2 _ _ hR5
 have HR5 := hdd hR5
 have HBW := hdd (q0q HBel4.o hbel5)
 have HN := hdd (HR1.o.below hbel5)
 have HD1 : Hi (IsW w5 (Value.slice ea en ec) (q2q q.den)) := hdd (by rw [HQ.o, q1w hy0.o, ← HG.o]; exact hd1)
 clear hR5 hd1 hbel5
 go_wp2_with fail
 exact bodyPost_ret (results_cell_row rfl _ _ (w.heap.size + 1) _ _ _ _ rfl (b0q HR5.o) Tryz.underlying89 rfl i8q) rfl ⟨⟨_, rfl, s2q HR5.o HN.o HD1.o⟩, q4q HBW.o (g6q _ _ _ _ _) (by omega)⟩
theorem v0q : (Tryz.prog.info? 43).map (·.size) = some 3 := by kernel_rfl

def j3q (w : World) (v : Value) (q : Rat) : Prop := ∃ u d, v = .agg #[.bool (decide (q.num < 0)), u, d] ∧ IsW w u (q2q q.num.natAbs) ∧ IsW w d (q2q q.den)
theorem j3q.below (h : j3q w v q) (hb : Below w.heap.size w w') : j3q w' v q := by
 obtain ⟨n, d, rfl, hn, hd⟩ := h
 exact ⟨n, d, rfl, hn.below hb, hd.below hb⟩
def j5q (q : Rat) : Nat := (q2q q.num.natAbs).length + (q2q q.den).length
def k6q (q : Rat) : Rat := if j5q q ≤ 4096 then q else 0
def z1v (w : World) (v : Value) : Prop := ∃ (b : Bool) (u d : Value), v = .agg #[.bool b, u, d] ∧ (∀ x, u.ownBlock = some x → w.heap.size ≤ x) ∧ (∀ x, d.ownBlock = some x → w.heap.size ≤ x)

theorem q9v : ∀ (j k : Nat), (#[Value.bool false, Value.slice none 0 0, Value.slice none 0 0] : Array Value)[j]? ≠ some (U k) := by
 intro j k h
 match j, h with
 | 0, h => simp [U] at h
 | 1, h => simp [U] at h
 | 2, h => simp [U] at h
 | (j + 3), h => simp at h
def d7q (w : World) (R : Nat) (b : Bool) (u d : Value) : World := ((w.setCell ⟨R, 0, none⟩ (.bool b)).setCell ⟨R, 1, none⟩ u).setCell ⟨R, 2, none⟩ d
theorem q7q (w : World) (R : Nat) (b : Bool) (u d : Value) : z9q R w (d7q w R b u d) := (((z9q.refl R w).setCell 0 (.bool b)).setCell 1 u).setCell 2 d
theorem z5q {t : TypeId} (hR : w.heap[R]? = some (.cells #[.bool false, .slice none 0 0, .slice none 0 0] t (0, 0))) :
  (d7q w R b u d).heap[R]? = some (.cells #[.bool b, u, d] t (0, 0)) :=
 heap_setCell_same _ _ 2 _ _ _ (heap_setCell_same _ _ 1 _ _ _ (heap_setCell_same _ _ 0 _ _ _ hR))
theorem c1q {t : TypeId} (hR : w.heap[R]? = some (.cells #[.bool false, .slice none 0 0, .slice none 0 0] t (0, 0)))
  (hu : IsW w u (q2q q.num.natAbs)) (hd : IsW w d (q2q q.den)) : j3q (d7q w R (decide (q.num < 0)) u d) (.agg #[.bool (decide (q.num < 0)), u, d]) q :=
 ⟨u, d, rfl, hu.other hR q9v (q7q _ _ _ _ _), hd.other hR q9v (q7q _ _ _ _ _)⟩

def y5x (q : Rat) : Bool := decide (j5q q ≤ 4096)
theorem u6v (hv : g0q w v q) (hl : j5q q < 1073741824) :
  Calls Tryz.prog 85 #[v] w fun e w' => e = .returned (.bool (y5x q)) ∧ Below w.heap.size w w' :=
 g6v hv (by unfold j5q at hl; omega) (by unfold j5q at hl; omega)

theorem z6k (hv : g0q w v q) (hl : j5q q < 1073741824) :
  Calls Tryz.prog 55 #[v] w fun e w' => (∃ r, e = .returned r ∧ j3q w' r (k6q q) ∧ z1v w r) ∧ Below w.heap.size w w' := by
 obtain ⟨u, d, rfl, hu, hd⟩ := hv
 obtain ⟨ua, un, uc, hue⟩ := hu.form
 subst hue
 obtain ⟨da, dn, dc, hde⟩ := hd.form
 subst hde
 have HU := hdd hu
 have HD := hdd hd
 have HL := hdd hl
 clear hu hd hl
 have HB0 : Hi (∀ o p, Below w.heap.size w ((w.alloc o).alloc p)) := hdd (fun o p => ((qb).alloc qm o).alloc (by simp) p)
 by_cases hf : j5q q ≤ 4096
 ·
  have hfb : y5x q = true := by simp [y5x, hf]
  have HC : Hi (k6q q = q) := hdd (by unfold k6q; rw [if_pos hf])
  clear hf
  go_enter Tryz.func55, Tryz.ntmps55
  go_wp2_with fail
  refine (u6v (q := q) ⟨_, _, rfl, HU.o.below (HB0.o _ _), HD.o.below (HB0.o _ _)⟩ HL.o).mono ?_
  rintro en w1 ⟨rfl, hbel1⟩
  have HB1 := hdd (q0q (HB0.o _ _) hbel1)
  have hb1 : w1.heap[w.heap.size]? = some (.cells #[.slice ua un uc, .bool (decide (q.num < 0)), .slice da dn dc] 89 (0, 0)) := (hbel1.block _ (by simp; omega)).trans (heap_alloc2_old w _ _)
  have hb2 : w1.heap[w.heap.size + 1]? = some (.cells #[.bool false, .slice none 0 0, .slice none 0 0] 43 (0, 0)) := (hbel1.block _ (by simp)).trans (heap_alloc2_new w _ _)
  have c0 : w1.cell? ⟨w.heap.size, 0, none⟩ = some (Value.slice ua un uc) := by rw [cell_of_row _ _ _ _ _ _ hb1]; rfl
  have c1 : w1.cell? ⟨w.heap.size, 1, none⟩ = some (Value.bool (decide (q.num < 0))) := by rw [cell_of_row _ _ _ _ _ _ hb1]; rfl
  have c2 : w1.cell? ⟨w.heap.size, 2, none⟩ = some (Value.slice da dn dc) := by rw [cell_of_row _ _ _ _ _ _ hb1]; rfl
  have HB2 := hdd hb2
  have HBX := hdd hb1
  clear hb1 hb2 hbel1
  go_wp2_with fail
  have R0 : Hi (∀ o v, (#[Value.bool false, Value.slice none 0 0, Value.slice none 0 0] : Array Value)[o]? = some v → w1.drew.cell? ⟨w.heap.size + 1, o, none⟩ = some v ∧ w1.drew.frozen? ⟨w.heap.size + 1, o, none⟩ = false) :=
   hdd (fun o v h => ⟨by rw [World.cell?_drew, cell_of_row _ _ _ _ _ _ HB2.o]; exact h, by rw [World.frozen?_drew, frozen_of_row _ _ _ _ _ HB2.o]⟩)
  go_region_held3 (fun w' => w'.cell? ⟨w.heap.size, 0, none⟩ = some (.slice ua un uc) ∧ w'.cell? ⟨w.heap.size, 1, none⟩ = some (.bool (decide (q.num < 0))) ∧ w'.cell? ⟨w.heap.size, 2, none⟩ = some (.slice da dn dc))
   (((try dsimp only); refine ⟨?_, ?_, ?_⟩ <;> (first | (refine q3q ‹Below _ _ _› ?_; first | assumption | (simp [*]; done)) | go_keep)))
   (first | (go_at_call_of 87 (Value.slice ua un uc); refine (j9y (HU.o.below HB1.o).drew).mono ?_; rintro en w4 ⟨⟨r, rfl, hr, hro⟩, hbel4⟩; obtain ⟨ra, rn, rc, hre⟩ := hr.form; subst hre) | (go_at_call 87; refine (j9y ((HD.o.below HB1.o).drew.below hbel4)).mono ?_; rintro en w5 ⟨⟨t, rfl, ht, hto⟩, hbel5⟩; obtain ⟨ta, tn, tc, hte⟩ := ht.form; subst hte; have r0 := q3q hbel5 (q3q hbel4 (R0.o 0 _ rfl).1); have r1 := q3q hbel5 (q3q hbel4 (R0.o 1 _ rfl).1); have r2 := q3q hbel5 (q3q hbel4 (R0.o 2 _ rfl).1); have f0 := z3q hbel5 (by rw [q3q hbel4 (R0.o 0 _ rfl).1]; rfl) (z3q hbel4 (by rw [(R0.o 0 _ rfl).1]; rfl) (R0.o 0 _ rfl).2); have f1 := z3q hbel5 (by rw [q3q hbel4 (R0.o 1 _ rfl).1]; rfl) (z3q hbel4 (by rw [(R0.o 1 _ rfl).1]; rfl) (R0.o 1 _ rfl).2); have f2 := z3q hbel5 (by rw [q3q hbel4 (R0.o 2 _ rfl).1]; rfl) (z3q hbel4 (by rw [(R0.o 2 _ rfl).1]; rfl) (R0.o 2 _ rfl).2)))
  have hR5 : w5.heap[w.heap.size + 1]? = some (.cells #[.bool false, .slice none 0 0, .slice none 0 0] 43 (0, 0)) :=
   (hbel5.block _ (by have h8 : w1.heap.size ≤ w4.heap.size := hbel4.size; have := lt_of_block HB2.o; omega)).trans ((hbel4.block _ (lt_of_block HB2.o)).trans HB2.o)
  have HR5 := hdd hR5
  have HBW := hdd (q0q (q0q HB1.o (u2q hbel4)) hbel5)
  have HNU := hdd (hr.below hbel5)
  have HND := hdd ht
  have HN1 : Hi (∀ x, (Value.slice ra rn rc).ownBlock = some x → w.heap.size ≤ x) := hdd (fun x e => by have h9 := hro x e; have h8 := HB1.o.size; have h7 : w1.drew.heap.size = w1.heap.size := rfl; omega)
  have HN2 : Hi (∀ x, (Value.slice ta tn tc).ownBlock = some x → w.heap.size ≤ x) := hdd (fun x e => by have h9 := hto x e; have h8 := HB1.o.size; have h6 : w1.heap.size ≤ w4.heap.size := hbel4.size; omega)
  clear hR5 r0 r1 r2 f0 f1 f2 hro hto hr ht hbel4 hbel5
  go_wp2_with fail
  exact bodyPost_ret (results_cell_row rfl _ _ (w.heap.size + 1) _ _ _ _ rfl (z5q HR5.o) Tryz.underlying43 rfl v0q) rfl ⟨⟨_, rfl, by rw [HC.o]; exact c1q HR5.o HNU.o HND.o, ⟨_, _, _, rfl, HN1.o, HN2.o⟩⟩, q4q HBW.o (q7q _ _ _ _ _) (by omega)⟩
 ·
  have hfb : y5x q = false := by simp [y5x, hf]
  have HC : Hi (k6q q = 0) := hdd (by unfold k6q; rw [if_neg hf])
  clear hf
  go_enter Tryz.func55, Tryz.ntmps55
  go_wp2_with fail
  refine (u6v (q := q) ⟨_, _, rfl, HU.o.below (HB0.o _ _), HD.o.below (HB0.o _ _)⟩ HL.o).mono ?_
  rintro en wa ⟨rfl, hbela⟩
  have HBa := hdd (q0q (HB0.o _ _) hbela)
  have HXa : Hi (wa.heap[w.heap.size]? = some (.cells #[.slice ua un uc, .bool (decide (q.num < 0)), .slice da dn dc] 89 (0, 0))) := hdd ((hbela.block _ (by simp; omega)).trans (heap_alloc2_old w _ _))
  have HRa : Hi (wa.heap[w.heap.size + 1]? = some (.cells #[.bool false, .slice none 0 0, .slice none 0 0] 43 (0, 0))) := hdd ((hbela.block _ (by simp)).trans (heap_alloc2_new w _ _))
  clear hbela
  go_wp2_with fail
  refine z7y.mono ?_
  rintro en wb ⟨⟨zv, rfl, zu, zd, rfl, hzu, hzd⟩, hbelb⟩
  obtain ⟨za, zn, zc, hze⟩ := hzu.form
  subst hze
  obtain ⟨ya, yn, yc, hye⟩ := hzd.form
  subst hye
  have hXb := (hbelb.block _ (lt_of_block HXa.o)).trans HXa.o
  have HRb := hdd ((hbelb.block _ (lt_of_block HRa.o)).trans HRa.o)
  have HBb := hdd (q0q HBa.o hbelb)
  have HZU := hdd hzu
  have HZD := hdd hzd
  have r0 : wb.cell? ⟨w.heap.size, 0, none⟩ = some (Value.slice ua un uc) := by rw [cell_of_row _ _ _ _ _ _ hXb]; rfl
  have r1 : wb.cell? ⟨w.heap.size, 1, none⟩ = some (Value.bool (decide (q.num < 0))) := by rw [cell_of_row _ _ _ _ _ _ hXb]; rfl
  have r2 : wb.cell? ⟨w.heap.size, 2, none⟩ = some (Value.slice da dn dc) := by rw [cell_of_row _ _ _ _ _ _ hXb]; rfl
  have f0 := frozen_of_row _ _ 0 _ _ hXb
  have f1 := frozen_of_row _ _ 1 _ _ hXb
  have f2 := frozen_of_row _ _ 2 _ _ hXb
  have HXb := hdd hXb
  clear hXb hzu hzd hbelb
  go_wp2_with fail
  obtain ⟨w1, hw1⟩ := qx (u2z wb w.heap.size (Value.slice za zn zc) false (Value.slice ya yn yc))
  have hw2 : (((wb.setCell ⟨w.heap.size, 0, none⟩ (Value.slice za zn zc)).setCell ⟨w.heap.size, 1, none⟩ (Value.bool false)).setCell ⟨w.heap.size, 2, none⟩ (Value.slice ya yn yc)) = w1 := hw1.symm
  rw [hw2]
  have hon1 : z9q w.heap.size wb w1 := by rw [hw1]; exact g6q _ _ _ _ _
  have HB1 := hdd (q4q HBb.o hon1 qm)
  have HB2 : Hi (w1.heap[w.heap.size + 1]? = some (.cells #[.bool false, .slice none 0 0, .slice none 0 0] 43 (0, 0))) := hdd ((hon1.block _ (by omega)).trans HRb.o)
  have hb1 : w1.heap[w.heap.size]? = some (.cells #[.slice za zn zc, .bool false, .slice ya yn yc] 89 (0, 0)) := by
   rw [hw1]; exact heap_setCell_same _ _ 2 _ _ _ (heap_setCell_same _ _ 1 _ _ _ (heap_setCell_same _ _ 0 _ _ _ HXb.o))
  have c0 : w1.cell? ⟨w.heap.size, 0, none⟩ = some (Value.slice za zn zc) := by rw [cell_of_row _ _ _ _ _ _ hb1]; rfl
  have c1 : w1.cell? ⟨w.heap.size, 1, none⟩ = some (Value.bool false) := by rw [cell_of_row _ _ _ _ _ _ hb1]; rfl
  have c2 : w1.cell? ⟨w.heap.size, 2, none⟩ = some (Value.slice ya yn yc) := by rw [cell_of_row _ _ _ _ _ _ hb1]; rfl
  have HZ1 := hdd (HZU.o.other HXb.o (q1h ⟨_, _, _, rfl⟩ ⟨_, _, _, rfl⟩) hon1)
  have HD1 := hdd (HZD.o.other HXb.o (q1h ⟨_, _, _, rfl⟩ ⟨_, _, _, rfl⟩) hon1)
  clear hw1 hw2 hon1 hb1 r0 r1 r2 f0 f1 f2
  have R0 : Hi (∀ o v, (#[Value.bool false, Value.slice none 0 0, Value.slice none 0 0] : Array Value)[o]? = some v → w1.drew.cell? ⟨w.heap.size + 1, o, none⟩ = some v ∧ w1.drew.frozen? ⟨w.heap.size + 1, o, none⟩ = false) :=
   hdd (fun o v h => ⟨by rw [World.cell?_drew, cell_of_row _ _ _ _ _ _ HB2.o]; exact h, by rw [World.frozen?_drew, frozen_of_row _ _ _ _ _ HB2.o]⟩)
  go_region_held3 (fun w' => w'.cell? ⟨w.heap.size, 0, none⟩ = some (.slice za zn zc) ∧ w'.cell? ⟨w.heap.size, 1, none⟩ = some (.bool false) ∧ w'.cell? ⟨w.heap.size, 2, none⟩ = some (.slice ya yn yc))
   (((try dsimp only); refine ⟨?_, ?_, ?_⟩ <;> (first | (refine q3q ‹Below _ _ _› ?_; first | assumption | (simp [*]; done)) | go_keep)))
   (first | (go_at_call_of 87 (Value.slice za zn zc); refine (j9y HZ1.o.drew).mono ?_; rintro en w4 ⟨⟨r, rfl, hr, hro⟩, hbel4⟩; obtain ⟨ra, rn, rc, hre⟩ := hr.form; subst hre) | (go_at_call 87; refine (j9y (HD1.o.drew.below hbel4)).mono ?_; rintro en w5 ⟨⟨t, rfl, ht, hto⟩, hbel5⟩; obtain ⟨ta, tn, tc, hte⟩ := ht.form; subst hte; have r0 := q3q hbel5 (q3q hbel4 (R0.o 0 _ rfl).1); have r1 := q3q hbel5 (q3q hbel4 (R0.o 1 _ rfl).1); have r2 := q3q hbel5 (q3q hbel4 (R0.o 2 _ rfl).1); have f0 := z3q hbel5 (by rw [q3q hbel4 (R0.o 0 _ rfl).1]; rfl) (z3q hbel4 (by rw [(R0.o 0 _ rfl).1]; rfl) (R0.o 0 _ rfl).2); have f1 := z3q hbel5 (by rw [q3q hbel4 (R0.o 1 _ rfl).1]; rfl) (z3q hbel4 (by rw [(R0.o 1 _ rfl).1]; rfl) (R0.o 1 _ rfl).2); have f2 := z3q hbel5 (by rw [q3q hbel4 (R0.o 2 _ rfl).1]; rfl) (z3q hbel4 (by rw [(R0.o 2 _ rfl).1]; rfl) (R0.o 2 _ rfl).2)))
  have hR5 : w5.heap[w.heap.size + 1]? = some (.cells #[.bool false, .slice none 0 0, .slice none 0 0] 43 (0, 0)) :=
   (hbel5.block _ (by have h8 : w1.heap.size ≤ w4.heap.size := hbel4.size; have := lt_of_block HB2.o; omega)).trans ((hbel4.block _ (lt_of_block HB2.o)).trans HB2.o)
  have HR5 := hdd hR5
  have HBW := hdd (q0q (q0q HB1.o (u2q hbel4)) hbel5)
  have HNU := hdd (hr.below hbel5)
  have HND := hdd ht
  have HN1 : Hi (∀ x, (Value.slice ra rn rc).ownBlock = some x → w.heap.size ≤ x) := hdd (fun x e => by have h9 := hro x e; have h8 := HB1.o.size; have h7 : w1.drew.heap.size = w1.heap.size := rfl; omega)
  have HN2 : Hi (∀ x, (Value.slice ta tn tc).ownBlock = some x → w.heap.size ≤ x) := hdd (fun x e => by have h9 := hto x e; have h8 := HB1.o.size; have h6 : w1.heap.size ≤ w4.heap.size := hbel4.size; omega)
  clear hR5 r0 r1 r2 f0 f1 f2 hro hto hr ht hbel4 hbel5
  go_wp2_with fail
  exact bodyPost_ret (results_cell_row rfl _ _ (w.heap.size + 1) _ _ _ _ rfl (z5q HR5.o) Tryz.underlying43 rfl v0q) rfl ⟨⟨_, rfl, by rw [HC.o]; exact c1q (q := 0) HR5.o HNU.o HND.o, ⟨_, _, _, rfl, HN1.o, HN2.o⟩⟩, q4q HBW.o (q7q _ _ _ _ _) (by omega)⟩
end Go.Proofs.YtkkbmlkpgknhgaaGreat
