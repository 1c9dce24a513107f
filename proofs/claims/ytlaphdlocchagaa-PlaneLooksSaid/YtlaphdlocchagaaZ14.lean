/- Several texts in one: Wy, Ra, Rb, Rc. -/
import Derived.Test.YtlaphdlocchagaaZ13
/- Numbers with a sign: sums. -/
namespace Go.Proofs.Ytlaphdlocchagaa
open Go.RowKit

theorem sgn_add_same {z y : Int} (h : decide (z < 0) = decide (y < 0)) : (if decide (z < 0) = true then -((z.natAbs + y.natAbs : Nat) : Int) else ((z.natAbs + y.natAbs : Nat) : Int)) = z + y := by
  rcases Int.lt_or_le z 0 with hz | hz <;> rcases Int.lt_or_le y 0 with hy | hy
  · simp only [hz, decide_true, if_true]; omega
  · simp [hz, Int.not_lt.mpr hy] at h
  · simp [hy, Int.not_lt.mpr hz] at h
  · simp only [Int.not_lt.mpr hz, decide_false]; simp; omega
theorem sgn_add_less {z y : Int} (h : decide (z < 0) ≠ decide (y < 0)) (hl : z.natAbs < y.natAbs) : (if decide (y < 0) = true then -((y.natAbs - z.natAbs : Nat) : Int) else ((y.natAbs - z.natAbs : Nat) : Int)) = z + y := by
  rcases Int.lt_or_le z 0 with hz | hz <;> rcases Int.lt_or_le y 0 with hy | hy
  · simp [hz, hy] at h
  · simp only [Int.not_lt.mpr hy, decide_false]; simp; omega
  · simp only [hy, decide_true, if_true]; omega
  · simp [Int.not_lt.mpr hz, Int.not_lt.mpr hy] at h
theorem sgn_add_more {z y : Int} (h : decide (z < 0) ≠ decide (y < 0)) (hl : y.natAbs ≤ z.natAbs) : (if decide (z < 0) = true then -((z.natAbs - y.natAbs : Nat) : Int) else ((z.natAbs - y.natAbs : Nat) : Int)) = z + y := by
  have h' := h
  rcases Int.lt_or_le z 0 with hz | hz <;> rcases Int.lt_or_le y 0 with hy | hy
  · simp [hz, hy] at h
  · simp only [hz, decide_true, if_true]; omega
  · simp only [Int.not_lt.mpr hz, decide_false]; simp; omega
  · simp [Int.not_lt.mpr hz, Int.not_lt.mpr hy] at h

set_option maxHeartbeats 2000000 in
theorem plus_w {w : World} {v d : Value} {z y : Int} (hv : NumV w v z) (hd : NumV w d y) (hlen : (digs z.natAbs).length < 1073741824) (hlen2 : (digs y.natAbs).length < 1073741824) :
    Calls Try.prog 65 #[v, d] w fun e w' => (∃ r, e = .returned r ∧ NumV w' r (z + y)) ∧ Below w.heap.size w w' := by
  obtain ⟨u, rfl, hu⟩ := hv
  obtain ⟨u2, rfl, hu2⟩ := hd
  have HU := Lib.hid hu
  have HD := Lib.hid hu2
  have HL := Lib.hid hlen
  have HM := Lib.hid hlen2
  obtain ⟨ua, uc, hue, -⟩ := hu
  obtain ⟨un, hun⟩ : ∃ un, un = (digs z.natAbs).length := ⟨_, rfl⟩
  rw [← hun] at hue
  subst hue
  obtain ⟨va, vc, hve, -⟩ := hu2
  obtain ⟨vn, hvn⟩ : ∃ vn, vn = (digs y.natAbs).length := ⟨_, rfl⟩
  rw [← hvn] at hve
  subst hve
  clear hlen hlen2 hun hvn
  obtain ⟨bz, hbz⟩ : ∃ b, b = decide (z < 0) := ⟨_, rfl⟩
  obtain ⟨bq, hbq⟩ : ∃ b, b = decide (y < 0) := ⟨_, rfl⟩
  rw [← hbz, ← hbq]
  have HZ := Lib.hid hbz
  have HY := Lib.hid hbq
  clear hbz hbq
  have HB0 : Hid (Below w.heap.size w (((w.alloc (Obj.cells #[Value.slice ua un uc, Value.bool bz] 60)).alloc (Obj.cells #[Value.slice va vn vc, Value.bool bq] 60)).alloc (Obj.cells #[Value.slice none 0 0, Value.bool false] 60))) :=
    Lib.hid ((((Below.refl _ _).alloc (Nat.le_refl _) _).alloc (by simp) _).alloc (by simp; omega) _)
  by_cases hE : bz = bq
  · subst hE
    have HE : Hid (decide (z < 0) = decide (y < 0)) := Lib.hid (by rw [← HZ.out, ← HY.out])
    have hbb : (bz == bz) = true := by simp
    go_enter Try.func65, Try.ntmps65
    go_wp2_with fail
    obtain ⟨w1, hw1⟩ : ∃ w1, w1 = (((w.alloc (Obj.cells #[Value.slice ua un uc, Value.bool bz] 60)).alloc (Obj.cells #[Value.slice va vn vc, Value.bool bz] 60)).alloc (Obj.cells #[Value.slice none 0 0, Value.bool false] 60)) := ⟨_, rfl⟩
    rw [← hw1]
    have HBX : Hid (Below w.heap.size w w1) := Lib.hid (by rw [hw1]; exact HB0.out)
    have HS : Hid (w1.heap.size = w.heap.size + 3) := Lib.hid (by rw [hw1]; simp)
    have R3 : Hid (w1.heap[w.heap.size + 2]? = some (.cells #[Value.slice none 0 0, Value.bool false] 60 (0, 0))) := Lib.hid (by rw [hw1]; exact alloc3_new w _ _ _)
    have R1 : Hid (∀ o v, (#[Value.slice ua un uc, Value.bool bz] : Array Value)[o]? = some v → w1.drew.cell? ⟨w.heap.size, o, none⟩ = some v) :=
      Lib.hid (fun o v h => by
        rw [World.cell?_drew, hw1, cell_of_row _ _ _ _ _ _ (alloc3_0 w _ _ _)]; exact h)
    have R2 : Hid (∀ o v, (#[Value.slice va vn vc, Value.bool bz] : Array Value)[o]? = some v → w1.drew.cell? ⟨w.heap.size + 1, o, none⟩ = some v) :=
      Lib.hid (fun o v h => by
        rw [World.cell?_drew, hw1, cell_of_row _ _ _ _ _ _ (alloc3_1 w _ _ _)]; exact h)
    have R0 : Hid (∀ o v, (#[Value.slice none 0 0, Value.bool false] : Array Value)[o]? = some v → w1.drew.cell? ⟨w.heap.size + 2, o, none⟩ = some v ∧ w1.drew.frozen? ⟨w.heap.size + 2, o, none⟩ = false) :=
      Lib.hid (fun o v h => by
        exact ⟨by rw [World.cell?_drew, cell_of_row _ _ _ _ _ _ R3.out]; exact h, by rw [World.frozen?_drew, frozen_of_row _ _ _ _ _ R3.out]⟩)
    clear hw1

    go_region_held3 (fun w' => w'.cell? ⟨w.heap.size, 0, none⟩ = some (.slice ua un uc) ∧ w'.cell? ⟨w.heap.size, 1, none⟩ = some (.bool bz) ∧ w'.cell? ⟨w.heap.size + 1, 0, none⟩ = some (.slice va vn vc) ∧ w'.cell? ⟨w.heap.size + 1, 1, none⟩ = some (.bool bz))
      (((try dsimp only); refine ⟨?_, ?_, ?_, ?_⟩ <;> (first | exact R1.out _ _ rfl | exact R2.out _ _ rfl | (refine cell_below ‹Below _ _ _› ?_; first | assumption | (simp [*]; done)) | (rw [World.cell?_setCell_far _ _ _ _ (by dsimp only; omega), World.cell?_setCell_far _ _ _ _ (by dsimp only; omega)]; exact cell_below hbel5 (cell_below hbel4 (by first | exact R1.out _ _ rfl | exact R2.out _ _ rfl))) | go_keep)))
      (first | (go_at_call 87; refine (add_w (HU.out.below HBX.out).drew (HD.out.below HBX.out).drew HL.out HM.out).mono ?_; rintro en w4 ⟨⟨r, rfl, hr, hro⟩, hbel4⟩; obtain ⟨ra, rn, rc, hre⟩ := hr.form; subst hre) | (go_at_call 86; refine (signed_l hr bz).mono ?_; rintro en w5 ⟨rfl, hbel5⟩; have r0 := cell_below hbel5 (cell_below hbel4 (R0.out 0 _ rfl).1); have r1 := cell_below hbel5 (cell_below hbel4 (R0.out 1 _ rfl).1); have f0 := frozen_below hbel5 (by rw [cell_below hbel4 (R0.out 0 _ rfl).1]; rfl) (frozen_below hbel4 (by rw [(R0.out 0 _ rfl).1]; rfl) (R0.out 0 _ rfl).2); have f1 := frozen_below hbel5 (by rw [cell_below hbel4 (R0.out 1 _ rfl).1]; rfl) (frozen_below hbel4 (by rw [(R0.out 1 _ rfl).1]; rfl) (R0.out 1 _ rfl).2)))
    have hR5 : w5.heap[w.heap.size + 2]? = some (.cells #[Value.slice none 0 0, Value.bool false] 60 (0, 0)) := by
      have e1 : w1.drew.heap.size = w.heap.size + 3 := HS.out
      have e2 := hbel4.size
      exact (hbel5.block (w.heap.size + 2) (by omega)).trans ((hbel4.block (w.heap.size + 2) (by omega)).trans R3.out)
    have HR5 := Lib.hid hR5
    have HBW := Lib.hid (below_trans (below_trans HBX.out (below_undrew hbel4)) hbel5)
    have HNV : Hid (NumV w5 (.agg #[Value.slice ra rn rc, Value.bool (bz && !zerB (z.natAbs + y.natAbs))]) (z + y)) := Lib.hid (by
      have h9 := numV_of (hr.below hbel5) (decide (z < 0))
      rw [HZ.out]
      rwa [sgn_add_same HE.out] at h9)
    have HNE : Hid ((Value.slice ra rn rc).ownBlock ≠ some (w.heap.size + 2)) := Lib.hid (fun e => by have e3 := hro _ e; have e1 : w1.drew.heap.size = w.heap.size + 3 := HS.out; omega)
    clear hR5 r0 r1 f0 f1 hro
    go_wp2_with fail
    have hset := ((Only.refl (w.heap.size + 2) w5).setCell 0 (Value.slice ra rn rc)).setCell 1 (Value.bool (bz && !zerB (z.natAbs + y.natAbs)))
    refine bodyPost_ret (results_cell_row rfl _ _ (w.heap.size + 2) _ _ _ _ rfl (heap_setCell_same _ _ 1 _ _ _ (heap_setCell_same _ _ 0 _ _ _ HR5.out)) Try.underlying60 rfl inum) rfl ⟨⟨_, rfl, ?_⟩, below_only HBW.out hset (by omega)⟩
    obtain ⟨u9, h8, h9⟩ := HNV.out
    simp only [Value.agg.injEq, Array.mk.injEq, List.cons.injEq, and_true, Value.bool.injEq] at h8
    obtain ⟨h7, hb⟩ := h8
    subst h7
    exact ⟨_, by rw [hb]; rfl, h9.only hset HNE.out⟩

  · have hbb : (bz == bq) = false := by simp [hE]
    have HE : Hid (decide (z < 0) ≠ decide (y < 0)) := Lib.hid (by rw [← HZ.out, ← HY.out]; exact hE)
    clear hE
    have HS0 : Hid ((((w.alloc (Obj.cells #[Value.slice ua un uc, Value.bool bz] 60)).alloc (Obj.cells #[Value.slice va vn vc, Value.bool bq] 60)).alloc (Obj.cells #[Value.slice none 0 0, Value.bool false] 60)).heap.size = w.heap.size + 3) := Lib.hid (by simp)
    go_enter Try.func65, Try.ntmps65
    go_wp2_with fail
    refine (compare_d (HU.out.below HB0.out) (HD.out.below HB0.out)).mono ?_
    rintro en w1 ⟨rfl, n, hw1⟩
    obtain ⟨c, hc⟩ : ∃ c, c = cmpN z.natAbs y.natAbs := ⟨_, rfl⟩
    rw [← hc]
    have HBX : Hid (Below w.heap.size w w1) := Lib.hid (by rw [hw1]; exact below_drewN HB0.out n)
    have HS : Hid (w1.heap.size = w.heap.size + 3) := Lib.hid (by rw [hw1]; exact HS0.out)
    have R3 : Hid (w1.heap[w.heap.size + 2]? = some (.cells #[Value.slice none 0 0, Value.bool false] 60 (0, 0))) := Lib.hid (by rw [hw1]; exact alloc3_new w _ _ _)
    have R1 : Hid (∀ o v, (#[Value.slice ua un uc, Value.bool bz] : Array Value)[o]? = some v → w1.drew.cell? ⟨w.heap.size, o, none⟩ = some v) :=
      Lib.hid (fun o v h => by
        rw [World.cell?_drew, hw1]; refine (cell_of_row _ _ _ _ _ _ (alloc3_0 w _ _ _)).trans ?_; exact h)
    have R2 : Hid (∀ o v, (#[Value.slice va vn vc, Value.bool bq] : Array Value)[o]? = some v → w1.drew.cell? ⟨w.heap.size + 1, o, none⟩ = some v) :=
      Lib.hid (fun o v h => by
        rw [World.cell?_drew, hw1]; refine (cell_of_row _ _ _ _ _ _ (alloc3_1 w _ _ _)).trans ?_; exact h)
    have R0 : Hid (∀ o v, (#[Value.slice none 0 0, Value.bool false] : Array Value)[o]? = some v → w1.drew.cell? ⟨w.heap.size + 2, o, none⟩ = some v ∧ w1.drew.frozen? ⟨w.heap.size + 2, o, none⟩ = false) :=
      Lib.hid (fun o v h => by
        exact ⟨by rw [World.cell?_drew, cell_of_row _ _ _ _ _ _ R3.out]; exact h, by rw [World.frozen?_drew, frozen_of_row _ _ _ _ _ R3.out]⟩)
    clear hw1

    by_cases hlt : c < 0
    · have hd : decide (c < 0) = true := by simp [hlt]
      have HLT : Hid (z.natAbs < y.natAbs) := Lib.hid (by
        rw [hc] at hlt; unfold cmpN at hlt
        by_cases h1 : z.natAbs < y.natAbs
        · exact h1
        · rw [if_neg h1] at hlt; split at hlt <;> omega)
      have HLE : Hid (z.natAbs ≤ y.natAbs) := Lib.hid (Nat.le_of_lt HLT.out)
      clear hlt hc
      go_wp2_with fail
      go_region_held3 (fun w' => w'.cell? ⟨w.heap.size, 0, none⟩ = some (.slice ua un uc) ∧ w'.cell? ⟨w.heap.size, 1, none⟩ = some (.bool bz) ∧ w'.cell? ⟨w.heap.size + 1, 0, none⟩ = some (.slice va vn vc) ∧ w'.cell? ⟨w.heap.size + 1, 1, none⟩ = some (.bool bq))
        (((try dsimp only); refine ⟨?_, ?_, ?_, ?_⟩ <;> (first | exact R1.out _ _ rfl | exact R2.out _ _ rfl | (refine cell_below ‹Below _ _ _› ?_; first | assumption | (simp [*]; done)) | (rw [World.cell?_setCell_far _ _ _ _ (by dsimp only; omega), World.cell?_setCell_far _ _ _ _ (by dsimp only; omega)]; exact cell_below hbel5 (cell_below hbel4 (by first | exact R1.out _ _ rfl | exact R2.out _ _ rfl))) | go_keep)))
        (first | (go_at_call 88; refine (sub_w (HD.out.below HBX.out).drew (HU.out.below HBX.out).drew HLE.out).mono ?_; rintro en w4 ⟨⟨r, rfl, hr, hro⟩, hbel4⟩; obtain ⟨ra, rn, rc, hre⟩ := hr.form; subst hre) | (go_at_call 86; refine (signed_l hr bq).mono ?_; rintro en w5 ⟨rfl, hbel5⟩; have r0 := cell_below hbel5 (cell_below hbel4 (R0.out 0 _ rfl).1); have r1 := cell_below hbel5 (cell_below hbel4 (R0.out 1 _ rfl).1); have f0 := frozen_below hbel5 (by rw [cell_below hbel4 (R0.out 0 _ rfl).1]; rfl) (frozen_below hbel4 (by rw [(R0.out 0 _ rfl).1]; rfl) (R0.out 0 _ rfl).2); have f1 := frozen_below hbel5 (by rw [cell_below hbel4 (R0.out 1 _ rfl).1]; rfl) (frozen_below hbel4 (by rw [(R0.out 1 _ rfl).1]; rfl) (R0.out 1 _ rfl).2)))
      have hR5 : w5.heap[w.heap.size + 2]? = some (.cells #[Value.slice none 0 0, Value.bool false] 60 (0, 0)) := by
        have e1 : w1.drew.heap.size = w.heap.size + 3 := HS.out
        have e2 := hbel4.size
        exact (hbel5.block (w.heap.size + 2) (by omega)).trans ((hbel4.block (w.heap.size + 2) (by omega)).trans R3.out)
      have HR5 := Lib.hid hR5
      have HBW := Lib.hid (below_trans (below_trans HBX.out (below_undrew hbel4)) hbel5)
      have HNV : Hid (NumV w5 (.agg #[Value.slice ra rn rc, Value.bool (bq && !zerB (y.natAbs - z.natAbs))]) (z + y)) := Lib.hid (by
        have h9 := numV_of (hr.below hbel5) (decide (y < 0))
        rw [HY.out]
        rwa [sgn_add_less HE.out HLT.out] at h9)
      have HNE : Hid ((Value.slice ra rn rc).ownBlock ≠ some (w.heap.size + 2)) := Lib.hid (fun e => by have e3 := hro _ e; have e1 : w1.drew.heap.size = w.heap.size + 3 := HS.out; omega)
      clear hR5 r0 r1 f0 f1 hro
      go_wp2_with fail
      have hset := ((Only.refl (w.heap.size + 2) w5).setCell 0 (Value.slice ra rn rc)).setCell 1 (Value.bool (bq && !zerB (y.natAbs - z.natAbs)))
      refine bodyPost_ret (results_cell_row rfl _ _ (w.heap.size + 2) _ _ _ _ rfl (heap_setCell_same _ _ 1 _ _ _ (heap_setCell_same _ _ 0 _ _ _ HR5.out)) Try.underlying60 rfl inum) rfl ⟨⟨_, rfl, ?_⟩, below_only HBW.out hset (by omega)⟩
      obtain ⟨u9, h8, h9⟩ := HNV.out
      simp only [Value.agg.injEq, Array.mk.injEq, List.cons.injEq, and_true, Value.bool.injEq] at h8
      obtain ⟨h7, hb⟩ := h8
      subst h7
      exact ⟨_, by rw [hb]; rfl, h9.only hset HNE.out⟩
    · have hd : decide (c < 0) = false := by simp; omega
      have HLE : Hid (y.natAbs ≤ z.natAbs) := Lib.hid (by
        rw [hc] at hlt; unfold cmpN at hlt
        by_cases h1 : z.natAbs < y.natAbs
        · rw [if_pos h1] at hlt; omega
        · omega)
      clear hlt hc
      go_wp2_with fail
      go_region_held3 (fun w' => w'.cell? ⟨w.heap.size, 0, none⟩ = some (.slice ua un uc) ∧ w'.cell? ⟨w.heap.size, 1, none⟩ = some (.bool bz) ∧ w'.cell? ⟨w.heap.size + 1, 0, none⟩ = some (.slice va vn vc) ∧ w'.cell? ⟨w.heap.size + 1, 1, none⟩ = some (.bool bq))
        (((try dsimp only); refine ⟨?_, ?_, ?_, ?_⟩ <;> (first | exact R1.out _ _ rfl | exact R2.out _ _ rfl | (refine cell_below ‹Below _ _ _› ?_; first | assumption | (simp [*]; done)) | (rw [World.cell?_setCell_far _ _ _ _ (by dsimp only; omega), World.cell?_setCell_far _ _ _ _ (by dsimp only; omega)]; exact cell_below hbel5 (cell_below hbel4 (by first | exact R1.out _ _ rfl | exact R2.out _ _ rfl))) | go_keep)))
        (first | (go_at_call 88; refine (sub_w (HU.out.below HBX.out).drew (HD.out.below HBX.out).drew HLE.out).mono ?_; rintro en w4 ⟨⟨r, rfl, hr, hro⟩, hbel4⟩; obtain ⟨ra, rn, rc, hre⟩ := hr.form; subst hre) | (go_at_call 86; refine (signed_l hr bz).mono ?_; rintro en w5 ⟨rfl, hbel5⟩; have r0 := cell_below hbel5 (cell_below hbel4 (R0.out 0 _ rfl).1); have r1 := cell_below hbel5 (cell_below hbel4 (R0.out 1 _ rfl).1); have f0 := frozen_below hbel5 (by rw [cell_below hbel4 (R0.out 0 _ rfl).1]; rfl) (frozen_below hbel4 (by rw [(R0.out 0 _ rfl).1]; rfl) (R0.out 0 _ rfl).2); have f1 := frozen_below hbel5 (by rw [cell_below hbel4 (R0.out 1 _ rfl).1]; rfl) (frozen_below hbel4 (by rw [(R0.out 1 _ rfl).1]; rfl) (R0.out 1 _ rfl).2)))
      have hR5 : w5.heap[w.heap.size + 2]? = some (.cells #[Value.slice none 0 0, Value.bool false] 60 (0, 0)) := by
        have e1 : w1.drew.heap.size = w.heap.size + 3 := HS.out
        have e2 := hbel4.size
        exact (hbel5.block (w.heap.size + 2) (by omega)).trans ((hbel4.block (w.heap.size + 2) (by omega)).trans R3.out)
      have HR5 := Lib.hid hR5
      have HBW := Lib.hid (below_trans (below_trans HBX.out (below_undrew hbel4)) hbel5)
      have HNV : Hid (NumV w5 (.agg #[Value.slice ra rn rc, Value.bool (bz && !zerB (z.natAbs - y.natAbs))]) (z + y)) := Lib.hid (by
        have h9 := numV_of (hr.below hbel5) (decide (z < 0))
        rw [HZ.out]
        rwa [sgn_add_more HE.out HLE.out] at h9)
      have HNE : Hid ((Value.slice ra rn rc).ownBlock ≠ some (w.heap.size + 2)) := Lib.hid (fun e => by have e3 := hro _ e; have e1 : w1.drew.heap.size = w.heap.size + 3 := HS.out; omega)
      clear hR5 r0 r1 f0 f1 hro
      go_wp2_with fail
      have hset := ((Only.refl (w.heap.size + 2) w5).setCell 0 (Value.slice ra rn rc)).setCell 1 (Value.bool (bz && !zerB (z.natAbs - y.natAbs)))
      refine bodyPost_ret (results_cell_row rfl _ _ (w.heap.size + 2) _ _ _ _ rfl (heap_setCell_same _ _ 1 _ _ _ (heap_setCell_same _ _ 0 _ _ _ HR5.out)) Try.underlying60 rfl inum) rfl ⟨⟨_, rfl, ?_⟩, below_only HBW.out hset (by omega)⟩
      obtain ⟨u9, h8, h9⟩ := HNV.out
      simp only [Value.agg.injEq, Array.mk.injEq, List.cons.injEq, and_true, Value.bool.injEq] at h8
      obtain ⟨h7, hb⟩ := h8
      subst h7
      exact ⟨_, by rw [hb]; rfl, h9.only hset HNE.out⟩
end Go.Proofs.Ytlaphdlocchagaa

/- Ratios: what a value means, and whether it fits. -/
namespace Go.Proofs.Ytlaphdlocchagaa
open Go.RowKit

/-- The value v is the ratio z / y, not yet said to be in lowest terms. -/
def RatV (w : World) (v : Value) (z : Int) (y : Nat) : Prop := ∃ u d, v = .agg #[u, .bool (decide (z < 0)), d] ∧ IsW w u (digs z.natAbs) ∧ IsW w d (digs y)
theorem RatV.below {w w' : World} {v : Value} {z : Int} {y : Nat} (h : RatV w v z y) (hb : Below w.heap.size w w') : RatV w' v z y := by
  obtain ⟨n, d, rfl, hn, hd⟩ := h
  exact ⟨n, d, rfl, hn.below hb, hd.below hb⟩

set_option maxHeartbeats 400000 in
set_option maxRecDepth 4000 in
theorem fits_w {w : World} {v : Value} {z : Int} {y : Nat} (hv : RatV w v z y) (hz : (digs z.natAbs).length < 1073741824) (hy : (digs y).length < 1073741824) :
    Calls Try.prog 42 #[v] w fun e w' => e = .returned (.bool (decide ((digs z.natAbs).length + (digs y).length ≤ 4096))) ∧ Below w.heap.size w w' := by
  obtain ⟨u, d, rfl, hu, hd⟩ := hv
  obtain ⟨un, hun⟩ : ∃ un, un = (digs z.natAbs).length := ⟨_, rfl⟩
  obtain ⟨dn, hdn⟩ : ∃ dn, dn = (digs y).length := ⟨_, rfl⟩
  obtain ⟨ua, uc, hue, -⟩ := hu
  obtain ⟨da, dc, hde, -⟩ := hd
  rw [← hun] at hue hz
  rw [← hdn] at hde hy
  rw [← hun, ← hdn]
  subst hue hde
  have HZ := Lib.hid hz
  have HY := Lib.hid hy
  clear hun hdn hz hy
  have hB0 : Hid (∀ o, Below w.heap.size w (w.alloc o)) := Lib.hid (fun o => (Below.refl _ _).alloc (Nat.le_refl _) o)
  have HW : Hid (wrap64 ((un : Int) + (dn : Int)) = (un : Int) + (dn : Int)) := Lib.hid (by unfold wrap64; have := HZ.out; have := HY.out; omega)
  obtain ⟨M, hM⟩ : ∃ M : Nat, M = 4096 := ⟨_, rfl⟩
  rw [← hM]
  have HM := Lib.hid hM
  clear hM
  go_enter Try.func42, Try.ntmps42
  go_wp2_with fail
  go_ret
  refine ⟨?_, hB0.out _⟩
  show Ending.returned (Value.bool (decide (wrap64 ((un : Int) + (dn : Int)) ≤ 4096))) = _
  have h1 := HW.out
  have h2 := HM.out
  rw [h1]
  congr 2
  exact decide_eq_decide.mpr (by omega)

set_option maxHeartbeats 400000 in
theorem one_w {w : World} :
    Calls Try.prog 60 #[] w fun e w' => (∃ r, e = .returned r ∧ IsW w' r (digs 1) ∧ (∀ b, r.ownBlock = some b → w.heap.size ≤ b)) ∧ Below w.heap.size w w' := by
  go_enter Try.func60, Try.ntmps60
  go_wp2_with fail
  have hB : Blk (w.alloc (Obj.cells #[Value.int IntKind.u32 1] 53)) w.heap.size 53 [1] := by
    show (w.heap.push _)[w.heap.size]? = _
    simp [U]
  have h1 : digs 1 = [1] := by unfold digs; simp [digs]
  have hI := hB.isW_all (by intro x hx; simp at hx; omega) 1 (by simp) (by simp)
  go_ret
  refine ⟨⟨_, rfl, h1 ▸ hI, fun x hx => ?_⟩, (Below.refl _ _).alloc (Nat.le_refl _) _⟩
  simp [Value.ownBlock] at hx
  omega
end Go.Proofs.Ytlaphdlocchagaa

/- Ratios: nought. -/
namespace Go.Proofs.Ytlaphdlocchagaa
open Go.RowKit

theorem irat : (Try.prog.info? 62).map (·.size) = some 3 := by kernel_rfl
theorem isW_nil0 (w : World) : IsW w (.slice none 0 0) (digs (0 : Int).natAbs) := by
  have h : digs (0 : Int).natAbs = [] := by show digs 0 = []; unfold digs; simp
  rw [h]
  exact ⟨none, 0, rfl, by simp, by simp, by intro x hx; simp at hx, by simp [Cells], by simp⟩

set_option maxHeartbeats 1000000 in
theorem zero_w {w : World} :
    Calls Try.prog 43 #[] w fun e w' => (∃ r, e = .returned r ∧ RatV w' r 0 1) ∧ Below w.heap.size w w' := by
  have HB0 : Hid (Below w.heap.size w (w.alloc (Obj.cells #[Value.slice none 0 0, Value.bool false, Value.slice none 0 0] 62))) := Lib.hid ((Below.refl _ _).alloc (Nat.le_refl _) _)
  go_enter Try.func43, Try.ntmps43
  go_wp2_with fail
  refine one_w.mono ?_
  rintro en w5 ⟨⟨r, rfl, hr, hro⟩, hbel5⟩
  obtain ⟨ra, rn, rc, hre⟩ := hr.form
  subst hre
  have hR5 : w5.heap[w.heap.size]? = some (.cells #[Value.slice none 0 0, Value.bool false, Value.slice none 0 0] 62 (0, 0)) := by
    rw [hbel5.block _ (by simp)]
    exact heap_alloc_new w _
  have r0 : w5.cell? ⟨w.heap.size, 0, none⟩ = some (Value.slice none 0 0) := by rw [cell_of_row _ _ _ _ _ _ hR5]; rfl
  have r1 : w5.cell? ⟨w.heap.size, 1, none⟩ = some (Value.bool false) := by rw [cell_of_row _ _ _ _ _ _ hR5]; rfl
  have r2 : w5.cell? ⟨w.heap.size, 2, none⟩ = some (Value.slice none 0 0) := by rw [cell_of_row _ _ _ _ _ _ hR5]; rfl
  have f0 := frozen_of_row _ _ 0 _ _ hR5
  have f1 := frozen_of_row _ _ 1 _ _ hR5
  have f2 := frozen_of_row _ _ 2 _ _ hR5
  have HR5 := Lib.hid hR5
  have HR := Lib.hid hr
  have HBW := Lib.hid (below_trans HB0.out hbel5)
  have HNE : Hid ((Value.slice ra rn rc).ownBlock ≠ some w.heap.size) := Lib.hid (fun e => by have := hro _ e; simp at this; omega)
  clear hR5 hr hro
  go_wp2_with fail
  have hset := (((Only.refl w.heap.size w5).setCell 0 (Value.slice none 0 0)).setCell 1 (Value.bool false)).setCell 2 (Value.slice ra rn rc)
  refine bodyPost_ret (results_cell_row rfl _ _ w.heap.size _ _ _ _ rfl (heap_setCell_same _ _ 2 _ _ _ (heap_setCell_same _ _ 1 _ _ _ (heap_setCell_same _ _ 0 _ _ _ HR5.out))) Try.underlying62 rfl irat) rfl ⟨⟨_, rfl, ?_⟩, below_only HBW.out hset (by omega)⟩
  exact ⟨Value.slice none 0 0, Value.slice ra rn rc, rfl, isW_nil0 _, HR.out.only hset HNE.out⟩
end Go.Proofs.Ytlaphdlocchagaa

/- A struct's own block never holds the words of a slice: so a store into it leaves every slice of words. -/
namespace Go.Proofs.Ytlaphdlocchagaa
open Go.RowKit

theorem rc_empty : True := trivial
end Go.Proofs.Ytlaphdlocchagaa
