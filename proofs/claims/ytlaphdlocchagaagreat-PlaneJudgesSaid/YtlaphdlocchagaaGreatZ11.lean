/- Several texts in one: Wy, Ra, Rb, Rc, Q. -/
import Derived.Test.YtlaphdlocchagaaGreatZ10
/- Numbers with a sign: sums. -/
namespace Go.Proofs.YtlaphdlocchagaaGreat
open Go.RowKit

theorem sgn_add_same {z y : Int} (h : decide (z < 0) = decide (y < 0)) : (if decide (z < 0) = true then -((z.natAbs + y.natAbs : Nat) : Int) else ((z.natAbs + y.natAbs : Nat) : Int)) = z + y := by
  rcases Int.lt_or_le z 0 with hz | hz <;> rcases Int.lt_or_le y 0 with hy | hy
  · simp only [hz, decide_true, if_true]; omega
  · simp [hz, Int.not_lt.mpr hy] at h
  · simp [hy, Int.not_lt.mpr hz] at h
  · simp only [Int.not_lt.mpr hz, decide_false]; simp; omega
theorem sgn_add_less {z y : Int} (h : decide (z < 0) ≠ decide (y < 0)) (hl : z.natAbs < y.natAbs) : (if decide (y < 0) = true then -((y.natAbs - z.natAbs : Nat) : Int) else ((y.natAbs - z.natAbs : Nat) : Int)) = z + y := by
  rcases Int.lt_or_le z 0 with hz | hz <;> rcases Int.lt_or_le y 0 with hy | hy
  · simp [hz, hy] at h
  · simp only [Int.not_lt.mpr hy, decide_false]; simp; omega
  · simp only [hy, decide_true, if_true]; omega
  · simp [Int.not_lt.mpr hz, Int.not_lt.mpr hy] at h
theorem sgn_add_more {z y : Int} (h : decide (z < 0) ≠ decide (y < 0)) (hl : y.natAbs ≤ z.natAbs) : (if decide (z < 0) = true then -((z.natAbs - y.natAbs : Nat) : Int) else ((z.natAbs - y.natAbs : Nat) : Int)) = z + y := by
  have h' := h
  rcases Int.lt_or_le z 0 with hz | hz <;> rcases Int.lt_or_le y 0 with hy | hy
  · simp [hz, hy] at h
  · simp only [hz, decide_true, if_true]; omega
  · simp only [Int.not_lt.mpr hz, decide_false]; simp; omega
  · simp [Int.not_lt.mpr hz, Int.not_lt.mpr hy] at h

set_option maxHeartbeats 2000000 in
theorem plus_w {w : World} {v d : Value} {z y : Int} (hv : NumV w v z) (hd : NumV w d y) (hlen : (digs z.natAbs).length < 1073741824) (hlen2 : (digs y.natAbs).length < 1073741824) :
    Calls Tryz.prog 158 #[v, d] w fun e w' => (∃ r, e = .returned r ∧ NumV w' r (z + y)) ∧ Below w.heap.size w w' := by
  obtain ⟨u, rfl, hu⟩ := hv
  obtain ⟨u2, rfl, hu2⟩ := hd
  have HU := Lib.hid hu
  have HD := Lib.hid hu2
  have HL := Lib.hid hlen
  have HM := Lib.hid hlen2
  obtain ⟨ua, uc, hue, -⟩ := hu
  obtain ⟨un, hun⟩ : ∃ un, un = (digs z.natAbs).length := ⟨_, rfl⟩
  rw [← hun] at hue
  subst hue
  obtain ⟨va, vc, hve, -⟩ := hu2
  obtain ⟨vn, hvn⟩ : ∃ vn, vn = (digs y.natAbs).length := ⟨_, rfl⟩
  rw [← hvn] at hve
  subst hve
  clear hlen hlen2 hun hvn
  obtain ⟨bz, hbz⟩ : ∃ b, b = decide (z < 0) := ⟨_, rfl⟩
  obtain ⟨bq, hbq⟩ : ∃ b, b = decide (y < 0) := ⟨_, rfl⟩
  rw [← hbz, ← hbq]
  have HZ := Lib.hid hbz
  have HY := Lib.hid hbq
  clear hbz hbq
  have HB0 : Hid (Below w.heap.size w (((w.alloc (Obj.cells #[Value.slice ua un uc, Value.bool bz] 91)).alloc (Obj.cells #[Value.slice va vn vc, Value.bool bq] 91)).alloc (Obj.cells #[Value.slice none 0 0, Value.bool false] 91))) :=
    Lib.hid ((((Below.refl _ _).alloc (Nat.le_refl _) _).alloc (by simp) _).alloc (by simp; omega) _)
  by_cases hE : bz = bq
  · subst hE
    have HE : Hid (decide (z < 0) = decide (y < 0)) := Lib.hid (by rw [← HZ.out, ← HY.out])
    have hbb : (bz == bz) = true := by simp
    go_enter Tryz.func158, Tryz.ntmps158
    go_wp2_with fail
    obtain ⟨w1, hw1⟩ : ∃ w1, w1 = (((w.alloc (Obj.cells #[Value.slice ua un uc, Value.bool bz] 91)).alloc (Obj.cells #[Value.slice va vn vc, Value.bool bz] 91)).alloc (Obj.cells #[Value.slice none 0 0, Value.bool false] 91)) := ⟨_, rfl⟩
    rw [← hw1]
    have HBX : Hid (Below w.heap.size w w1) := Lib.hid (by rw [hw1]; exact HB0.out)
    have HS : Hid (w1.heap.size = w.heap.size + 3) := Lib.hid (by rw [hw1]; simp)
    have R3 : Hid (w1.heap[w.heap.size + 2]? = some (.cells #[Value.slice none 0 0, Value.bool false] 91 (0, 0))) := Lib.hid (by rw [hw1]; exact alloc3_new w _ _ _)
    have R1 : Hid (∀ o v, (#[Value.slice ua un uc, Value.bool bz] : Array Value)[o]? = some v → w1.drew.cell? ⟨w.heap.size, o, none⟩ = some v) :=
      Lib.hid (fun o v h => by
        rw [World.cell?_drew, hw1, cell_of_row _ _ _ _ _ _ (alloc3_0 w _ _ _)]; exact h)
    have R2 : Hid (∀ o v, (#[Value.slice va vn vc, Value.bool bz] : Array Value)[o]? = some v → w1.drew.cell? ⟨w.heap.size + 1, o, none⟩ = some v) :=
      Lib.hid (fun o v h => by
        rw [World.cell?_drew, hw1, cell_of_row _ _ _ _ _ _ (alloc3_1 w _ _ _)]; exact h)
    have R0 : Hid (∀ o v, (#[Value.slice none 0 0, Value.bool false] : Array Value)[o]? = some v → w1.drew.cell? ⟨w.heap.size + 2, o, none⟩ = some v ∧ w1.drew.frozen? ⟨w.heap.size + 2, o, none⟩ = false) :=
      Lib.hid (fun o v h => by
        exact ⟨by rw [World.cell?_drew, cell_of_row _ _ _ _ _ _ R3.out]; exact h, by rw [World.frozen?_drew, frozen_of_row _ _ _ _ _ R3.out]⟩)
    clear hw1

    go_region_held3 (fun w' => w'.cell? ⟨w.heap.size, 0, none⟩ = some (.slice ua un uc) ∧ w'.cell? ⟨w.heap.size, 1, none⟩ = some (.bool bz) ∧ w'.cell? ⟨w.heap.size + 1, 0, none⟩ = some (.slice va vn vc) ∧ w'.cell? ⟨w.heap.size + 1, 1, none⟩ = some (.bool bz))
      (((try dsimp only); refine ⟨?_, ?_, ?_, ?_⟩ <;> (first | exact R1.out _ _ rfl | exact R2.out _ _ rfl | (refine cell_below ‹Below _ _ _› ?_; first | assumption | (simp [*]; done)) | (rw [World.cell?_setCell_far _ _ _ _ (by dsimp only; omega), World.cell?_setCell_far _ _ _ _ (by dsimp only; omega)]; exact cell_below hbel5 (cell_below hbel4 (by first | exact R1.out _ _ rfl | exact R2.out _ _ rfl))) | go_keep)))
      (first | (go_at_call 155; refine (add_w (HU.out.below HBX.out).drew (HD.out.below HBX.out).drew HL.out HM.out).mono ?_; rintro en w4 ⟨⟨r, rfl, hr, hro⟩, hbel4⟩; obtain ⟨ra, rn, rc, hre⟩ := hr.form; subst hre) | (go_at_call 141; refine (signed_l hr bz).mono ?_; rintro en w5 ⟨rfl, hbel5⟩; have r0 := cell_below hbel5 (cell_below hbel4 (R0.out 0 _ rfl).1); have r1 := cell_below hbel5 (cell_below hbel4 (R0.out 1 _ rfl).1); have f0 := frozen_below hbel5 (by rw [cell_below hbel4 (R0.out 0 _ rfl).1]; rfl) (frozen_below hbel4 (by rw [(R0.out 0 _ rfl).1]; rfl) (R0.out 0 _ rfl).2); have f1 := frozen_below hbel5 (by rw [cell_below hbel4 (R0.out 1 _ rfl).1]; rfl) (frozen_below hbel4 (by rw [(R0.out 1 _ rfl).1]; rfl) (R0.out 1 _ rfl).2)))
    have hR5 : w5.heap[w.heap.size + 2]? = some (.cells #[Value.slice none 0 0, Value.bool false] 91 (0, 0)) := by
      have e1 : w1.drew.heap.size = w.heap.size + 3 := HS.out
      have e2 := hbel4.size
      exact (hbel5.block (w.heap.size + 2) (by omega)).trans ((hbel4.block (w.heap.size + 2) (by omega)).trans R3.out)
    have HR5 := Lib.hid hR5
    have HBW := Lib.hid (below_trans (below_trans HBX.out (below_undrew hbel4)) hbel5)
    have HNV : Hid (NumV w5 (.agg #[Value.slice ra rn rc, Value.bool (bz && !zerB (z.natAbs + y.natAbs))]) (z + y)) := Lib.hid (by
      have h9 := numV_of (hr.below hbel5) (decide (z < 0))
      rw [HZ.out]
      rwa [sgn_add_same HE.out] at h9)
    have HNE : Hid ((Value.slice ra rn rc).ownBlock ≠ some (w.heap.size + 2)) := Lib.hid (fun e => by have e3 := hro _ e; have e1 : w1.drew.heap.size = w.heap.size + 3 := HS.out; omega)
    clear hR5 r0 r1 f0 f1 hro
    go_wp2_with fail
    have hset := ((Only.refl (w.heap.size + 2) w5).setCell 0 (Value.slice ra rn rc)).setCell 1 (Value.bool (bz && !zerB (z.natAbs + y.natAbs)))
    refine bodyPost_ret (results_cell_row rfl _ _ (w.heap.size + 2) _ _ _ _ rfl (heap_setCell_same _ _ 1 _ _ _ (heap_setCell_same _ _ 0 _ _ _ HR5.out)) Tryz.underlying91 rfl inum) rfl ⟨⟨_, rfl, ?_⟩, below_only HBW.out hset (by omega)⟩
    obtain ⟨u9, h8, h9⟩ := HNV.out
    simp only [Value.agg.injEq, Array.mk.injEq, List.cons.injEq, and_true, Value.bool.injEq] at h8
    obtain ⟨h7, hb⟩ := h8
    subst h7
    exact ⟨_, by rw [hb]; rfl, h9.only hset HNE.out⟩

  · have hbb : (bz == bq) = false := by simp [hE]
    have HE : Hid (decide (z < 0) ≠ decide (y < 0)) := Lib.hid (by rw [← HZ.out, ← HY.out]; exact hE)
    clear hE
    have HS0 : Hid ((((w.alloc (Obj.cells #[Value.slice ua un uc, Value.bool bz] 91)).alloc (Obj.cells #[Value.slice va vn vc, Value.bool bq] 91)).alloc (Obj.cells #[Value.slice none 0 0, Value.bool false] 91)).heap.size = w.heap.size + 3) := Lib.hid (by simp)
    go_enter Tryz.func158, Tryz.ntmps158
    go_wp2_with fail
    refine (compare_d (HU.out.below HB0.out) (HD.out.below HB0.out)).mono ?_
    rintro en w1 ⟨rfl, n, hw1⟩
    obtain ⟨c, hc⟩ : ∃ c, c = cmpN z.natAbs y.natAbs := ⟨_, rfl⟩
    rw [← hc]
    have HBX : Hid (Below w.heap.size w w1) := Lib.hid (by rw [hw1]; exact below_drewN HB0.out n)
    have HS : Hid (w1.heap.size = w.heap.size + 3) := Lib.hid (by rw [hw1]; exact HS0.out)
    have R3 : Hid (w1.heap[w.heap.size + 2]? = some (.cells #[Value.slice none 0 0, Value.bool false] 91 (0, 0))) := Lib.hid (by rw [hw1]; exact alloc3_new w _ _ _)
    have R1 : Hid (∀ o v, (#[Value.slice ua un uc, Value.bool bz] : Array Value)[o]? = some v → w1.drew.cell? ⟨w.heap.size, o, none⟩ = some v) :=
      Lib.hid (fun o v h => by
        rw [World.cell?_drew, hw1]; refine (cell_of_row _ _ _ _ _ _ (alloc3_0 w _ _ _)).trans ?_; exact h)
    have R2 : Hid (∀ o v, (#[Value.slice va vn vc, Value.bool bq] : Array Value)[o]? = some v → w1.drew.cell? ⟨w.heap.size + 1, o, none⟩ = some v) :=
      Lib.hid (fun o v h => by
        rw [World.cell?_drew, hw1]; refine (cell_of_row _ _ _ _ _ _ (alloc3_1 w _ _ _)).trans ?_; exact h)
    have R0 : Hid (∀ o v, (#[Value.slice none 0 0, Value.bool false] : Array Value)[o]? = some v → w1.drew.cell? ⟨w.heap.size + 2, o, none⟩ = some v ∧ w1.drew.frozen? ⟨w.heap.size + 2, o, none⟩ = false) :=
      Lib.hid (fun o v h => by
        exact ⟨by rw [World.cell?_drew, cell_of_row _ _ _ _ _ _ R3.out]; exact h, by rw [World.frozen?_drew, frozen_of_row _ _ _ _ _ R3.out]⟩)
    clear hw1

    by_cases hlt : c < 0
    · have hd : decide (c < 0) = true := by simp [hlt]
      have HLT : Hid (z.natAbs < y.natAbs) := Lib.hid (by
        rw [hc] at hlt; unfold cmpN at hlt
        by_cases h1 : z.natAbs < y.natAbs
        · exact h1
        · rw [if_neg h1] at hlt; split at hlt <;> omega)
      have HLE : Hid (z.natAbs ≤ y.natAbs) := Lib.hid (Nat.le_of_lt HLT.out)
      clear hlt hc
      go_wp2_with fail
      go_region_held3 (fun w' => w'.cell? ⟨w.heap.size, 0, none⟩ = some (.slice ua un uc) ∧ w'.cell? ⟨w.heap.size, 1, none⟩ = some (.bool bz) ∧ w'.cell? ⟨w.heap.size + 1, 0, none⟩ = some (.slice va vn vc) ∧ w'.cell? ⟨w.heap.size + 1, 1, none⟩ = some (.bool bq))
        (((try dsimp only); refine ⟨?_, ?_, ?_, ?_⟩ <;> (first | exact R1.out _ _ rfl | exact R2.out _ _ rfl | (refine cell_below ‹Below _ _ _› ?_; first | assumption | (simp [*]; done)) | (rw [World.cell?_setCell_far _ _ _ _ (by dsimp only; omega), World.cell?_setCell_far _ _ _ _ (by dsimp only; omega)]; exact cell_below hbel5 (cell_below hbel4 (by first | exact R1.out _ _ rfl | exact R2.out _ _ rfl))) | go_keep)))
        (first | (go_at_call 156; refine (sub_w (HD.out.below HBX.out).drew (HU.out.below HBX.out).drew HLE.out).mono ?_; rintro en w4 ⟨⟨r, rfl, hr, hro⟩, hbel4⟩; obtain ⟨ra, rn, rc, hre⟩ := hr.form; subst hre) | (go_at_call 141; refine (signed_l hr bq).mono ?_; rintro en w5 ⟨rfl, hbel5⟩; have r0 := cell_below hbel5 (cell_below hbel4 (R0.out 0 _ rfl).1); have r1 := cell_below hbel5 (cell_below hbel4 (R0.out 1 _ rfl).1); have f0 := frozen_below hbel5 (by rw [cell_below hbel4 (R0.out 0 _ rfl).1]; rfl) (frozen_below hbel4 (by rw [(R0.out 0 _ rfl).1]; rfl) (R0.out 0 _ rfl).2); have f1 := frozen_below hbel5 (by rw [cell_below hbel4 (R0.out 1 _ rfl).1]; rfl) (frozen_below hbel4 (by rw [(R0.out 1 _ rfl).1]; rfl) (R0.out 1 _ rfl).2)))
      have hR5 : w5.heap[w.heap.size + 2]? = some (.cells #[Value.slice none 0 0, Value.bool false] 91 (0, 0)) := by
        have e1 : w1.drew.heap.size = w.heap.size + 3 := HS.out
        have e2 := hbel4.size
        exact (hbel5.block (w.heap.size + 2) (by omega)).trans ((hbel4.block (w.heap.size + 2) (by omega)).trans R3.out)
      have HR5 := Lib.hid hR5
      have HBW := Lib.hid (below_trans (below_trans HBX.out (below_undrew hbel4)) hbel5)
      have HNV : Hid (NumV w5 (.agg #[Value.slice ra rn rc, Value.bool (bq && !zerB (y.natAbs - z.natAbs))]) (z + y)) := Lib.hid (by
        have h9 := numV_of (hr.below hbel5) (decide (y < 0))
        rw [HY.out]
        rwa [sgn_add_less HE.out HLT.out] at h9)
      have HNE : Hid ((Value.slice ra rn rc).ownBlock ≠ some (w.heap.size + 2)) := Lib.hid (fun e => by have e3 := hro _ e; have e1 : w1.drew.heap.size = w.heap.size + 3 := HS.out; omega)
      clear hR5 r0 r1 f0 f1 hro
      go_wp2_with fail
      have hset := ((Only.refl (w.heap.size + 2) w5).setCell 0 (Value.slice ra rn rc)).setCell 1 (Value.bool (bq && !zerB (y.natAbs - z.natAbs)))
      refine bodyPost_ret (results_cell_row rfl _ _ (w.heap.size + 2) _ _ _ _ rfl (heap_setCell_same _ _ 1 _ _ _ (heap_setCell_same _ _ 0 _ _ _ HR5.out)) Tryz.underlying91 rfl inum) rfl ⟨⟨_, rfl, ?_⟩, below_only HBW.out hset (by omega)⟩
      obtain ⟨u9, h8, h9⟩ := HNV.out
      simp only [Value.agg.injEq, Array.mk.injEq, List.cons.injEq, and_true, Value.bool.injEq] at h8
      obtain ⟨h7, hb⟩ := h8
      subst h7
      exact ⟨_, by rw [hb]; rfl, h9.only hset HNE.out⟩
    · have hd : decide (c < 0) = false := by simp; omega
      have HLE : Hid (y.natAbs ≤ z.natAbs) := Lib.hid (by
        rw [hc] at hlt; unfold cmpN at hlt
        by_cases h1 : z.natAbs < y.natAbs
        · rw [if_pos h1] at hlt; omega
        · omega)
      clear hlt hc
      go_wp2_with fail
      go_region_held3 (fun w' => w'.cell? ⟨w.heap.size, 0, none⟩ = some (.slice ua un uc) ∧ w'.cell? ⟨w.heap.size, 1, none⟩ = some (.bool bz) ∧ w'.cell? ⟨w.heap.size + 1, 0, none⟩ = some (.slice va vn vc) ∧ w'.cell? ⟨w.heap.size + 1, 1, none⟩ = some (.bool bq))
        (((try dsimp only); refine ⟨?_, ?_, ?_, ?_⟩ <;> (first | exact R1.out _ _ rfl | exact R2.out _ _ rfl | (refine cell_below ‹Below _ _ _› ?_; first | assumption | (simp [*]; done)) | (rw [World.cell?_setCell_far _ _ _ _ (by dsimp only; omega), World.cell?_setCell_far _ _ _ _ (by dsimp only; omega)]; exact cell_below hbel5 (cell_below hbel4 (by first | exact R1.out _ _ rfl | exact R2.out _ _ rfl))) | go_keep)))
        (first | (go_at_call 156; refine (sub_w (HU.out.below HBX.out).drew (HD.out.below HBX.out).drew HLE.out).mono ?_; rintro en w4 ⟨⟨r, rfl, hr, hro⟩, hbel4⟩; obtain ⟨ra, rn, rc, hre⟩ := hr.form; subst hre) | (go_at_call 141; refine (signed_l hr bz).mono ?_; rintro en w5 ⟨rfl, hbel5⟩; have r0 := cell_below hbel5 (cell_below hbel4 (R0.out 0 _ rfl).1); have r1 := cell_below hbel5 (cell_below hbel4 (R0.out 1 _ rfl).1); have f0 := frozen_below hbel5 (by rw [cell_below hbel4 (R0.out 0 _ rfl).1]; rfl) (frozen_below hbel4 (by rw [(R0.out 0 _ rfl).1]; rfl) (R0.out 0 _ rfl).2); have f1 := frozen_below hbel5 (by rw [cell_below hbel4 (R0.out 1 _ rfl).1]; rfl) (frozen_below hbel4 (by rw [(R0.out 1 _ rfl).1]; rfl) (R0.out 1 _ rfl).2)))
      have hR5 : w5.heap[w.heap.size + 2]? = some (.cells #[Value.slice none 0 0, Value.bool false] 91 (0, 0)) := by
        have e1 : w1.drew.heap.size = w.heap.size + 3 := HS.out
        have e2 := hbel4.size
        exact (hbel5.block (w.heap.size + 2) (by omega)).trans ((hbel4.block (w.heap.size + 2) (by omega)).trans R3.out)
      have HR5 := Lib.hid hR5
      have HBW := Lib.hid (below_trans (below_trans HBX.out (below_undrew hbel4)) hbel5)
      have HNV : Hid (NumV w5 (.agg #[Value.slice ra rn rc, Value.bool (bz && !zerB (z.natAbs - y.natAbs))]) (z + y)) := Lib.hid (by
        have h9 := numV_of (hr.below hbel5) (decide (z < 0))
        rw [HZ.out]
        rwa [sgn_add_more HE.out HLE.out] at h9)
      have HNE : Hid ((Value.slice ra rn rc).ownBlock ≠ some (w.heap.size + 2)) := Lib.hid (fun e => by have e3 := hro _ e; have e1 : w1.drew.heap.size = w.heap.size + 3 := HS.out; omega)
      clear hR5 r0 r1 f0 f1 hro
      go_wp2_with fail
      have hset := ((Only.refl (w.heap.size + 2) w5).setCell 0 (Value.slice ra rn rc)).setCell 1 (Value.bool (bz && !zerB (z.natAbs - y.natAbs)))
      refine bodyPost_ret (results_cell_row rfl _ _ (w.heap.size + 2) _ _ _ _ rfl (heap_setCell_same _ _ 1 _ _ _ (heap_setCell_same _ _ 0 _ _ _ HR5.out)) Tryz.underlying91 rfl inum) rfl ⟨⟨_, rfl, ?_⟩, below_only HBW.out hset (by omega)⟩
      obtain ⟨u9, h8, h9⟩ := HNV.out
      simp only [Value.agg.injEq, Array.mk.injEq, List.cons.injEq, and_true, Value.bool.injEq] at h8
      obtain ⟨h7, hb⟩ := h8
      subst h7
      exact ⟨_, by rw [hb]; rfl, h9.only hset HNE.out⟩
end Go.Proofs.YtlaphdlocchagaaGreat

/- Ratios: what a value means, and whether it fits. -/
namespace Go.Proofs.YtlaphdlocchagaaGreat
open Go.RowKit

/-- The value v is the ratio z / y, not yet said to be in lowest terms. -/
def RatV (w : World) (v : Value) (z : Int) (y : Nat) : Prop := ∃ u d, v = .agg #[u, .bool (decide (z < 0)), d] ∧ IsW w u (digs z.natAbs) ∧ IsW w d (digs y)
theorem RatV.below {w w' : World} {v : Value} {z : Int} {y : Nat} (h : RatV w v z y) (hb : Below w.heap.size w w') : RatV w' v z y := by
  obtain ⟨n, d, rfl, hn, hd⟩ := h
  exact ⟨n, d, rfl, hn.below hb, hd.below hb⟩

set_option maxHeartbeats 400000 in
set_option maxRecDepth 4000 in
theorem fits_w {w : World} {v : Value} {z : Int} {y : Nat} (hv : RatV w v z y) (hz : (digs z.natAbs).length < 1073741824) (hy : (digs y).length < 1073741824) :
    Calls Tryz.prog 118 #[v] w fun e w' => e = .returned (.bool (decide ((digs z.natAbs).length + (digs y).length ≤ 4096))) ∧ Below w.heap.size w w' := by
  obtain ⟨u, d, rfl, hu, hd⟩ := hv
  obtain ⟨un, hun⟩ : ∃ un, un = (digs z.natAbs).length := ⟨_, rfl⟩
  obtain ⟨dn, hdn⟩ : ∃ dn, dn = (digs y).length := ⟨_, rfl⟩
  obtain ⟨ua, uc, hue, -⟩ := hu
  obtain ⟨da, dc, hde, -⟩ := hd
  rw [← hun] at hue hz
  rw [← hdn] at hde hy
  rw [← hun, ← hdn]
  subst hue hde
  have HZ := Lib.hid hz
  have HY := Lib.hid hy
  clear hun hdn hz hy
  have hB0 : Hid (∀ o, Below w.heap.size w (w.alloc o)) := Lib.hid (fun o => (Below.refl _ _).alloc (Nat.le_refl _) o)
  have HW : Hid (wrap64 ((un : Int) + (dn : Int)) = (un : Int) + (dn : Int)) := Lib.hid (by unfold wrap64; have := HZ.out; have := HY.out; omega)
  obtain ⟨M, hM⟩ : ∃ M : Nat, M = 4096 := ⟨_, rfl⟩
  rw [← hM]
  have HM := Lib.hid hM
  clear hM
  go_enter Tryz.func118, Tryz.ntmps118
  go_wp2_with fail
  go_ret
  refine ⟨?_, hB0.out _⟩
  show Ending.returned (Value.bool (decide (wrap64 ((un : Int) + (dn : Int)) ≤ 4096))) = _
  have h1 := HW.out
  have h2 := HM.out
  rw [h1]
  congr 2
  exact decide_eq_decide.mpr (by omega)

set_option maxHeartbeats 400000 in
theorem one_w {w : World} :
    Calls Tryz.prog 128 #[] w fun e w' => (∃ r, e = .returned r ∧ IsW w' r (digs 1) ∧ (∀ b, r.ownBlock = some b → w.heap.size ≤ b)) ∧ Below w.heap.size w w' := by
  go_enter Tryz.func128, Tryz.ntmps128
  go_wp2_with fail
  have hB : Blk (w.alloc (Obj.cells #[Value.int IntKind.u32 1] 124)) w.heap.size 124 [1] := by
    show (w.heap.push _)[w.heap.size]? = _
    simp [U]
  have h1 : digs 1 = [1] := by unfold digs; simp [digs]
  have hI := hB.isW_all (by intro x hx; simp at hx; omega) 1 (by simp) (by simp)
  go_ret
  refine ⟨⟨_, rfl, h1 ▸ hI, fun x hx => ?_⟩, (Below.refl _ _).alloc (Nat.le_refl _) _⟩
  simp [Value.ownBlock] at hx
  omega
end Go.Proofs.YtlaphdlocchagaaGreat

/- Ratios: nought. -/
namespace Go.Proofs.YtlaphdlocchagaaGreat
open Go.RowKit

theorem irat : (Tryz.prog.info? 93).map (·.size) = some 3 := by kernel_rfl
theorem isW_nil0 (w : World) : IsW w (.slice none 0 0) (digs (0 : Int).natAbs) := by
  have h : digs (0 : Int).natAbs = [] := by show digs 0 = []; unfold digs; simp
  rw [h]
  exact ⟨none, 0, rfl, by simp, by simp, by intro x hx; simp at hx, by simp [Cells], by simp⟩

set_option maxHeartbeats 1000000 in
theorem zero_w {w : World} :
    Calls Tryz.prog 102 #[] w fun e w' => (∃ r, e = .returned r ∧ RatV w' r 0 1) ∧ Below w.heap.size w w' := by
  have HB0 : Hid (Below w.heap.size w (w.alloc (Obj.cells #[Value.slice none 0 0, Value.bool false, Value.slice none 0 0] 93))) := Lib.hid ((Below.refl _ _).alloc (Nat.le_refl _) _)
  go_enter Tryz.func102, Tryz.ntmps102
  go_wp2_with fail
  refine one_w.mono ?_
  rintro en w5 ⟨⟨r, rfl, hr, hro⟩, hbel5⟩
  obtain ⟨ra, rn, rc, hre⟩ := hr.form
  subst hre
  have hR5 : w5.heap[w.heap.size]? = some (.cells #[Value.slice none 0 0, Value.bool false, Value.slice none 0 0] 93 (0, 0)) := by
    rw [hbel5.block _ (by simp)]
    exact heap_alloc_new w _
  have r0 : w5.cell? ⟨w.heap.size, 0, none⟩ = some (Value.slice none 0 0) := by rw [cell_of_row _ _ _ _ _ _ hR5]; rfl
  have r1 : w5.cell? ⟨w.heap.size, 1, none⟩ = some (Value.bool false) := by rw [cell_of_row _ _ _ _ _ _ hR5]; rfl
  have r2 : w5.cell? ⟨w.heap.size, 2, none⟩ = some (Value.slice none 0 0) := by rw [cell_of_row _ _ _ _ _ _ hR5]; rfl
  have f0 := frozen_of_row _ _ 0 _ _ hR5
  have f1 := frozen_of_row _ _ 1 _ _ hR5
  have f2 := frozen_of_row _ _ 2 _ _ hR5
  have HR5 := Lib.hid hR5
  have HR := Lib.hid hr
  have HBW := Lib.hid (below_trans HB0.out hbel5)
  have HNE : Hid ((Value.slice ra rn rc).ownBlock ≠ some w.heap.size) := Lib.hid (fun e => by have := hro _ e; simp at this; omega)
  clear hR5 hr hro
  go_wp2_with fail
  have hset := (((Only.refl w.heap.size w5).setCell 0 (Value.slice none 0 0)).setCell 1 (Value.bool false)).setCell 2 (Value.slice ra rn rc)
  refine bodyPost_ret (results_cell_row rfl _ _ w.heap.size _ _ _ _ rfl (heap_setCell_same _ _ 2 _ _ _ (heap_setCell_same _ _ 1 _ _ _ (heap_setCell_same _ _ 0 _ _ _ HR5.out))) Tryz.underlying93 rfl irat) rfl ⟨⟨_, rfl, ?_⟩, below_only HBW.out hset (by omega)⟩
  exact ⟨Value.slice none 0 0, Value.slice ra rn rc, rfl, isW_nil0 _, HR.out.only hset HNE.out⟩
end Go.Proofs.YtlaphdlocchagaaGreat

/- A struct's own block never holds the words of a slice: so a store into it leaves every slice of words. -/
namespace Go.Proofs.YtlaphdlocchagaaGreat
open Go.RowKit

theorem rc_empty : True := trivial
end Go.Proofs.YtlaphdlocchagaaGreat

/- Rational numbers: what the operations of frac make of numerators and denominators. Plain arithmetic: no program. -/
namespace Go.Proofs.YtlaphdlocchagaaGreat

/-- lowest terms -/
theorem mkRat_num {z : Int} {y : Nat} (hy : y ≠ 0) : (mkRat z y).num = z / (Nat.gcd z.natAbs y : Nat) := by
  rw [Rat.num_mkRat, if_neg hy, Nat.gcd_comm]
theorem mkRat_den {z : Int} {y : Nat} (hy : y ≠ 0) : (mkRat z y).den = y / Nat.gcd z.natAbs y := by
  rw [Rat.den_mkRat, if_neg hy, Nat.gcd_comm]
theorem gcd_dvd_int (z : Int) (y : Nat) : ((Nat.gcd z.natAbs y : Nat) : Int) ∣ z := Int.ofNat_dvd_left.2 (Nat.gcd_dvd_left _ _)
theorem mkRat_num_mul {z : Int} {y : Nat} (hy : y ≠ 0) : z = (mkRat z y).num * (Nat.gcd z.natAbs y : Nat) := by
  rw [mkRat_num hy]; exact (Int.ediv_mul_cancel (gcd_dvd_int z y)).symm

/-- The numerator of a sum before it is shrunk. -/
def sumNum (a b : Rat) : Int := a.num * ((b.den / Nat.gcd a.den b.den : Nat) : Int) + b.num * ((a.den / Nat.gcd a.den b.den : Nat) : Int)
def sumGcd (a b : Rat) : Nat := Nat.gcd (sumNum a b).natAbs (Nat.gcd a.den b.den)

theorem sum_gcd (a b : Rat) : sumGcd a b = Nat.gcd (sumNum a b).natAbs (a.den / Nat.gcd a.den b.den * b.den) :=
  Rat.add.aux a b (g := Nat.gcd a.den b.den) rfl rfl rfl

theorem sum_eq (a b : Rat) : a + b = mkRat (sumNum a b) (a.den / Nat.gcd a.den b.den * b.den) := by
  have hg : Nat.gcd a.den b.den ≠ 0 := Nat.gcd_ne_zero_left a.den_nz
  rw [Rat.add_def', ← Rat.mkRat_mul_right (n := sumNum a b) (d := a.den / Nat.gcd a.den b.den * b.den) hg]
  congr 1
  · unfold sumNum
    rw [Int.add_mul, Int.mul_assoc, Int.mul_assoc, Int.ofNat_mul_ofNat, Int.ofNat_mul_ofNat, Nat.div_mul_cancel (Nat.gcd_dvd_left ..), Nat.div_mul_cancel (Nat.gcd_dvd_right ..)]
  · rw [Nat.mul_right_comm, Nat.div_mul_cancel (Nat.gcd_dvd_left ..)]

theorem sum_den_pos (a b : Rat) : a.den / Nat.gcd a.den b.den * b.den ≠ 0 := by
  have h := Nat.div_gcd_pos_of_pos_left b.den a.den_pos
  exact Nat.ne_of_gt (Nat.mul_pos h b.den_pos)
theorem sum_num (a b : Rat) : sumNum a b = (a + b).num * (sumGcd a b : Nat) := by
  rw [sum_gcd, sum_eq]; exact mkRat_num_mul (sum_den_pos a b)
theorem sumGcd_dvd (a b : Rat) : sumGcd a b ∣ b.den := Nat.dvd_trans (Nat.gcd_dvd_right _ _) (Nat.gcd_dvd_right _ _)
theorem sum_den (a b : Rat) : (a + b).den = a.den / Nat.gcd a.den b.den * (b.den / sumGcd a b) := by
  have h := mkRat_den (z := sumNum a b) (sum_den_pos a b)
  rw [← sum_eq, ← sum_gcd] at h
  rw [h, Nat.mul_div_assoc _ (sumGcd_dvd a b)]

/-- Products. -/
theorem mul_num (a b : Rat) : (a * b).num = a.num / (Nat.gcd a.num.natAbs b.den : Nat) * (b.num / (Nat.gcd b.num.natAbs a.den : Nat)) := by
  show (Rat.mul a b).num = _
  delta Rat.mul
  dsimp only
  simp only [Int.divExact_eq_ediv]
theorem mul_den (a b : Rat) : (a * b).den = a.den / Nat.gcd b.num.natAbs a.den * (b.den / Nat.gcd a.num.natAbs b.den) := by
  show (Rat.mul a b).den = _
  delta Rat.mul
  dsimp only
  simp only [Nat.divExact_eq_div]

theorem neg_num' (a : Rat) : (-a).num = -a.num := rfl
theorem inv_num_natAbs (a : Rat) : (a⁻¹).num.natAbs = if a.num = 0 then 0 else a.den := by
  rw [Rat.num_inv, Int.natAbs_mul]
  by_cases h : a.num = 0
  · simp [h]
  · simp [h, Int.natAbs_sign_of_ne_zero h]
theorem inv_num_neg (a : Rat) : decide ((a⁻¹).num < 0) = decide (a.num < 0) := by
  rw [Rat.num_inv]
  have hd : (0 : Int) < a.den := by have := a.den_pos; omega
  apply decide_eq_decide.2
  rcases Int.lt_trichotomy a.num 0 with h | h | h
  · rw [Int.sign_eq_neg_one_of_neg h]; omega
  · rw [h]; simp
  · rw [Int.sign_eq_one_of_pos h]; omega

/-- Order. -/
def cmpQ (a b : Rat) : Int := if a < b then -1 else if a = b then 0 else 1
theorem sign_num (a : Rat) : a.num.sign = cmpQ a 0 := by
  unfold cmpQ
  have h0 : a < 0 ↔ a.num < 0 := by rw [Rat.lt_iff]; simp
  have h1 : a = 0 ↔ a.num = 0 := Rat.num_eq_zero.symm
  by_cases h : a.num < 0
  · rw [if_pos (h0.2 h), Int.sign_eq_neg_one_of_neg h]
  · rw [if_neg (fun e => h (h0.1 e))]
    by_cases h2 : a.num = 0
    · rw [if_pos (h1.2 h2), h2]; rfl
    · rw [if_neg (fun e => h2 (h1.1 e)), Int.sign_eq_one_of_pos (by omega)]

theorem cmpQ_swap (a b : Rat) : cmpQ b a = - cmpQ a b := by
  unfold cmpQ
  by_cases h : a < b
  · have : ¬ b < a := Rat.not_lt.2 (Rat.le_of_lt h)
    have h3 : b ≠ a := fun e => by subst e; exact Rat.lt_irrefl h
    simp [h, this, h3]
  · by_cases h2 : a = b
    · subst h2; simp [Rat.lt_irrefl]
    · have h3 : b < a := Rat.lt_of_le_of_ne (Rat.not_lt.1 h) (Ne.symm h2)
      simp [h, h2, h3]

theorem cmpQ_num (a b : Rat) : cmpQ a b = (a.num * b.den - b.num * a.den).sign := by
  unfold cmpQ
  by_cases h : a < b
  · rw [if_pos h, Int.sign_eq_neg_one_of_neg (by have := (Rat.lt_iff a b).1 h; omega)]
  · rw [if_neg h]
    by_cases h2 : a = b
    · subst h2; rw [if_pos rfl, Int.sub_self]; rfl
    · rw [if_neg h2, Int.sign_eq_one_of_pos]
      have h3 : b < a := Rat.lt_of_le_of_ne (Rat.not_lt.1 h) (Ne.symm h2)
      have := (Rat.lt_iff b a).1 h3
      omega
theorem cmp_signs (a b : Rat) (h : a.num.sign ≠ b.num.sign) : (if a.num.sign < b.num.sign then (-1 : Int) else 1) = cmpQ a b := by
  have ha : (0 : Int) < a.den := by have := a.den_pos; omega
  have hb : (0 : Int) < b.den := by have := b.den_pos; omega
  rw [cmpQ_num]
  have e1 : (a.num * b.den).sign = a.num.sign := by rw [Int.sign_mul, Int.sign_eq_one_of_pos hb, Int.mul_one]
  have e2 : (b.num * a.den).sign = b.num.sign := by rw [Int.sign_mul, Int.sign_eq_one_of_pos ha, Int.mul_one]
  rw [← e1, ← e2] at h ⊢
  generalize a.num * b.den = x at *
  generalize b.num * a.den = y at *
  rcases Int.lt_trichotomy x 0 with hx | hx | hx <;> rcases Int.lt_trichotomy y 0 with hy | hy | hy
  · rw [Int.sign_eq_neg_one_of_neg hx, Int.sign_eq_neg_one_of_neg hy] at h; exact absurd rfl h
  · subst hy; rw [Int.sign_eq_neg_one_of_neg (show x - 0 < 0 by omega), Int.sign_eq_neg_one_of_neg hx]; rfl
  · rw [Int.sign_eq_neg_one_of_neg (show x - y < 0 by omega), Int.sign_eq_neg_one_of_neg hx, Int.sign_eq_one_of_pos hy]; rfl
  · subst hx; rw [Int.sign_eq_one_of_pos (show 0 < 0 - y by omega), Int.sign_eq_neg_one_of_neg hy]; rfl
  · subst hx; subst hy; exact absurd rfl h
  · subst hx; rw [Int.sign_eq_neg_one_of_neg (show 0 - y < 0 by omega), Int.sign_eq_one_of_pos hy]; rfl
  · rw [Int.sign_eq_one_of_pos (show 0 < x - y by omega), Int.sign_eq_one_of_pos hx, Int.sign_eq_neg_one_of_neg hy]; rfl
  · subst hy; rw [Int.sign_eq_one_of_pos (show 0 < x - 0 by omega), Int.sign_eq_one_of_pos hx]; rfl
  · rw [Int.sign_eq_one_of_pos hx, Int.sign_eq_one_of_pos hy] at h; exact absurd rfl h
theorem cmp_sizes (a b : Rat) (h : a.num.sign = b.num.sign) : cmpN (a.num.natAbs * b.den) (b.num.natAbs * a.den) * a.num.sign = cmpQ a b := by
  rw [cmpQ_num]
  have ha : 0 < a.den := a.den_pos
  have hb : 0 < b.den := b.den_pos
  unfold cmpN
  rcases Int.lt_trichotomy a.num 0 with hx | hx | hx
  · rw [Int.sign_eq_neg_one_of_neg hx] at h ⊢
    have hy : b.num < 0 := by
      rcases Int.lt_trichotomy b.num 0 with hy | hy | hy
      · exact hy
      · rw [hy] at h; simp at h
      · rw [Int.sign_eq_one_of_pos hy] at h; simp at h
    obtain ⟨x, hx'⟩ : ∃ x : Nat, a.num = -(x : Int) := ⟨a.num.natAbs, by omega⟩
    obtain ⟨y, hy'⟩ : ∃ x : Nat, b.num = -(x : Int) := ⟨b.num.natAbs, by omega⟩
    rw [hx', hy', Int.natAbs_neg, Int.natAbs_neg, Int.natAbs_natCast, Int.natAbs_natCast, Int.neg_mul, Int.neg_mul, ← Int.natCast_mul, ← Int.natCast_mul]
    generalize x * b.den = p at *
    generalize y * a.den = q at *
    by_cases h1 : p < q
    · rw [if_pos h1, Int.sign_eq_one_of_pos (by omega)]; rfl
    · by_cases h2 : q < p
      · rw [if_neg h1, if_pos h2, Int.sign_eq_neg_one_of_neg (by omega)]; rfl
      · have h3 : p = q := by omega
        rw [if_neg h1, if_neg h2, h3]; simp
  · rw [hx] at h ⊢
    have hy : b.num = 0 := by
      rcases Int.lt_trichotomy b.num 0 with hy | hy | hy
      · rw [Int.sign_eq_neg_one_of_neg hy] at h; simp at h
      · exact hy
      · rw [Int.sign_eq_one_of_pos hy] at h; simp at h
    rw [hy]; simp
  · rw [Int.sign_eq_one_of_pos hx] at h ⊢
    have hy : 0 < b.num := by
      rcases Int.lt_trichotomy b.num 0 with hy | hy | hy
      · rw [Int.sign_eq_neg_one_of_neg hy] at h; simp at h
      · rw [hy] at h; simp at h
      · exact hy
    obtain ⟨x, hx'⟩ : ∃ x : Nat, a.num = (x : Int) := ⟨a.num.natAbs, by omega⟩
    obtain ⟨y, hy'⟩ : ∃ x : Nat, b.num = (x : Int) := ⟨b.num.natAbs, by omega⟩
    rw [hx', hy', Int.natAbs_natCast, Int.natAbs_natCast, ← Int.natCast_mul, ← Int.natCast_mul]
    generalize x * b.den = p at *
    generalize y * a.den = q at *
    by_cases h1 : p < q
    · rw [if_pos h1, Int.sign_eq_neg_one_of_neg (by omega)]; rfl
    · by_cases h2 : q < p
      · rw [if_neg h1, if_pos h2, Int.sign_eq_one_of_pos (by omega)]; rfl
      · have h3 : p = q := by omega
        rw [if_neg h1, if_neg h2, h3]; simp

/-- The floor, by the sizes. -/
def upN (a : Rat) : Nat := if a.num < 0 ∧ a.num.natAbs % a.den ≠ 0 then a.num.natAbs / a.den + 1 else a.num.natAbs / a.den
theorem floor_up (a : Rat) : (if decide (a.num < 0) = true then -(upN a : Int) else (upN a : Int)) = a.floor := by
  rw [Rat.floor_def]
  have hd : 0 < a.den := a.den_pos
  unfold upN
  generalize a.den = d at *
  by_cases h : a.num < 0
  · obtain ⟨x, hx'⟩ : ∃ x : Nat, a.num = -(x : Int) := ⟨a.num.natAbs, by omega⟩
    rw [hx'] at h ⊢
    simp only [h, decide_true, if_true, true_and, Int.natAbs_neg, Int.natAbs_natCast]
    have hm := Nat.mod_add_div x d
    have hr := Nat.mod_lt x hd
    generalize x / d = q at *
    generalize x % d = r at *
    have e : -(x : Int) = -(r : Int) + (d : Int) * (-(q : Int)) := by
      rw [← hm, Int.natCast_add, Int.natCast_mul, Int.neg_add, Int.mul_neg]
    by_cases h0 : r = 0
    · subst h0
      rw [if_neg (by simp), e, Int.add_mul_ediv_left _ _ (by omega)]; simp
    · rw [if_pos h0, e, Int.add_mul_ediv_left _ _ (by omega)]
      have e2 : -(r : Int) / (d : Int) = -1 := by
        rw [Int.ediv_eq_iff_of_pos (by omega)]; omega
      rw [e2]; omega
  · obtain ⟨x, hx'⟩ : ∃ x : Nat, a.num = (x : Int) := ⟨a.num.natAbs, by omega⟩
    rw [hx'] at h ⊢
    simp [h]

end Go.Proofs.YtlaphdlocchagaaGreat
