/- Ratios: the negative, the inverse. -/
import Derived.Test.YtebgkfcglmjokaaRg
namespace Go.Proofs.Ytebgkfcglmjokaa
open Go.RowKit

set_option maxHeartbeats 1000000 in
theorem rneg_w {w : World} {v : Value} {q : Rat} (hv : RatQ w v q) :
    Calls Try.prog 75 #[v] w fun e w' => (∃ r, e = .returned r ∧ RatQ w' r (-q)) ∧ Below w.heap.size w w' := by
  obtain ⟨u, d, rfl, hu, hd⟩ := hv
  obtain ⟨ua, un, uc, hue⟩ := hu.form
  subst hue
  obtain ⟨da, dn, dc, hde⟩ := hd.form
  subst hde
  have HU := Lib.hid hu
  have HD := Lib.hid hd
  clear hu hd
  have HB0 : Hid (∀ o p, Below w.heap.size w ((w.alloc o).alloc p)) := Lib.hid (fun o p => ((Below.refl _ _).alloc (Nat.le_refl _) o).alloc (by simp) p)
  obtain ⟨b, hb⟩ : ∃ b, b = decide (q.num < 0) := ⟨_, rfl⟩
  have HBQ := Lib.hid hb
  rw [← hb]
  clear hb
  go_enter Try.func75, Try.ntmps75
  go_wp2_with fail
  obtain ⟨w1, hw1⟩ : ∃ w1, w1 = (w.alloc (Obj.cells #[Value.slice ua un uc, Value.bool b, Value.slice da dn dc] 63)).alloc (Obj.cells #[Value.slice none 0 0, Value.bool false, Value.slice none 0 0] 63) := ⟨_, rfl⟩
  rw [← hw1]
  have HB1 : Hid (Below w.heap.size w w1) := Lib.hid (by rw [hw1]; exact HB0.out _ _)
  have hb1 : w1.heap[w.heap.size]? = some (.cells #[Value.slice ua un uc, Value.bool b, Value.slice da dn dc] 63 (0, 0)) := by rw [hw1]; exact heap_alloc2_old w _ _
  have HB2 : Hid (w1.heap[w.heap.size + 1]? = some (.cells #[Value.slice none 0 0, Value.bool false, Value.slice none 0 0] 63 (0, 0))) := Lib.hid (by rw [hw1]; exact heap_alloc2_new w _ _)
  have c0 : w1.cell? ⟨w.heap.size, 0, none⟩ = some (Value.slice ua un uc) := by rw [cell_of_row _ _ _ _ _ _ hb1]; rfl
  have c1 : w1.cell? ⟨w.heap.size, 1, none⟩ = some (Value.bool b) := by rw [cell_of_row _ _ _ _ _ _ hb1]; rfl
  have c2 : w1.cell? ⟨w.heap.size, 2, none⟩ = some (Value.slice da dn dc) := by rw [cell_of_row _ _ _ _ _ _ hb1]; rfl
  have R0 : Hid (∀ o v, (#[Value.slice none 0 0, Value.bool false, Value.slice none 0 0] : Array Value)[o]? = some v → w1.drew.cell? ⟨w.heap.size + 1, o, none⟩ = some v ∧ w1.drew.frozen? ⟨w.heap.size + 1, o, none⟩ = false) :=
    Lib.hid (fun o v h => ⟨by rw [World.cell?_drew, cell_of_row _ _ _ _ _ _ HB2.out]; exact h, by rw [World.frozen?_drew, frozen_of_row _ _ _ _ _ HB2.out]⟩)
  have HNV : Hid (NumV w1.drew (.agg #[Value.slice ua un uc, Value.bool b]) q.num) := Lib.hid ⟨_, by rw [HBQ.out], (HU.out.below HB1.out).drew⟩
  obtain ⟨nz, hnz⟩ : ∃ nz, nz = (-q).num := ⟨_, rfl⟩
  have HNC := Lib.hid (neg_w HNV.out)
  rw [show -q.num = nz from hnz.symm] at HNC
  have HNZ := Lib.hid hnz
  clear hw1 hb1 hnz
  go_region_held3 (fun w' => w'.cell? ⟨w.heap.size, 0, none⟩ = some (.slice ua un uc) ∧ w'.cell? ⟨w.heap.size, 1, none⟩ = some (.bool b) ∧ w'.cell? ⟨w.heap.size, 2, none⟩ = some (.slice da dn dc))
    (((try dsimp only); refine ⟨?_, ?_, ?_⟩ <;> (first | (refine cell_below ‹Below _ _ _› ?_; first | assumption | (simp [*]; done)) | go_keep)))
    (first | (go_at_call 121; refine HNC.out.mono ?_; rintro en w4 ⟨⟨r, rfl, r1u, rfl, hr1⟩, hbel4⟩; obtain ⟨ra, rn, rc, hre⟩ := hr1.form; subst hre; have r0 := cell_below hbel4 (R0.out 0 _ rfl).1; have r1 := cell_below hbel4 (R0.out 1 _ rfl).1; have r2 := cell_below hbel4 (R0.out 2 _ rfl).1; have f0 := frozen_below hbel4 (by rw [(R0.out 0 _ rfl).1]; rfl) (R0.out 0 _ rfl).2; have f1 := frozen_below hbel4 (by rw [(R0.out 1 _ rfl).1]; rfl) (R0.out 1 _ rfl).2; have f2 := frozen_below hbel4 (by rw [(R0.out 2 _ rfl).1]; rfl) (R0.out 2 _ rfl).2))
  have HR5 : Hid (w4.heap[w.heap.size + 1]? = some (.cells #[Value.slice none 0 0, Value.bool false, Value.slice none 0 0] 63 (0, 0))) := Lib.hid ((hbel4.block _ (lt_of_block HB2.out)).trans HB2.out)
  have HBW := Lib.hid (below_trans HB1.out (below_undrew hbel4))
  have HNU := Lib.hid hr1
  have HND := Lib.hid ((HD.out.below HB1.out).drew.below hbel4)
  clear r0 r1 r2 f0 f1 f2 hr1 hbel4
  go_wp2_with fail
  have h9 := rat3_q (q := -q) (u := Value.slice ra rn rc) HR5.out (by rw [← HNZ.out]; exact HNU.out) HND.out
  rw [← HNZ.out] at h9
  exact bodyPost_ret (results_cell_row rfl _ _ (w.heap.size + 1) _ _ _ _ rfl (rat3_heap HR5.out) Try.underlying63 rfl irat) rfl ⟨⟨_, rfl, h9⟩, below_only HBW.out (rat3_only _ _ _ _ _) (by omega)⟩

set_option maxHeartbeats 1000000 in
theorem rturned_w {w : World} {v : Value} {q : Rat} (hv : RatQ w v q) (h0 : q.num ≠ 0) :
    Calls Try.prog 71 #[v] w fun e w' => (∃ r, e = .returned r ∧ RatQ w' r q⁻¹) ∧ Below w.heap.size w w' := by
  obtain ⟨u, d, rfl, hu, hd⟩ := hv
  obtain ⟨ua, un, uc, hue⟩ := hu.form
  subst hue
  obtain ⟨da, dn, dc, hde⟩ := hd.form
  subst hde
  have HU := Lib.hid hu
  have HD := Lib.hid hd
  clear hu hd
  have HB0 : Hid (∀ o p, Below w.heap.size w ((w.alloc o).alloc p)) := Lib.hid (fun o p => ((Below.refl _ _).alloc (Nat.le_refl _) o).alloc (by simp) p)
  obtain ⟨b, hb⟩ : ∃ b, b = decide (q.num < 0) := ⟨_, rfl⟩
  have HBQ := Lib.hid hb
  rw [← hb]
  clear hb
  go_enter Try.func71, Try.ntmps71
  go_wp2_with fail
  have hd0 : q⁻¹.den = q.num.natAbs := by rw [Rat.den_inv, if_neg h0]
  have hn0 : q⁻¹.num.natAbs = q.den := by rw [inv_num_natAbs, if_neg h0]
  exact bodyPost_ret (results_cell_row rfl _ _ (w.heap.size + 1) _ _ _ _ rfl (heap_alloc2_new w _ _) Try.underlying63 rfl irat) rfl ⟨⟨_, rfl, _, _, by rw [HBQ.out, ← inv_num_neg], by rw [hn0]; exact HD.out.below (HB0.out _ _), by rw [hd0]; exact HU.out.below (HB0.out _ _)⟩, HB0.out _ _⟩
end Go.Proofs.Ytebgkfcglmjokaa
