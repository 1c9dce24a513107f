/- Several texts in one: Re, Rf. -/
import Derived.Test.YtafenoohjcpjgaaGreatZ9
/- Ratios told as fractions. -/
namespace Go.Proofs.YtafenoohjcpjgaaGreat
open Go.RowKit

theorem ifrac : (Tryz.prog.info? 43).map (·.size) = some 3 := by kernel_rfl

/-- The value v is the fraction q, as it is written. -/
def FracV (w : World) (v : Value) (q : Rat) : Prop := ∃ u d, v = .agg #[.bool (decide (q.num < 0)), u, d] ∧ IsW w u (digs q.num.natAbs) ∧ IsW w d (digs q.den)
theorem FracV.below {w w' : World} {v : Value} {q : Rat} (h : FracV w v q) (hb : Below w.heap.size w w') : FracV w' v q := by
  obtain ⟨n, d, rfl, hn, hd⟩ := h
  exact ⟨n, d, rfl, hn.below hb, hd.below hb⟩
/-- How many words a fraction takes. -/
def lenQ (q : Rat) : Nat := (digs q.num.natAbs).length + (digs q.den).length
/-- What is told of a number: 0 where it is too long. -/
def cutR (q : Rat) : Rat := if lenQ q ≤ 4096 then q else 0
/-- The words of a fraction lie in memory that w does not know. -/
def NewF (w : World) (v : Value) : Prop := ∃ (b : Bool) (u d : Value), v = .agg #[.bool b, u, d] ∧ (∀ x, u.ownBlock = some x → w.heap.size ≤ x) ∧ (∀ x, d.ownBlock = some x → w.heap.size ≤ x)

theorem zero_frac_cells : ∀ (j k : Nat), (#[Value.bool false, Value.slice none 0 0, Value.slice none 0 0] : Array Value)[j]? ≠ some (U k) := by
  intro j k h
  match j, h with
  | 0, h => simp [U] at h
  | 1, h => simp [U] at h
  | 2, h => simp [U] at h
  | (j + 3), h => simp at h
/-- The result's block, filled. -/
def frac3 (w : World) (R : Nat) (b : Bool) (u d : Value) : World := ((w.setCell ⟨R, 0, none⟩ (.bool b)).setCell ⟨R, 1, none⟩ u).setCell ⟨R, 2, none⟩ d
theorem frac3_only (w : World) (R : Nat) (b : Bool) (u d : Value) : Only R w (frac3 w R b u d) := (((Only.refl R w).setCell 0 (.bool b)).setCell 1 u).setCell 2 d
theorem frac3_heap {w : World} {R : Nat} {u d : Value} {b : Bool} {t : TypeId} (hR : w.heap[R]? = some (.cells #[Value.bool false, Value.slice none 0 0, Value.slice none 0 0] t (0, 0))) :
    (frac3 w R b u d).heap[R]? = some (.cells #[.bool b, u, d] t (0, 0)) :=
  heap_setCell_same _ _ 2 _ _ _ (heap_setCell_same _ _ 1 _ _ _ (heap_setCell_same _ _ 0 _ _ _ hR))
theorem frac3_q {w : World} {R : Nat} {u d : Value} {t : TypeId} {q : Rat} (hR : w.heap[R]? = some (.cells #[Value.bool false, Value.slice none 0 0, Value.slice none 0 0] t (0, 0)))
    (hu : IsW w u (digs q.num.natAbs)) (hd : IsW w d (digs q.den)) : FracV (frac3 w R (decide (q.num < 0)) u d) (.agg #[.bool (decide (q.num < 0)), u, d]) q :=
  ⟨u, d, rfl, hu.other hR zero_frac_cells (frac3_only _ _ _ _ _), hd.other hR zero_frac_cells (frac3_only _ _ _ _ _)⟩

def fitB (q : Rat) : Bool := decide (lenQ q ≤ 4096)
theorem fits_q {w : World} {v : Value} {q : Rat} (hv : RatQ w v q) (hl : lenQ q < 1073741824) :
    Calls Tryz.prog 85 #[v] w fun e w' => e = .returned (.bool (fitB q)) ∧ Below w.heap.size w w' :=
  fits_w hv (by unfold lenQ at hl; omega) (by unfold lenQ at hl; omega)

set_option maxHeartbeats 1000000 in
theorem tell_w {w : World} {v : Value} {q : Rat} (hv : RatQ w v q) (hl : lenQ q < 1073741824) :
    Calls Tryz.prog 55 #[v] w fun e w' => (∃ r, e = .returned r ∧ FracV w' r (cutR q) ∧ NewF w r) ∧ Below w.heap.size w w' := by
  obtain ⟨u, d, rfl, hu, hd⟩ := hv
  obtain ⟨ua, un, uc, hue⟩ := hu.form
  subst hue
  obtain ⟨da, dn, dc, hde⟩ := hd.form
  subst hde
  have HU := Lib.hid hu
  have HD := Lib.hid hd
  have HL := Lib.hid hl
  clear hu hd hl
  have HB0 : Hid (∀ o p, Below w.heap.size w ((w.alloc o).alloc p)) := Lib.hid (fun o p => ((Below.refl _ _).alloc (Nat.le_refl _) o).alloc (by simp) p)
  by_cases hf : lenQ q ≤ 4096
  · have hfb : fitB q = true := by simp [fitB, hf]
    have HC : Hid (cutR q = q) := Lib.hid (by unfold cutR; rw [if_pos hf])
    clear hf
    go_enter Tryz.func55, Tryz.ntmps55
    go_wp2_with fail
    refine (fits_q (q := q) ⟨_, _, rfl, HU.out.below (HB0.out _ _), HD.out.below (HB0.out _ _)⟩ HL.out).mono ?_
    rintro en w1 ⟨rfl, hbel1⟩
    have HB1 := Lib.hid (below_trans (HB0.out _ _) hbel1)
    have hb1 : w1.heap[w.heap.size]? = some (.cells #[Value.slice ua un uc, Value.bool (decide (q.num < 0)), Value.slice da dn dc] 89 (0, 0)) := (hbel1.block _ (by simp; omega)).trans (heap_alloc2_old w _ _)
    have hb2 : w1.heap[w.heap.size + 1]? = some (.cells #[Value.bool false, Value.slice none 0 0, Value.slice none 0 0] 43 (0, 0)) := (hbel1.block _ (by simp)).trans (heap_alloc2_new w _ _)
    have c0 : w1.cell? ⟨w.heap.size, 0, none⟩ = some (Value.slice ua un uc) := by rw [cell_of_row _ _ _ _ _ _ hb1]; rfl
    have c1 : w1.cell? ⟨w.heap.size, 1, none⟩ = some (Value.bool (decide (q.num < 0))) := by rw [cell_of_row _ _ _ _ _ _ hb1]; rfl
    have c2 : w1.cell? ⟨w.heap.size, 2, none⟩ = some (Value.slice da dn dc) := by rw [cell_of_row _ _ _ _ _ _ hb1]; rfl
    have HB2 := Lib.hid hb2
    have HBX := Lib.hid hb1
    clear hb1 hb2 hbel1
    go_wp2_with fail
    have R0 : Hid (∀ o v, (#[Value.bool false, Value.slice none 0 0, Value.slice none 0 0] : Array Value)[o]? = some v → w1.drew.cell? ⟨w.heap.size + 1, o, none⟩ = some v ∧ w1.drew.frozen? ⟨w.heap.size + 1, o, none⟩ = false) :=
      Lib.hid (fun o v h => ⟨by rw [World.cell?_drew, cell_of_row _ _ _ _ _ _ HB2.out]; exact h, by rw [World.frozen?_drew, frozen_of_row _ _ _ _ _ HB2.out]⟩)
    go_region_held3 (fun w' => w'.cell? ⟨w.heap.size, 0, none⟩ = some (.slice ua un uc) ∧ w'.cell? ⟨w.heap.size, 1, none⟩ = some (.bool (decide (q.num < 0))) ∧ w'.cell? ⟨w.heap.size, 2, none⟩ = some (.slice da dn dc))
      (((try dsimp only); refine ⟨?_, ?_, ?_⟩ <;> (first | (refine cell_below ‹Below _ _ _› ?_; first | assumption | (simp [*]; done)) | go_keep)))
      (first | (go_at_call_of 87 (Value.slice ua un uc); refine (clone_w (HU.out.below HB1.out).drew).mono ?_; rintro en w4 ⟨⟨r, rfl, hr, hro⟩, hbel4⟩; obtain ⟨ra, rn, rc, hre⟩ := hr.form; subst hre) | (go_at_call 87; refine (clone_w ((HD.out.below HB1.out).drew.below hbel4)).mono ?_; rintro en w5 ⟨⟨t, rfl, ht, hto⟩, hbel5⟩; obtain ⟨ta, tn, tc, hte⟩ := ht.form; subst hte; have r0 := cell_below hbel5 (cell_below hbel4 (R0.out 0 _ rfl).1); have r1 := cell_below hbel5 (cell_below hbel4 (R0.out 1 _ rfl).1); have r2 := cell_below hbel5 (cell_below hbel4 (R0.out 2 _ rfl).1); have f0 := frozen_below hbel5 (by rw [cell_below hbel4 (R0.out 0 _ rfl).1]; rfl) (frozen_below hbel4 (by rw [(R0.out 0 _ rfl).1]; rfl) (R0.out 0 _ rfl).2); have f1 := frozen_below hbel5 (by rw [cell_below hbel4 (R0.out 1 _ rfl).1]; rfl) (frozen_below hbel4 (by rw [(R0.out 1 _ rfl).1]; rfl) (R0.out 1 _ rfl).2); have f2 := frozen_below hbel5 (by rw [cell_below hbel4 (R0.out 2 _ rfl).1]; rfl) (frozen_below hbel4 (by rw [(R0.out 2 _ rfl).1]; rfl) (R0.out 2 _ rfl).2)))
    have hR5 : w5.heap[w.heap.size + 1]? = some (.cells #[Value.bool false, Value.slice none 0 0, Value.slice none 0 0] 43 (0, 0)) :=
      (hbel5.block _ (by have h8 : w1.heap.size ≤ w4.heap.size := hbel4.size; have := lt_of_block HB2.out; omega)).trans ((hbel4.block _ (lt_of_block HB2.out)).trans HB2.out)
    have HR5 := Lib.hid hR5
    have HBW := Lib.hid (below_trans (below_trans HB1.out (below_undrew hbel4)) hbel5)
    have HNU := Lib.hid (hr.below hbel5)
    have HND := Lib.hid ht
    have HN1 : Hid (∀ x, (Value.slice ra rn rc).ownBlock = some x → w.heap.size ≤ x) := Lib.hid (fun x e => by have h9 := hro x e; have h8 := HB1.out.size; have h7 : w1.drew.heap.size = w1.heap.size := rfl; omega)
    have HN2 : Hid (∀ x, (Value.slice ta tn tc).ownBlock = some x → w.heap.size ≤ x) := Lib.hid (fun x e => by have h9 := hto x e; have h8 := HB1.out.size; have h6 : w1.heap.size ≤ w4.heap.size := hbel4.size; omega)
    clear hR5 r0 r1 r2 f0 f1 f2 hro hto hr ht hbel4 hbel5
    go_wp2_with fail
    exact bodyPost_ret (results_cell_row rfl _ _ (w.heap.size + 1) _ _ _ _ rfl (frac3_heap HR5.out) Tryz.underlying43 rfl ifrac) rfl ⟨⟨_, rfl, by rw [HC.out]; exact frac3_q HR5.out HNU.out HND.out, ⟨_, _, _, rfl, HN1.out, HN2.out⟩⟩, below_only HBW.out (frac3_only _ _ _ _ _) (by omega)⟩
  · have hfb : fitB q = false := by simp [fitB, hf]
    have HC : Hid (cutR q = 0) := Lib.hid (by unfold cutR; rw [if_neg hf])
    clear hf
    go_enter Tryz.func55, Tryz.ntmps55
    go_wp2_with fail
    refine (fits_q (q := q) ⟨_, _, rfl, HU.out.below (HB0.out _ _), HD.out.below (HB0.out _ _)⟩ HL.out).mono ?_
    rintro en wa ⟨rfl, hbela⟩
    have HBa := Lib.hid (below_trans (HB0.out _ _) hbela)
    have HXa : Hid (wa.heap[w.heap.size]? = some (.cells #[Value.slice ua un uc, Value.bool (decide (q.num < 0)), Value.slice da dn dc] 89 (0, 0))) := Lib.hid ((hbela.block _ (by simp; omega)).trans (heap_alloc2_old w _ _))
    have HRa : Hid (wa.heap[w.heap.size + 1]? = some (.cells #[Value.bool false, Value.slice none 0 0, Value.slice none 0 0] 43 (0, 0))) := Lib.hid ((hbela.block _ (by simp)).trans (heap_alloc2_new w _ _))
    clear hbela
    go_wp2_with fail
    refine zero_w.mono ?_
    rintro en wb ⟨⟨zv, rfl, zu, zd, rfl, hzu, hzd⟩, hbelb⟩
    obtain ⟨za, zn, zc, hze⟩ := hzu.form
    subst hze
    obtain ⟨ya, yn, yc, hye⟩ := hzd.form
    subst hye
    have hXb := (hbelb.block _ (lt_of_block HXa.out)).trans HXa.out
    have HRb := Lib.hid ((hbelb.block _ (lt_of_block HRa.out)).trans HRa.out)
    have HBb := Lib.hid (below_trans HBa.out hbelb)
    have HZU := Lib.hid hzu
    have HZD := Lib.hid hzd
    have r0 : wb.cell? ⟨w.heap.size, 0, none⟩ = some (Value.slice ua un uc) := by rw [cell_of_row _ _ _ _ _ _ hXb]; rfl
    have r1 : wb.cell? ⟨w.heap.size, 1, none⟩ = some (Value.bool (decide (q.num < 0))) := by rw [cell_of_row _ _ _ _ _ _ hXb]; rfl
    have r2 : wb.cell? ⟨w.heap.size, 2, none⟩ = some (Value.slice da dn dc) := by rw [cell_of_row _ _ _ _ _ _ hXb]; rfl
    have f0 := frozen_of_row _ _ 0 _ _ hXb
    have f1 := frozen_of_row _ _ 1 _ _ hXb
    have f2 := frozen_of_row _ _ 2 _ _ hXb
    have HXb := Lib.hid hXb
    clear hXb hzu hzd hbelb
    go_wp2_with fail
    obtain ⟨w1, hw1⟩ : ∃ w1, w1 = rat3 wb w.heap.size (Value.slice za zn zc) false (Value.slice ya yn yc) := ⟨_, rfl⟩
    have hw2 : (((wb.setCell ⟨w.heap.size, 0, none⟩ (Value.slice za zn zc)).setCell ⟨w.heap.size, 1, none⟩ (Value.bool false)).setCell ⟨w.heap.size, 2, none⟩ (Value.slice ya yn yc)) = w1 := hw1.symm
    rw [hw2]
    have hon1 : Only w.heap.size wb w1 := by rw [hw1]; exact rat3_only _ _ _ _ _
    have HB1 := Lib.hid (below_only HBb.out hon1 (Nat.le_refl _))
    have HB2 : Hid (w1.heap[w.heap.size + 1]? = some (.cells #[Value.bool false, Value.slice none 0 0, Value.slice none 0 0] 43 (0, 0))) := Lib.hid ((hon1.block _ (by omega)).trans HRb.out)
    have hb1 : w1.heap[w.heap.size]? = some (.cells #[Value.slice za zn zc, Value.bool false, Value.slice ya yn yc] 89 (0, 0)) := by
      rw [hw1]; exact heap_setCell_same _ _ 2 _ _ _ (heap_setCell_same _ _ 1 _ _ _ (heap_setCell_same _ _ 0 _ _ _ HXb.out))
    have c0 : w1.cell? ⟨w.heap.size, 0, none⟩ = some (Value.slice za zn zc) := by rw [cell_of_row _ _ _ _ _ _ hb1]; rfl
    have c1 : w1.cell? ⟨w.heap.size, 1, none⟩ = some (Value.bool false) := by rw [cell_of_row _ _ _ _ _ _ hb1]; rfl
    have c2 : w1.cell? ⟨w.heap.size, 2, none⟩ = some (Value.slice ya yn yc) := by rw [cell_of_row _ _ _ _ _ _ hb1]; rfl
    have HZ1 := Lib.hid (HZU.out.other HXb.out (rat_cells ⟨_, _, _, rfl⟩ ⟨_, _, _, rfl⟩) hon1)
    have HD1 := Lib.hid (HZD.out.other HXb.out (rat_cells ⟨_, _, _, rfl⟩ ⟨_, _, _, rfl⟩) hon1)
    clear hw1 hw2 hon1 hb1 r0 r1 r2 f0 f1 f2
    have R0 : Hid (∀ o v, (#[Value.bool false, Value.slice none 0 0, Value.slice none 0 0] : Array Value)[o]? = some v → w1.drew.cell? ⟨w.heap.size + 1, o, none⟩ = some v ∧ w1.drew.frozen? ⟨w.heap.size + 1, o, none⟩ = false) :=
      Lib.hid (fun o v h => ⟨by rw [World.cell?_drew, cell_of_row _ _ _ _ _ _ HB2.out]; exact h, by rw [World.frozen?_drew, frozen_of_row _ _ _ _ _ HB2.out]⟩)
    go_region_held3 (fun w' => w'.cell? ⟨w.heap.size, 0, none⟩ = some (.slice za zn zc) ∧ w'.cell? ⟨w.heap.size, 1, none⟩ = some (.bool false) ∧ w'.cell? ⟨w.heap.size, 2, none⟩ = some (.slice ya yn yc))
      (((try dsimp only); refine ⟨?_, ?_, ?_⟩ <;> (first | (refine cell_below ‹Below _ _ _› ?_; first | assumption | (simp [*]; done)) | go_keep)))
      (first | (go_at_call_of 87 (Value.slice za zn zc); refine (clone_w HZ1.out.drew).mono ?_; rintro en w4 ⟨⟨r, rfl, hr, hro⟩, hbel4⟩; obtain ⟨ra, rn, rc, hre⟩ := hr.form; subst hre) | (go_at_call 87; refine (clone_w (HD1.out.drew.below hbel4)).mono ?_; rintro en w5 ⟨⟨t, rfl, ht, hto⟩, hbel5⟩; obtain ⟨ta, tn, tc, hte⟩ := ht.form; subst hte; have r0 := cell_below hbel5 (cell_below hbel4 (R0.out 0 _ rfl).1); have r1 := cell_below hbel5 (cell_below hbel4 (R0.out 1 _ rfl).1); have r2 := cell_below hbel5 (cell_below hbel4 (R0.out 2 _ rfl).1); have f0 := frozen_below hbel5 (by rw [cell_below hbel4 (R0.out 0 _ rfl).1]; rfl) (frozen_below hbel4 (by rw [(R0.out 0 _ rfl).1]; rfl) (R0.out 0 _ rfl).2); have f1 := frozen_below hbel5 (by rw [cell_below hbel4 (R0.out 1 _ rfl).1]; rfl) (frozen_below hbel4 (by rw [(R0.out 1 _ rfl).1]; rfl) (R0.out 1 _ rfl).2); have f2 := frozen_below hbel5 (by rw [cell_below hbel4 (R0.out 2 _ rfl).1]; rfl) (frozen_below hbel4 (by rw [(R0.out 2 _ rfl).1]; rfl) (R0.out 2 _ rfl).2)))
    have hR5 : w5.heap[w.heap.size + 1]? = some (.cells #[Value.bool false, Value.slice none 0 0, Value.slice none 0 0] 43 (0, 0)) :=
      (hbel5.block _ (by have h8 : w1.heap.size ≤ w4.heap.size := hbel4.size; have := lt_of_block HB2.out; omega)).trans ((hbel4.block _ (lt_of_block HB2.out)).trans HB2.out)
    have HR5 := Lib.hid hR5
    have HBW := Lib.hid (below_trans (below_trans HB1.out (below_undrew hbel4)) hbel5)
    have HNU := Lib.hid (hr.below hbel5)
    have HND := Lib.hid ht
    have HN1 : Hid (∀ x, (Value.slice ra rn rc).ownBlock = some x → w.heap.size ≤ x) := Lib.hid (fun x e => by have h9 := hro x e; have h8 := HB1.out.size; have h7 : w1.drew.heap.size = w1.heap.size := rfl; omega)
    have HN2 : Hid (∀ x, (Value.slice ta tn tc).ownBlock = some x → w.heap.size ≤ x) := Lib.hid (fun x e => by have h9 := hto x e; have h8 := HB1.out.size; have h6 : w1.heap.size ≤ w4.heap.size := hbel4.size; omega)
    clear hR5 r0 r1 r2 f0 f1 f2 hro hto hr ht hbel4 hbel5
    go_wp2_with fail
    exact bodyPost_ret (results_cell_row rfl _ _ (w.heap.size + 1) _ _ _ _ rfl (frac3_heap HR5.out) Tryz.underlying43 rfl ifrac) rfl ⟨⟨_, rfl, by rw [HC.out]; exact frac3_q (q := 0) HR5.out HNU.out HND.out, ⟨_, _, _, rfl, HN1.out, HN2.out⟩⟩, below_only HBW.out (frac3_only _ _ _ _ _) (by omega)⟩
end Go.Proofs.YtafenoohjcpjgaaGreat

/- Fractions as they come: are they right? -/
namespace Go.Proofs.YtafenoohjcpjgaaGreat
open Go.RowKit

/-- A fraction as it comes: a sign, and any words. -/
def RawF (w : World) (v : Value) (b : Bool) (l m : List Nat) : Prop := ∃ u d, v = .agg #[.bool b, u, d] ∧ IsW w u l ∧ IsW w d m
theorem RawF.below {w w' : World} {v : Value} {b : Bool} {l m : List Nat} (h : RawF w v b l m) (hb : Below w.heap.size w w') : RawF w' v b l m := by
  obtain ⟨n, d, rfl, hn, hd⟩ := h
  exact ⟨n, d, rfl, hn.below hb, hd.below hb⟩
def normB (l : List Nat) : Bool := decide (Norm l)
def shortF (l m : List Nat) : Bool := decide (l.length + m.length ≤ 4096)
/-- Is it right? -/
def rightB (b : Bool) (l m : List Nat) : Bool := shortF l m && (normB l && (normB m && (!nilB m && (!(b && nilB l) && oneB (Nat.gcd (val l) (val m))))))

theorem trimmed_b {w : World} {v : Value} {l : List Nat} (h : IsW w v l) :
    Calls Tryz.prog 96 #[v] w fun e w' => e = .returned (.bool (normB l)) ∧ w = w' := trimmed_w h

set_option maxRecDepth 4000 in
set_option maxHeartbeats 1000000 in
theorem right_w {w : World} {v : Value} {b : Bool} {l m : List Nat} (hv : RawF w v b l m) :
    Calls Tryz.prog 67 #[v] w fun e w' => e = .returned (.bool (rightB b l m)) ∧ Below w.heap.size w w' := by
  obtain ⟨u, d, rfl, hu, hd⟩ := hv
  have HU := Lib.hid hu
  have HD := Lib.hid hd
  obtain ⟨ua, uc, rfl, u1, u2, u3, u4, u5⟩ := hu
  obtain ⟨da, dc, rfl, d1, d2, d3, d4, d5⟩ := hd
  clear u3 u4 u5 d3 d4 d5
  have HB0 : Hid (∀ o, Below w.heap.size w (w.alloc o)) := Lib.hid (fun o => (Below.refl _ _).alloc (Nat.le_refl _) o)
  by_cases h1 : l.length ≤ 4096
  · by_cases h2 : l.length + m.length ≤ 4096
    · have e1 : decide ((4096 : Int) < (l.length : Int)) = false := by simp; omega
      have e2 : decide ((4096 : Int) - (l.length : Int) < (m.length : Int)) = false := by simp; omega
      have HS : Hid (shortF l m = true) := Lib.hid (by simp [shortF, h2])
      go_enter Tryz.func67, Tryz.ntmps67
      go_wp2_with fail
      obtain ⟨w1, hw1⟩ : ∃ w1, w1 = w.alloc (Obj.cells #[Value.bool b, Value.slice ua l.length uc, Value.slice da m.length dc] 43) := ⟨_, rfl⟩
      rw [← hw1]
      have HB1 : Hid (Below w.heap.size w w1) := Lib.hid (by rw [hw1]; exact HB0.out _)
      have hb1 : w1.heap[w.heap.size]? = some (.cells #[Value.bool b, Value.slice ua l.length uc, Value.slice da m.length dc] 43 (0, 0)) := by rw [hw1]; exact heap_alloc_new w _
      have c0 : w1.cell? ⟨w.heap.size, 0, none⟩ = some (Value.bool b) := by rw [cell_of_row _ _ _ _ _ _ hb1]; rfl
      have c1 : w1.cell? ⟨w.heap.size, 1, none⟩ = some (Value.slice ua l.length uc) := by rw [cell_of_row _ _ _ _ _ _ hb1]; rfl
      have c2 : w1.cell? ⟨w.heap.size, 2, none⟩ = some (Value.slice da m.length dc) := by rw [cell_of_row _ _ _ _ _ _ hb1]; rfl
      clear hw1 hb1
      by_cases n1 : normB l = true
      · by_cases n2 : normB m = true
        · by_cases n3 : nilB m = true
          · have HR : Hid (rightB b l m = false) := Lib.hid (by unfold rightB; rw [n1, n2, n3, HS.out]; rfl)
            go_quiet (fail)
            go_wp2_with fail
            refine (trimmed_b ((HU.out.below HB1.out).drewN _)).mono ?_
            rintro en w2 ⟨rfl, rfl⟩
            go_wp2_with fail
            refine (trimmed_b ((HD.out.below HB1.out).drewN _)).mono ?_
            rintro en w2 ⟨rfl, rfl⟩
            go_wp2_with fail
            refine (isZero_v ((HD.out.below HB1.out).drewN _)).mono ?_
            rintro en w2 ⟨rfl, rfl⟩
            go_wp2_with fail
            go_ret
            exact ⟨by rw [HR.out]; rfl, below_drewN HB1.out _⟩
          · have n3' : nilB m = false := by simpa using n3
            clear n3
            have HG : Hid (∀ c : Bool, (b && nilB l) = c → rightB b l m = (!c && oneB (Nat.gcd (val l) (val m)))) := Lib.hid (fun c hc => by unfold rightB; rw [n1, n2, n3', HS.out, hc]; simp)
            have HL : Hid (l = digs (val l) ∧ m = digs (val m)) := Lib.hid ⟨(digs_val l HU.out.ws (by simpa [normB] using n1)).symm, (digs_val m HD.out.ws (by simpa [normB] using n2)).symm⟩
            cases b with
            | true =>
              by_cases n4 : nilB l = true
              · have HR : Hid (rightB true l m = false) := Lib.hid (by rw [HG.out true (by rw [n4]; rfl)]; rfl)
                go_quiet (fail)
                go_wp2_with fail
                refine (trimmed_b ((HU.out.below HB1.out).drewN _)).mono ?_
                rintro en w2 ⟨rfl, rfl⟩
                go_wp2_with fail
                refine (trimmed_b ((HD.out.below HB1.out).drewN _)).mono ?_
                rintro en w2 ⟨rfl, rfl⟩
                go_wp2_with fail
                refine (isZero_v ((HD.out.below HB1.out).drewN _)).mono ?_
                rintro en w2 ⟨rfl, rfl⟩
                go_wp2_with fail
                refine (isZero_v ((HU.out.below HB1.out).drewN _)).mono ?_
                rintro en w2 ⟨rfl, rfl⟩
                go_wp2_with fail
                go_ret
                exact ⟨by rw [HR.out]; rfl, below_drewN HB1.out _⟩
              · have n4' : nilB l = false := by simpa using n4
                clear n4
                have HR : Hid (rightB true l m = oneB (Nat.gcd (val l) (val m))) := Lib.hid (by rw [HG.out false (by rw [n4']; rfl)]; rfl)
                go_quiet (fail)
                go_wp2_with fail
                refine (trimmed_b ((HU.out.below HB1.out).drewN _)).mono ?_
                rintro en w2 ⟨rfl, rfl⟩
                go_wp2_with fail
                refine (trimmed_b ((HD.out.below HB1.out).drewN _)).mono ?_
                rintro en w2 ⟨rfl, rfl⟩
                go_wp2_with fail
                refine (isZero_v ((HD.out.below HB1.out).drewN _)).mono ?_
                rintro en w2 ⟨rfl, rfl⟩
                go_wp2_with fail
                refine (isZero_v ((HU.out.below HB1.out).drewN _)).mono ?_
                rintro en w2 ⟨rfl, rfl⟩
                go_wp2_with fail
                refine (gcd_w (x := val l) (y := val m) (HL.out.1 ▸ ((HU.out.below HB1.out).drewN _)) (HL.out.2 ▸ ((HD.out.below HB1.out).drewN _)) (by rw [← HL.out.1]; omega) (by rw [← HL.out.2]; omega)).mono ?_
                rintro en w3 ⟨⟨g, rfl, hg, hgo⟩, hbel3⟩
                have HGV := Lib.hid hg
                clear hg hgo
                go_wp2_with fail
                refine (isOne_w HGV.out).mono ?_
                rintro en w4 ⟨rfl, rfl⟩
                go_wp2_with fail
                go_ret
                exact ⟨by rw [HR.out]; rfl, below_trans (below_drewN HB1.out _) hbel3⟩
            | false =>
              have HR : Hid (rightB false l m = oneB (Nat.gcd (val l) (val m))) := Lib.hid (by rw [HG.out false rfl]; rfl)
              go_quiet (fail)
              go_wp2_with fail
              refine (trimmed_b ((HU.out.below HB1.out).drewN _)).mono ?_
              rintro en w2 ⟨rfl, rfl⟩
              go_wp2_with fail
              refine (trimmed_b ((HD.out.below HB1.out).drewN _)).mono ?_
              rintro en w2 ⟨rfl, rfl⟩
              go_wp2_with fail
              refine (isZero_v ((HD.out.below HB1.out).drewN _)).mono ?_
              rintro en w2 ⟨rfl, rfl⟩
              go_wp2_with fail
              refine (gcd_w (x := val l) (y := val m) (HL.out.1 ▸ ((HU.out.below HB1.out).drewN _)) (HL.out.2 ▸ ((HD.out.below HB1.out).drewN _)) (by rw [← HL.out.1]; omega) (by rw [← HL.out.2]; omega)).mono ?_
              rintro en w3 ⟨⟨g, rfl, hg, hgo⟩, hbel3⟩
              have HGV := Lib.hid hg
              clear hg hgo
              go_wp2_with fail
              refine (isOne_w HGV.out).mono ?_
              rintro en w4 ⟨rfl, rfl⟩
              go_wp2_with fail
              go_ret
              exact ⟨by rw [HR.out]; rfl, below_trans (below_drewN HB1.out _) hbel3⟩
        · have n2' : normB m = false := by simpa using n2
          have HR : Hid (rightB b l m = false) := Lib.hid (by unfold rightB; rw [n1, n2', HS.out]; rfl)
          clear n2
          go_quiet (fail)
          go_wp2_with fail
          refine (trimmed_b ((HU.out.below HB1.out).drewN _)).mono ?_
          rintro en w2 ⟨rfl, rfl⟩
          go_wp2_with fail
          refine (trimmed_b ((HD.out.below HB1.out).drewN _)).mono ?_
          rintro en w2 ⟨rfl, rfl⟩
          go_wp2_with fail
          go_ret
          exact ⟨by rw [HR.out]; rfl, below_drewN HB1.out _⟩
      · have n1' : normB l = false := by simpa using n1
        have HR : Hid (rightB b l m = false) := Lib.hid (by unfold rightB; rw [n1', HS.out]; rfl)
        clear n1
        go_quiet (fail)
        go_wp2_with fail
        refine (trimmed_b ((HU.out.below HB1.out).drewN _)).mono ?_
        rintro en w2 ⟨rfl, rfl⟩
        go_wp2_with fail
        go_ret
        exact ⟨by rw [HR.out]; rfl, below_drewN HB1.out _⟩
    · have e1 : decide ((4096 : Int) < (l.length : Int)) = false := by simp; omega
      have e2 : decide ((4096 : Int) - (l.length : Int) < (m.length : Int)) = true := by simp; omega
      have HS : Hid (rightB b l m = false) := Lib.hid (by unfold rightB; rw [show shortF l m = false by simp [shortF]; omega]; rfl)
      go_enter Tryz.func67, Tryz.ntmps67
      go_wp2_with fail
      obtain ⟨w1, hw1⟩ : ∃ w1, w1 = w.alloc (Obj.cells #[Value.bool b, Value.slice ua l.length uc, Value.slice da m.length dc] 43) := ⟨_, rfl⟩
      rw [← hw1]
      have HB1 : Hid (Below w.heap.size w w1) := Lib.hid (by rw [hw1]; exact HB0.out _)
      have hb1 : w1.heap[w.heap.size]? = some (.cells #[Value.bool b, Value.slice ua l.length uc, Value.slice da m.length dc] 43 (0, 0)) := by rw [hw1]; exact heap_alloc_new w _
      have c0 : w1.cell? ⟨w.heap.size, 0, none⟩ = some (Value.bool b) := by rw [cell_of_row _ _ _ _ _ _ hb1]; rfl
      have c1 : w1.cell? ⟨w.heap.size, 1, none⟩ = some (Value.slice ua l.length uc) := by rw [cell_of_row _ _ _ _ _ _ hb1]; rfl
      have c2 : w1.cell? ⟨w.heap.size, 2, none⟩ = some (Value.slice da m.length dc) := by rw [cell_of_row _ _ _ _ _ _ hb1]; rfl
      clear hw1 hb1
      go_quiet (fail)
      go_wp2_with fail
      go_ret
      exact ⟨by rw [HS.out]; rfl, below_drewN HB1.out _⟩
  · have e1 : decide ((4096 : Int) < (l.length : Int)) = true := by simp; omega
    have HS : Hid (rightB b l m = false) := Lib.hid (by unfold rightB; rw [show shortF l m = false by simp [shortF]; omega]; rfl)
    go_enter Tryz.func67, Tryz.ntmps67
    go_wp2_with fail
    obtain ⟨w1, hw1⟩ : ∃ w1, w1 = w.alloc (Obj.cells #[Value.bool b, Value.slice ua l.length uc, Value.slice da m.length dc] 43) := ⟨_, rfl⟩
    rw [← hw1]
    have HB1 : Hid (Below w.heap.size w w1) := Lib.hid (by rw [hw1]; exact HB0.out _)
    have hb1 : w1.heap[w.heap.size]? = some (.cells #[Value.bool b, Value.slice ua l.length uc, Value.slice da m.length dc] 43 (0, 0)) := by rw [hw1]; exact heap_alloc_new w _
    have c0 : w1.cell? ⟨w.heap.size, 0, none⟩ = some (Value.bool b) := by rw [cell_of_row _ _ _ _ _ _ hb1]; rfl
    have c1 : w1.cell? ⟨w.heap.size, 1, none⟩ = some (Value.slice ua l.length uc) := by rw [cell_of_row _ _ _ _ _ _ hb1]; rfl
    have c2 : w1.cell? ⟨w.heap.size, 2, none⟩ = some (Value.slice da m.length dc) := by rw [cell_of_row _ _ _ _ _ _ hb1]; rfl
    clear hw1 hb1
    go_quiet (fail)
    go_wp2_with fail
    go_ret
    exact ⟨by rw [HS.out]; rfl, below_drewN HB1.out _⟩
end Go.Proofs.YtafenoohjcpjgaaGreat
