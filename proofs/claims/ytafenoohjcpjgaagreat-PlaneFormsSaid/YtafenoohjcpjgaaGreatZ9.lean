/- Several texts in one: Wu, Wv, Wx, Wy, Ra, Rb, Rc, Q, Rd. -/
import Derived.Test.YtafenoohjcpjgaaGreatZ8
/- Numbers with a sign: shrinking. -/
namespace Go.Proofs.YtafenoohjcpjgaaGreat
open Go.RowKit

theorem sgn_div_nat {z q : Int} {y : Nat} (hy : 0 < y) (hq : z = q * y) : (if decide (z < 0) = true then -((z.natAbs / y : Nat) : Int) else ((z.natAbs / y : Nat) : Int)) = q := by
  subst hq
  have hy' : (0 : Int) < y := by omega
  rw [Int.natAbs_mul, Int.natAbs_natCast, Nat.mul_div_cancel _ hy]
  by_cases h : q < 0
  · have h9 : q * (y : Int) < 0 := Int.mul_neg_of_neg_of_pos h hy'
    simp only [h9, decide_true, if_true]
    omega
  · have h9 : ¬ q * (y : Int) < 0 := by
      have := Int.mul_nonneg (by omega : 0 ≤ q) (Int.le_of_lt hy')
      omega
    simp only [h9, decide_false]
    simp
    omega

set_option maxHeartbeats 1000000 in
theorem shrink_w {w : World} {v d : Value} {z : Int} {y : Nat} (hv : NumV w v z) (hd : IsW w d (digs y)) {q : Int} (hy : 0 < y) (hq : z = q * y) (hlen : (digs z.natAbs).length < 1073741824) :
    Calls Tryz.prog 156 #[v, d] w fun e w' => (∃ r, e = .returned r ∧ NumV w' r q) ∧ Below w.heap.size w w' := by
  obtain ⟨u, rfl, hu⟩ := hv
  have HU := Lib.hid hu
  have HD := Lib.hid hd
  have HL := Lib.hid hlen
  have HQ := Lib.hid hq
  clear hq
  obtain ⟨ua, uc, hue, -⟩ := hu
  obtain ⟨un, hun⟩ : ∃ un, un = (digs z.natAbs).length := ⟨_, rfl⟩
  rw [← hun] at hue
  subst hue
  clear hd hlen hun
  go_enter Tryz.func156, Tryz.ntmps156
  go_wp2_with fail
  have HB0 : Hid (Below w.heap.size w ((w.alloc (Obj.cells #[Value.slice ua un uc, Value.bool (decide (z < 0))] 87)).alloc (Obj.cells #[Value.slice none 0 0, Value.bool false] 87))) :=
    Lib.hid (((Below.refl _ _).alloc (Nat.le_refl _) _).alloc (by simp) _)
  have R0 : Hid (∀ o v, (#[Value.slice none 0 0, Value.bool false] : Array Value)[o]? = some v → ((w.alloc (Obj.cells #[Value.slice ua un uc, Value.bool (decide (z < 0))] 87)).alloc (Obj.cells #[Value.slice none 0 0, Value.bool false] 87)).drew.cell? ⟨w.heap.size + 1, o, none⟩ = some v ∧ ((w.alloc (Obj.cells #[Value.slice ua un uc, Value.bool (decide (z < 0))] 87)).alloc (Obj.cells #[Value.slice none 0 0, Value.bool false] 87)).drew.frozen? ⟨w.heap.size + 1, o, none⟩ = false) :=
    Lib.hid (fun o v h => by
      have h9 := heap_alloc2_new w (Obj.cells #[Value.slice ua un uc, Value.bool (decide (z < 0))] 87) (Obj.cells #[Value.slice none 0 0, Value.bool false] 87)
      exact ⟨by rw [World.cell?_drew, cell_of_row _ _ _ _ _ _ h9]; exact h, by rw [World.frozen?_drew, frozen_of_row _ _ _ _ _ h9]⟩)
  go_region_held3 (fun w' => w'.cell? ⟨w.heap.size, 0, none⟩ = some (.slice ua un uc) ∧ w'.cell? ⟨w.heap.size, 1, none⟩ = some (.bool (decide (z < 0))))
    (((try dsimp only); refine ⟨?_, ?_⟩ <;> (first | (refine cell_below ‹Below _ _ _› ?_; first | assumption | (simp [*]; done)) | go_keep)))
    (first | (go_at_call 153; refine (over_w (HU.out.below HB0.out).drew (HD.out.below HB0.out).drew hy HL.out).mono ?_; rintro en w4 ⟨⟨r, rfl, hr, hro⟩, hbel4⟩; obtain ⟨ra, rn, rc, hre⟩ := hr.form; subst hre) | (go_at_call 114; refine (signed_l hr (decide (z < 0))).mono ?_; rintro en w5 ⟨rfl, hbel5⟩; have r0 := cell_below hbel5 (cell_below hbel4 (R0.out 0 _ rfl).1); have r1 := cell_below hbel5 (cell_below hbel4 (R0.out 1 _ rfl).1); have f0 := frozen_below hbel5 (by rw [cell_below hbel4 (R0.out 0 _ rfl).1]; rfl) (frozen_below hbel4 (by rw [(R0.out 0 _ rfl).1]; rfl) (R0.out 0 _ rfl).2); have f1 := frozen_below hbel5 (by rw [cell_below hbel4 (R0.out 1 _ rfl).1]; rfl) (frozen_below hbel4 (by rw [(R0.out 1 _ rfl).1]; rfl) (R0.out 1 _ rfl).2)))
  have hR5 : w5.heap[w.heap.size + 1]? = some (.cells #[Value.slice none 0 0, Value.bool false] 87 (0, 0)) := by
    rw [hbel5.block _ (by have := hbel4.size; simp at this; omega), hbel4.block _ (by simp)]
    exact heap_alloc2_new w _ _
  have HR5 := Lib.hid hR5
  have HBW := Lib.hid (below_trans (below_trans HB0.out (below_undrew hbel4)) hbel5)
  have HNV : Hid (NumV w5 (.agg #[Value.slice ra rn rc, Value.bool (decide (z < 0) && !zerB (z.natAbs / y))]) q) := Lib.hid (by
    have h9 := numV_of (hr.below hbel5) (decide (z < 0))
    rwa [sgn_div_nat hy HQ.out] at h9)
  clear hR5 r0 r1 f0 f1 hro
  go_wp2_with fail
  have hset := ((Only.refl (w.heap.size + 1) w5).setCell 0 (Value.slice ra rn rc)).setCell 1 (Value.bool (decide (z < 0) && !zerB (z.natAbs / y)))
  refine bodyPost_ret (results_cell_row rfl _ _ (w.heap.size + 1) _ _ _ _ rfl (heap_setCell_same _ _ 1 _ _ _ (heap_setCell_same _ _ 0 _ _ _ HR5.out)) Tryz.underlying87 rfl inum) rfl ⟨⟨_, rfl, ?_⟩, below_only HBW.out hset (by omega)⟩
  obtain ⟨u9, h8, h9⟩ := HNV.out
  simp only [Value.agg.injEq, Array.mk.injEq, List.cons.injEq, and_true, Value.bool.injEq] at h8
  obtain ⟨h7, hb⟩ := h8
  subst h7
  exact ⟨_, by rw [hb]; rfl, h9.other HR5.out (num_cells9 ⟨_, _, _, rfl⟩) hset⟩
end Go.Proofs.YtafenoohjcpjgaaGreat

/- Numbers with a sign: the negative. -/
namespace Go.Proofs.YtafenoohjcpjgaaGreat
open Go.RowKit

theorem sgn_neg (z : Int) : (if (!decide (z < 0)) = true then -((z.natAbs : Nat) : Int) else ((z.natAbs : Nat) : Int)) = -z := by
  by_cases h : z < 0
  · simp only [h, decide_true, Bool.not_true]; simp; omega
  · simp only [h, decide_false, Bool.not_false, if_true]; omega

set_option maxHeartbeats 1000000 in
theorem neg_w {w : World} {v : Value} {z : Int} (hv : NumV w v z) :
    Calls Tryz.prog 88 #[v] w fun e w' => (∃ r, e = .returned r ∧ NumV w' r (-z)) ∧ Below w.heap.size w w' := by
  obtain ⟨u, rfl, hu⟩ := hv
  have HU := Lib.hid hu
  obtain ⟨ua, uc, hue, -⟩ := hu
  obtain ⟨un, hun⟩ : ∃ un, un = (digs z.natAbs).length := ⟨_, rfl⟩
  rw [← hun] at hue
  subst hue
  clear hun
  have HB0 : Hid (Below w.heap.size w ((w.alloc (Obj.cells #[Value.slice ua un uc, Value.bool (decide (z < 0))] 87)).alloc (Obj.cells #[Value.slice none 0 0, Value.bool false] 87))) :=
    Lib.hid (((Below.refl _ _).alloc (Nat.le_refl _) _).alloc (by simp) _)
  go_enter Tryz.func88, Tryz.ntmps88
  go_wp2_with fail
  refine (signed_l (HU.out.below HB0.out) (!decide (z < 0))).mono ?_
  rintro en w5 ⟨rfl, hbel5⟩
  have hR5 : w5.heap[w.heap.size + 1]? = some (.cells #[Value.slice none 0 0, Value.bool false] 87 (0, 0)) := by
    rw [hbel5.block _ (by simp)]
    exact heap_alloc2_new w _ _
  have r0 : w5.cell? ⟨w.heap.size + 1, 0, none⟩ = some (Value.slice none 0 0) := by rw [cell_of_row _ _ _ _ _ _ hR5]; rfl
  have r1 : w5.cell? ⟨w.heap.size + 1, 1, none⟩ = some (Value.bool false) := by rw [cell_of_row _ _ _ _ _ _ hR5]; rfl
  have f0 := frozen_of_row _ _ 0 _ _ hR5
  have f1 := frozen_of_row _ _ 1 _ _ hR5
  have HR5 := Lib.hid hR5
  have HBW := Lib.hid (below_trans HB0.out hbel5)
  have HNV : Hid (NumV w5 (.agg #[Value.slice ua un uc, Value.bool ((!decide (z < 0)) && !zerB (z.natAbs))]) (-z)) := Lib.hid (by
    have h9 := numV_of (HU.out.below HBW.out) (!decide (z < 0))
    rwa [sgn_neg] at h9)
  have HNE : Hid (digs z.natAbs ≠ [] → (Value.slice ua un uc).ownBlock ≠ some (w.heap.size + 1)) := Lib.hid (HU.out.own_ne (by omega))
  clear hR5
  go_wp2_with fail
  have hset := ((Only.refl (w.heap.size + 1) w5).setCell 0 (Value.slice ua un uc)).setCell 1 (Value.bool ((!decide (z < 0)) && !zerB (z.natAbs)))
  refine bodyPost_ret (results_cell_row rfl _ _ (w.heap.size + 1) _ _ _ _ rfl (heap_setCell_same _ _ 1 _ _ _ (heap_setCell_same _ _ 0 _ _ _ HR5.out)) Tryz.underlying87 rfl inum) rfl ⟨⟨_, rfl, ?_⟩, below_only HBW.out hset (by omega)⟩
  obtain ⟨u9, h8, h9⟩ := HNV.out
  simp only [Value.agg.injEq, Array.mk.injEq, List.cons.injEq, and_true, Value.bool.injEq] at h8
  obtain ⟨h7, hb⟩ := h8
  subst h7
  exact ⟨_, by rw [hb]; rfl, h9.only0 hset (by rw [Int.natAbs_neg]; exact HNE.out)⟩
end Go.Proofs.YtafenoohjcpjgaaGreat

/- Numbers with a sign: products. -/
namespace Go.Proofs.YtafenoohjcpjgaaGreat
open Go.RowKit

theorem alloc3_new (w : World) (a b c : Obj) : (((w.alloc a).alloc b).alloc c).heap[w.heap.size + 2]? = some c := by
  have h := heap_alloc_new ((w.alloc a).alloc b) c
  simpa using h

theorem alloc3_0 (w : World) (a b c : Obj) : (((w.alloc a).alloc b).alloc c).heap[w.heap.size]? = some a :=
  (heap_alloc_old (r := w.heap.size) ((w.alloc a).alloc b) c (by simp; omega)).trans (heap_alloc2_old w a b)
theorem alloc3_1 (w : World) (a b c : Obj) : (((w.alloc a).alloc b).alloc c).heap[w.heap.size + 1]? = some b :=
  (heap_alloc_old (r := w.heap.size + 1) ((w.alloc a).alloc b) c (by simp)).trans (heap_alloc2_new w a b)

end Go.Proofs.YtafenoohjcpjgaaGreat

/- Numbers with a sign: sums. -/
namespace Go.Proofs.YtafenoohjcpjgaaGreat
open Go.RowKit

end Go.Proofs.YtafenoohjcpjgaaGreat

/- Ratios: what a value means, and whether it fits. -/
namespace Go.Proofs.YtafenoohjcpjgaaGreat
open Go.RowKit

/-- The value v is the ratio z / y, not yet said to be in lowest terms. -/
def RatV (w : World) (v : Value) (z : Int) (y : Nat) : Prop := ∃ u d, v = .agg #[u, .bool (decide (z < 0)), d] ∧ IsW w u (digs z.natAbs) ∧ IsW w d (digs y)
theorem RatV.below {w w' : World} {v : Value} {z : Int} {y : Nat} (h : RatV w v z y) (hb : Below w.heap.size w w') : RatV w' v z y := by
  obtain ⟨n, d, rfl, hn, hd⟩ := h
  exact ⟨n, d, rfl, hn.below hb, hd.below hb⟩

set_option maxHeartbeats 400000 in
set_option maxRecDepth 4000 in
theorem fits_w {w : World} {v : Value} {z : Int} {y : Nat} (hv : RatV w v z y) (hz : (digs z.natAbs).length < 1073741824) (hy : (digs y).length < 1073741824) :
    Calls Tryz.prog 85 #[v] w fun e w' => e = .returned (.bool (decide ((digs z.natAbs).length + (digs y).length ≤ 4096))) ∧ Below w.heap.size w w' := by
  obtain ⟨u, d, rfl, hu, hd⟩ := hv
  obtain ⟨un, hun⟩ : ∃ un, un = (digs z.natAbs).length := ⟨_, rfl⟩
  obtain ⟨dn, hdn⟩ : ∃ dn, dn = (digs y).length := ⟨_, rfl⟩
  obtain ⟨ua, uc, hue, -⟩ := hu
  obtain ⟨da, dc, hde, -⟩ := hd
  rw [← hun] at hue hz
  rw [← hdn] at hde hy
  rw [← hun, ← hdn]
  subst hue hde
  have HZ := Lib.hid hz
  have HY := Lib.hid hy
  clear hun hdn hz hy
  have hB0 : Hid (∀ o, Below w.heap.size w (w.alloc o)) := Lib.hid (fun o => (Below.refl _ _).alloc (Nat.le_refl _) o)
  have HW : Hid (wrap64 ((un : Int) + (dn : Int)) = (un : Int) + (dn : Int)) := Lib.hid (by unfold wrap64; have := HZ.out; have := HY.out; omega)
  obtain ⟨M, hM⟩ : ∃ M : Nat, M = 4096 := ⟨_, rfl⟩
  rw [← hM]
  have HM := Lib.hid hM
  clear hM
  go_enter Tryz.func85, Tryz.ntmps85
  go_wp2_with fail
  go_ret
  refine ⟨?_, hB0.out _⟩
  show Ending.returned (Value.bool (decide (wrap64 ((un : Int) + (dn : Int)) ≤ 4096))) = _
  have h1 := HW.out
  have h2 := HM.out
  rw [h1]
  congr 2
  exact decide_eq_decide.mpr (by omega)

set_option maxHeartbeats 400000 in
theorem one_w {w : World} :
    Calls Tryz.prog 113 #[] w fun e w' => (∃ r, e = .returned r ∧ IsW w' r (digs 1) ∧ (∀ b, r.ownBlock = some b → w.heap.size ≤ b)) ∧ Below w.heap.size w w' := by
  go_enter Tryz.func113, Tryz.ntmps113
  go_wp2_with fail
  have hB : Blk (w.alloc (Obj.cells #[Value.int IntKind.u32 1] 125)) w.heap.size 125 [1] := by
    show (w.heap.push _)[w.heap.size]? = _
    simp [U]
  have h1 : digs 1 = [1] := by unfold digs; simp [digs]
  have hI := hB.isW_all (by intro x hx; simp at hx; omega) 1 (by simp) (by simp)
  go_ret
  refine ⟨⟨_, rfl, h1 ▸ hI, fun x hx => ?_⟩, (Below.refl _ _).alloc (Nat.le_refl _) _⟩
  simp [Value.ownBlock] at hx
  omega
end Go.Proofs.YtafenoohjcpjgaaGreat

/- Ratios: nought. -/
namespace Go.Proofs.YtafenoohjcpjgaaGreat
open Go.RowKit

theorem irat : (Tryz.prog.info? 89).map (·.size) = some 3 := by kernel_rfl
theorem isW_nil0 (w : World) : IsW w (.slice none 0 0) (digs (0 : Int).natAbs) := by
  have h : digs (0 : Int).natAbs = [] := by show digs 0 = []; unfold digs; simp
  rw [h]
  exact ⟨none, 0, rfl, by simp, by simp, by intro x hx; simp at hx, by simp [Cells], by simp⟩

set_option maxHeartbeats 1000000 in
theorem zero_w {w : World} :
    Calls Tryz.prog 86 #[] w fun e w' => (∃ r, e = .returned r ∧ RatV w' r 0 1) ∧ Below w.heap.size w w' := by
  have HB0 : Hid (Below w.heap.size w (w.alloc (Obj.cells #[Value.slice none 0 0, Value.bool false, Value.slice none 0 0] 89))) := Lib.hid ((Below.refl _ _).alloc (Nat.le_refl _) _)
  go_enter Tryz.func86, Tryz.ntmps86
  go_wp2_with fail
  refine one_w.mono ?_
  rintro en w5 ⟨⟨r, rfl, hr, hro⟩, hbel5⟩
  obtain ⟨ra, rn, rc, hre⟩ := hr.form
  subst hre
  have hR5 : w5.heap[w.heap.size]? = some (.cells #[Value.slice none 0 0, Value.bool false, Value.slice none 0 0] 89 (0, 0)) := by
    rw [hbel5.block _ (by simp)]
    exact heap_alloc_new w _
  have r0 : w5.cell? ⟨w.heap.size, 0, none⟩ = some (Value.slice none 0 0) := by rw [cell_of_row _ _ _ _ _ _ hR5]; rfl
  have r1 : w5.cell? ⟨w.heap.size, 1, none⟩ = some (Value.bool false) := by rw [cell_of_row _ _ _ _ _ _ hR5]; rfl
  have r2 : w5.cell? ⟨w.heap.size, 2, none⟩ = some (Value.slice none 0 0) := by rw [cell_of_row _ _ _ _ _ _ hR5]; rfl
  have f0 := frozen_of_row _ _ 0 _ _ hR5
  have f1 := frozen_of_row _ _ 1 _ _ hR5
  have f2 := frozen_of_row _ _ 2 _ _ hR5
  have HR5 := Lib.hid hR5
  have HR := Lib.hid hr
  have HBW := Lib.hid (below_trans HB0.out hbel5)
  have HNE : Hid ((Value.slice ra rn rc).ownBlock ≠ some w.heap.size) := Lib.hid (fun e => by have := hro _ e; simp at this; omega)
  clear hR5 hr hro
  go_wp2_with fail
  have hset := (((Only.refl w.heap.size w5).setCell 0 (Value.slice none 0 0)).setCell 1 (Value.bool false)).setCell 2 (Value.slice ra rn rc)
  refine bodyPost_ret (results_cell_row rfl _ _ w.heap.size _ _ _ _ rfl (heap_setCell_same _ _ 2 _ _ _ (heap_setCell_same _ _ 1 _ _ _ (heap_setCell_same _ _ 0 _ _ _ HR5.out))) Tryz.underlying89 rfl irat) rfl ⟨⟨_, rfl, ?_⟩, below_only HBW.out hset (by omega)⟩
  exact ⟨Value.slice none 0 0, Value.slice ra rn rc, rfl, isW_nil0 _, HR.out.only hset HNE.out⟩
end Go.Proofs.YtafenoohjcpjgaaGreat

/- A struct's own block never holds the words of a slice: so a store into it leaves every slice of words. -/
namespace Go.Proofs.YtafenoohjcpjgaaGreat
open Go.RowKit

end Go.Proofs.YtafenoohjcpjgaaGreat

/- Rational numbers: what the operations of frac make of numerators and denominators. Plain arithmetic: no program. -/
namespace Go.Proofs.YtafenoohjcpjgaaGreat

/-- lowest terms -/
theorem mkRat_num {z : Int} {y : Nat} (hy : y ≠ 0) : (mkRat z y).num = z / (Nat.gcd z.natAbs y : Nat) := by
  rw [Rat.num_mkRat, if_neg hy, Nat.gcd_comm]
theorem mkRat_den {z : Int} {y : Nat} (hy : y ≠ 0) : (mkRat z y).den = y / Nat.gcd z.natAbs y := by
  rw [Rat.den_mkRat, if_neg hy, Nat.gcd_comm]
theorem gcd_dvd_int (z : Int) (y : Nat) : ((Nat.gcd z.natAbs y : Nat) : Int) ∣ z := Int.ofNat_dvd_left.2 (Nat.gcd_dvd_left _ _)
theorem mkRat_num_mul {z : Int} {y : Nat} (hy : y ≠ 0) : z = (mkRat z y).num * (Nat.gcd z.natAbs y : Nat) := by
  rw [mkRat_num hy]; exact (Int.ediv_mul_cancel (gcd_dvd_int z y)).symm

/-- Products. -/
theorem mul_num (a b : Rat) : (a * b).num = a.num / (Nat.gcd a.num.natAbs b.den : Nat) * (b.num / (Nat.gcd b.num.natAbs a.den : Nat)) := by
  show (Rat.mul a b).num = _
  delta Rat.mul
  dsimp only
  simp only [Int.divExact_eq_ediv]
theorem mul_den (a b : Rat) : (a * b).den = a.den / Nat.gcd b.num.natAbs a.den * (b.den / Nat.gcd a.num.natAbs b.den) := by
  show (Rat.mul a b).den = _
  delta Rat.mul
  dsimp only
  simp only [Nat.divExact_eq_div]

theorem neg_num' (a : Rat) : (-a).num = -a.num := rfl
theorem inv_num_natAbs (a : Rat) : (a⁻¹).num.natAbs = if a.num = 0 then 0 else a.den := by
  rw [Rat.num_inv, Int.natAbs_mul]
  by_cases h : a.num = 0
  · simp [h]
  · simp [h, Int.natAbs_sign_of_ne_zero h]
theorem inv_num_neg (a : Rat) : decide ((a⁻¹).num < 0) = decide (a.num < 0) := by
  rw [Rat.num_inv]
  have hd : (0 : Int) < a.den := by have := a.den_pos; omega
  apply decide_eq_decide.2
  rcases Int.lt_trichotomy a.num 0 with h | h | h
  · rw [Int.sign_eq_neg_one_of_neg h]; omega
  · rw [h]; simp
  · rw [Int.sign_eq_one_of_pos h]; omega

/-- Order. -/
def cmpQ (a b : Rat) : Int := if a < b then -1 else if a = b then 0 else 1
theorem cmpQ_swap (a b : Rat) : cmpQ b a = - cmpQ a b := by
  unfold cmpQ
  by_cases h : a < b
  · have : ¬ b < a := Rat.not_lt.2 (Rat.le_of_lt h)
    have h3 : b ≠ a := fun e => by subst e; exact Rat.lt_irrefl h
    simp [h, this, h3]
  · by_cases h2 : a = b
    · subst h2; simp [Rat.lt_irrefl]
    · have h3 : b < a := Rat.lt_of_le_of_ne (Rat.not_lt.1 h) (Ne.symm h2)
      simp [h, h2, h3]

theorem cmpQ_num (a b : Rat) : cmpQ a b = (a.num * b.den - b.num * a.den).sign := by
  unfold cmpQ
  by_cases h : a < b
  · rw [if_pos h, Int.sign_eq_neg_one_of_neg (by have := (Rat.lt_iff a b).1 h; omega)]
  · rw [if_neg h]
    by_cases h2 : a = b
    · subst h2; rw [if_pos rfl, Int.sub_self]; rfl
    · rw [if_neg h2, Int.sign_eq_one_of_pos]
      have h3 : b < a := Rat.lt_of_le_of_ne (Rat.not_lt.1 h) (Ne.symm h2)
      have := (Rat.lt_iff b a).1 h3
      omega
end Go.Proofs.YtafenoohjcpjgaaGreat

/- Ratios: lowest terms. -/
namespace Go.Proofs.YtafenoohjcpjgaaGreat
open Go.RowKit

/-- The value v is the ratio q in lowest terms. -/
def RatQ (w : World) (v : Value) (q : Rat) : Prop := RatV w v q.num q.den
theorem RatQ.below {w w' : World} {v : Value} {q : Rat} (h : RatQ w v q) (hb : Below w.heap.size w w') : RatQ w' v q := RatV.below h hb

/-- A block with a ratio in it holds no words. -/
theorem rat_cells {u d : Value} {b : Bool} (hu : ∃ a n c, u = .slice a n c) (hd : ∃ a n c, d = .slice a n c) : ∀ (j k : Nat), (#[u, .bool b, d] : Array Value)[j]? ≠ some (U k) := by
  obtain ⟨a, n, c, rfl⟩ := hu
  obtain ⟨a', n', c', rfl⟩ := hd
  intro j k h
  match j, h with
  | 0, h => simp [U] at h
  | 1, h => simp [U] at h
  | 2, h => simp [U] at h
  | (j + 3), h => simp at h

theorem zero_rat_cells : ∀ (j k : Nat), (#[Value.slice none 0 0, Value.bool false, Value.slice none 0 0] : Array Value)[j]? ≠ some (U k) := rat_cells ⟨_, _, _, rfl⟩ ⟨_, _, _, rfl⟩

/-- The result's block, filled. -/
def rat3 (w : World) (R : Nat) (u : Value) (b : Bool) (d : Value) : World := ((w.setCell ⟨R, 0, none⟩ u).setCell ⟨R, 1, none⟩ (.bool b)).setCell ⟨R, 2, none⟩ d
theorem rat3_only (w : World) (R : Nat) (u : Value) (b : Bool) (d : Value) : Only R w (rat3 w R u b d) := (((Only.refl R w).setCell 0 u).setCell 1 (.bool b)).setCell 2 d
theorem rat3_heap {w : World} {R : Nat} {u d : Value} {b : Bool} {t : TypeId} (hR : w.heap[R]? = some (.cells #[Value.slice none 0 0, Value.bool false, Value.slice none 0 0] t (0, 0))) :
    (rat3 w R u b d).heap[R]? = some (.cells #[u, .bool b, d] t (0, 0)) :=
  heap_setCell_same _ _ 2 _ _ _ (heap_setCell_same _ _ 1 _ _ _ (heap_setCell_same _ _ 0 _ _ _ hR))
theorem rat3_q {w : World} {R : Nat} {u d : Value} {t : TypeId} {q : Rat} (hR : w.heap[R]? = some (.cells #[Value.slice none 0 0, Value.bool false, Value.slice none 0 0] t (0, 0)))
    (hu : IsW w u (digs q.num.natAbs)) (hd : IsW w d (digs q.den)) : RatQ (rat3 w R u (decide (q.num < 0)) d) (.agg #[u, .bool (decide (q.num < 0)), d]) q :=
  ⟨u, d, rfl, hu.other hR zero_rat_cells (rat3_only _ _ _ _ _), hd.other hR zero_rat_cells (rat3_only _ _ _ _ _)⟩

set_option maxHeartbeats 1000000 in
theorem lowest_w {w : World} {v d : Value} {z : Int} {y : Nat} (hv : NumV w v z) (hd : IsW w d (digs y)) (hy : 0 < y) (hz : (digs z.natAbs).length < 1073741824) (hyl : (digs y).length < 1073741824) :
    Calls Tryz.prog 143 #[v, d] w fun e w' => (∃ r, e = .returned r ∧ RatQ w' r (mkRat z y)) ∧ Below w.heap.size w w' := by
  obtain ⟨u, rfl, hu⟩ := hv
  have HU := Lib.hid hu
  have HD := Lib.hid hd
  have HZ := Lib.hid hz
  have HYL := Lib.hid hyl
  obtain ⟨ua, uc, hue, -⟩ := hu
  obtain ⟨un, hun⟩ : ∃ un, un = (digs z.natAbs).length := ⟨_, rfl⟩
  rw [← hun] at hue
  subst hue
  obtain ⟨da, dc, hde, -⟩ := hd
  obtain ⟨dn, hdn⟩ : ∃ dn, dn = (digs y).length := ⟨_, rfl⟩
  rw [← hdn] at hde
  subst hde
  clear hun hdn hz hyl
  obtain ⟨g, hg⟩ : ∃ g, g = Nat.gcd z.natAbs y := ⟨_, rfl⟩
  have HG := Lib.hid hg
  have hg0 : 0 < g := by rw [hg]; exact Nat.gcd_pos_of_pos_right _ hy
  clear hg
  obtain ⟨q, hq⟩ : ∃ q, q = mkRat z y := ⟨_, rfl⟩
  have HQ := Lib.hid hq
  rw [← hq]
  clear hq
  have hy0 : Hid (y ≠ 0) := Lib.hid (by omega)
  have HB0 : Hid (Below w.heap.size w ((w.alloc (Obj.cells #[Value.slice ua un uc, Value.bool (decide (z < 0))] 87)).alloc (Obj.cells #[Value.slice none 0 0, Value.bool false, Value.slice none 0 0] 89))) :=
    Lib.hid (((Below.refl _ _).alloc (Nat.le_refl _) _).alloc (by simp) _)
  go_enter Tryz.func143, Tryz.ntmps143
  go_wp2_with fail
  refine (gcd_w (HU.out.below HB0.out) (HD.out.below HB0.out) HZ.out HYL.out).mono ?_
  rintro en w3 ⟨⟨gv, rfl, hgv, -⟩, hbel3⟩
  have HGV : Hid (IsW w3 gv (digs g)) := Lib.hid (by rw [HG.out]; exact hgv)
  have hb1 : w3.heap[w.heap.size]? = some (.cells #[Value.slice ua un uc, Value.bool (decide (z < 0))] 87 (0, 0)) :=
    (hbel3.block _ (by simp; omega)).trans (heap_alloc2_old w _ _)
  have hb2 : w3.heap[w.heap.size + 1]? = some (.cells #[Value.slice none 0 0, Value.bool false, Value.slice none 0 0] 89 (0, 0)) :=
    (hbel3.block _ (by simp)).trans (heap_alloc2_new w _ _)
  have HB2 := Lib.hid hb2
  have HBel := Lib.hid (below_trans HB0.out hbel3)
  have c0 : w3.cell? ⟨w.heap.size, 0, none⟩ = some (Value.slice ua un uc) := by rw [cell_of_row _ _ _ _ _ _ hb1]; rfl
  have c1 : w3.cell? ⟨w.heap.size, 1, none⟩ = some (Value.bool (decide (z < 0))) := by rw [cell_of_row _ _ _ _ _ _ hb1]; rfl
  clear hgv hb1 hb2 hbel3
  go_wp2_with fail
  refine (shrink_w (q := q.num) ⟨_, rfl, HU.out.below HBel.out⟩ HGV.out hg0 (by rw [HQ.out, HG.out]; exact mkRat_num_mul hy0.out) HZ.out).mono ?_
  rintro en w4 ⟨⟨r1, rfl, r1u, rfl, hr1⟩, hbel4⟩
  obtain ⟨ra, rn, rc, hre⟩ := hr1.form
  subst hre
  have HR1 := Lib.hid hr1
  have HB24 : Hid (w4.heap[w.heap.size + 1]? = some (.cells #[Value.slice none 0 0, Value.bool false, Value.slice none 0 0] 89 (0, 0))) := Lib.hid ((hbel4.block _ (by have := lt_of_block HB2.out; omega)).trans HB2.out)
  have HBel4 := Lib.hid (below_trans HBel.out hbel4)
  have HGV4 := Lib.hid (HGV.out.below hbel4)
  clear hr1 hbel4 c0 c1
  go_wp2_with fail
  refine (over_w (HD.out.below HBel4.out) HGV4.out hg0 HYL.out).mono ?_
  rintro en w5 ⟨⟨d1, rfl, hd1, -⟩, hbel5⟩
  obtain ⟨ea, en, ec, hde⟩ := hd1.form
  subst hde
  have hR5 : w5.heap[w.heap.size + 1]? = some (.cells #[Value.slice none 0 0, Value.bool false, Value.slice none 0 0] 89 (0, 0)) := (hbel5.block _ (by have := lt_of_block HB24.out; omega)).trans HB24.out
  have r0 : w5.cell? ⟨w.heap.size + 1, 0, none⟩ = some (Value.slice none 0 0) := by rw [cell_of_row _ _ _ _ _ _ hR5]; rfl
  have r1 : w5.cell? ⟨w.heap.size + 1, 1, none⟩ = some (Value.bool false) := by rw [cell_of_row _ _ _ _ _ _ hR5]; rfl
  have r2 : w5.cell? ⟨w.heap.size + 1, 2, none⟩ = some (Value.slice none 0 0) := by rw [cell_of_row _ _ _ _ _ _ hR5]; rfl
  have f0 := frozen_of_row _ _ 0 _ _ hR5
  have f1 := frozen_of_row _ _ 1 _ _ hR5
  have f2 := frozen_of_row _ _ 2 _ _ hR5
  have HR5 := Lib.hid hR5
  have HBW := Lib.hid (below_trans HBel4.out hbel5)
  have HN := Lib.hid (HR1.out.below hbel5)
  have HD1 : Hid (IsW w5 (Value.slice ea en ec) (digs q.den)) := Lib.hid (by rw [HQ.out, mkRat_den hy0.out, ← HG.out]; exact hd1)
  clear hR5 hd1 hbel5
  go_wp2_with fail
  exact bodyPost_ret (results_cell_row rfl _ _ (w.heap.size + 1) _ _ _ _ rfl (rat3_heap HR5.out) Tryz.underlying89 rfl irat) rfl ⟨⟨_, rfl, rat3_q HR5.out HN.out HD1.out⟩, below_only HBW.out (rat3_only _ _ _ _ _) (by omega)⟩
end Go.Proofs.YtafenoohjcpjgaaGreat
