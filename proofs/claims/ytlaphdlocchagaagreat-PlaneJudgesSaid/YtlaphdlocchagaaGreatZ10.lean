/- Several texts in one: Ws, Wt, Wu, Wv, Wx. -/
import Derived.Test.YtlaphdlocchagaaGreatZ9
/- Numbers with a sign. -/
namespace Go.Proofs.YtlaphdlocchagaaGreat
open Go.RowKit

theorem inum : (Tryz.prog.info? 91).map (·.size) = some 2 := by kernel_rfl

/-- A number: its words, and whether it is below 0. -/
def NumV (w : World) (v : Value) (z : Int) : Prop := ∃ u, v = .agg #[u, .bool (decide (z < 0))] ∧ IsW w u (digs z.natAbs)
theorem NumV.below {w w' : World} {v : Value} {z : Int} (h : NumV w v z) (hb : Below w.heap.size w w') : NumV w' v z := by
  obtain ⟨u, rfl, hu⟩ := h
  exact ⟨u, rfl, hu.below hb⟩

set_option maxHeartbeats 400000 in
theorem signed_l {w : World} {v : Value} {x : Nat} (hv : IsW w v (digs x)) (b : Bool) :
    Calls Tryz.prog 141 #[v, .bool b] w fun e w' => e = .returned (.agg #[v, .bool (b && !zerB x)]) ∧ Below w.heap.size w w' := by
  have HV := Lib.hid hv
  obtain ⟨l, hl⟩ : ∃ l, l = digs x := ⟨_, rfl⟩
  rw [← hl] at hv
  obtain ⟨a, cap, hve, -⟩ := hv
  subst hve
  clear hl
  have hB0 : Hid (∀ o, Below w.heap.size w (w.alloc o)) := Lib.hid (fun o => (Below.refl _ _).alloc (Nat.le_refl _) o)
  cases b with
  | false =>
    go_enter Tryz.func141, Tryz.ntmps141
    go_wp2_with fail
    exact bodyPost_ret (results_cell_row rfl _ _ w.heap.size _ _ _ _ rfl (heap_alloc_new _ _) Tryz.underlying91 rfl inum) rfl ⟨by simp, hB0.out _⟩
  | true =>
    go_enter Tryz.func141, Tryz.ntmps141
    go_wp2_with fail
    refine (isZero_w (HV.out.below (hB0.out _))).mono ?_
    rintro en w1 ⟨rfl, rfl⟩
    go_wp2_with fail
    exact bodyPost_ret (results_cell_row rfl _ _ w.heap.size _ _ _ _ rfl (heap_alloc_new _ _) Tryz.underlying91 rfl inum) rfl ⟨by simp, hB0.out _⟩
/-- A number out of its words and its sign. -/
theorem numV_of {w : World} {v : Value} {x : Nat} (hv : IsW w v (digs x)) (b : Bool) : NumV w (.agg #[v, .bool (b && !zerB x)]) (if b then -(x : Int) else x) := by
  refine ⟨v, ?_, ?_⟩
  · congr 3
    cases b with
    | false => simp
    | true => by_cases h : x = 0 <;> simp [zerB, h] <;> omega
  · cases b with
    | false => simpa using hv
    | true => simpa using hv

theorem signed_w {w : World} {v : Value} {x : Nat} (hv : IsW w v (digs x)) (b : Bool) :
    Calls Tryz.prog 141 #[v, .bool b] w fun e w' => (∃ r, e = .returned (.agg #[v, r]) ∧ NumV w' (.agg #[v, r]) (if b then -(x : Int) else x)) ∧ Below w.heap.size w w' := by
  refine (signed_l hv b).mono ?_
  rintro e w' ⟨rfl, hb⟩
  exact ⟨⟨_, rfl, numV_of (hv.below hb) b⟩, hb⟩

set_option maxHeartbeats 400000 in
theorem fromInt_w {w : World} (n : Int) (h1 : -9223372036854775808 ≤ n) (h2 : n ≤ 9223372036854775807) :
    Calls Tryz.prog 161 #[.int .i64 n] w fun e w' => (∃ r, e = .returned r ∧ NumV w' r n) ∧ Below w.heap.size w w' := by
  have hB0 : Hid (∀ o, Below w.heap.size w (w.alloc o)) := Lib.hid (fun o => (Below.refl _ _).alloc (Nat.le_refl _) o)
  by_cases hn : n < 0
  · obtain ⟨k, hk⟩ : ∃ k : Nat, n = -(k : Int) := ⟨n.natAbs, by omega⟩
    subst hk
    have w1 : IntKind.u64.wrap (-IntKind.u64.wrap (-(k : Int))) = (k : Int) := by
      rw [IntKind.wrap_u64, IntKind.wrap_u64]; omega
    go_enter Tryz.func161, Tryz.ntmps161
    go_wp2_with fail
    refine (fromUint_q k (by omega) _).mono ?_
    rintro en w2 ⟨⟨r, rfl, hr, hro⟩, hbel⟩
    have HR := Lib.hid hr
    have HNE : Hid (r.ownBlock ≠ some w.heap.size) := Lib.hid (fun e => by have := hro _ e; simp at this; omega)
    obtain ⟨ra, rc, hre, -⟩ := hr
    obtain ⟨rn, hrn⟩ : ∃ rn, rn = (digs k).length := ⟨_, rfl⟩
    rw [← hrn] at hre
    subst hre
    have h0 : w2.heap[w.heap.size]? = some (.cells #[Value.slice none 0 0, Value.bool false] 91 (0, 0)) := by
      rw [hbel.block _ (by simp)]; exact heap_alloc_new _ _
    have HBW := Lib.hid (below_trans (hB0.out _) hbel)
    clear hro hrn
    go_wp2_with ((with_reducible refine at_store ?_); refine wpList_store_var rfl _ _ _ rfl w.heap.size rfl _ rfl _ _ h0 inum rfl (by intro v hv; simp at hv; rcases hv with rfl | rfl <;> rfl) ?_; intro w9 h9 hon9; refine halt ?_)
    refine go_on ?_
    go_wp2_with fail
    exact bodyPost_ret (results_cell_row rfl _ _ w.heap.size _ _ _ _ rfl h9 Tryz.underlying91 rfl inum) rfl ⟨⟨_, rfl, .slice ra rn rc, by rw [decide_eq_true (show -(k : Int) < 0 by omega)], by rw [Int.natAbs_neg, Int.natAbs_natCast]; exact HR.out.only hon9 HNE.out⟩, below_only HBW.out hon9 (Nat.le_refl _)⟩
  · obtain ⟨k, hk⟩ : ∃ k : Nat, n = (k : Int) := ⟨n.natAbs, by omega⟩
    subst hk
    go_enter Tryz.func161, Tryz.ntmps161
    go_wp2_with fail
    refine (fromUint_q k (by omega) _).mono ?_
    rintro en w2 ⟨⟨r, rfl, hr, hro⟩, hbel⟩
    have HR := Lib.hid hr
    have HNE : Hid (r.ownBlock ≠ some w.heap.size) := Lib.hid (fun e => by have := hro _ e; simp at this; omega)
    obtain ⟨ra, rc, hre, -⟩ := hr
    obtain ⟨rn, hrn⟩ : ∃ rn, rn = (digs k).length := ⟨_, rfl⟩
    rw [← hrn] at hre
    subst hre
    have h0 : w2.heap[w.heap.size]? = some (.cells #[Value.slice none 0 0, Value.bool false] 91 (0, 0)) := by
      rw [hbel.block _ (by simp)]; exact heap_alloc_new _ _
    have HBW := Lib.hid (below_trans (hB0.out _) hbel)
    clear hro hrn
    go_wp2_with ((with_reducible refine at_store ?_); refine wpList_store_var rfl _ _ _ rfl w.heap.size rfl _ rfl _ _ h0 inum rfl (by intro v hv; simp at hv; rcases hv with rfl | rfl <;> rfl) ?_; intro w9 h9 hon9; refine halt ?_)
    refine go_on ?_
    go_wp2_with fail
    exact bodyPost_ret (results_cell_row rfl _ _ w.heap.size _ _ _ _ rfl h9 Tryz.underlying91 rfl inum) rfl ⟨⟨_, rfl, .slice ra rn rc, by rw [decide_eq_false (show ¬ (k : Int) < 0 by omega)], by rw [Int.natAbs_natCast]; exact HR.out.only hon9 HNE.out⟩, below_only HBW.out hon9 (Nat.le_refl _)⟩

set_option maxHeartbeats 400000 in
theorem sign_w {w : World} {v : Value} {z : Int} (hv : NumV w v z) :
    Calls Tryz.prog 74 #[v] w fun e w' => e = .returned (.int .i64 z.sign) ∧ Below w.heap.size w w' := by
  obtain ⟨u, rfl, hu⟩ := hv
  have HU := Lib.hid hu
  obtain ⟨l, hl⟩ : ∃ l, l = digs z.natAbs := ⟨_, rfl⟩
  rw [← hl] at hu
  obtain ⟨a, cap, hve, -⟩ := hu
  subst hve
  clear hl
  have hB0 : Hid (∀ o, Below w.heap.size w (w.alloc o)) := Lib.hid (fun o => (Below.refl _ _).alloc (Nat.le_refl _) o)
  go_enter Tryz.func74, Tryz.ntmps74
  go_wp2_with fail
  refine (isZero_w (HU.out.below (hB0.out _))).mono ?_
  rintro en w1 ⟨rfl, rfl⟩
  by_cases hz : z = 0
  · have hz1 := zerB_true (x := z.natAbs) (by omega)
    have HZ := Lib.hid hz
    clear hz
    go_wp2_with fail
    go_ret
    exact ⟨ret_int (by rw [HZ.out]; rfl), hB0.out _⟩
  · have hz1 := zerB_false (x := z.natAbs) (by omega)
    by_cases hn : z < 0
    · have hd : decide (z < 0) = true := by simp [hn]
      have HN := Lib.hid hn
      clear hz hn
      go_wp2_with fail
      go_ret
      exact ⟨ret_int (by rw [Int.sign_eq_neg_one_of_neg HN.out]), hB0.out _⟩
    · have hd : decide (z < 0) = false := by simp; omega
      have HN : Hid (0 < z) := Lib.hid (by omega)
      clear hz hn
      go_wp2_with fail
      go_ret
      exact ⟨ret_int (by rw [Int.sign_eq_one_of_pos HN.out]), hB0.out _⟩
end Go.Proofs.YtlaphdlocchagaaGreat

/- Numbers with a sign: products, scaling, shrinking. -/
namespace Go.Proofs.YtlaphdlocchagaaGreat
open Go.RowKit

theorem frozen_below {w w' : World} {b o : Nat} (hb : Below w.heap.size w w') (hc : (w.cell? ⟨b, o, none⟩).isSome = true) (hf : w.frozen? ⟨b, o, none⟩ = false) : w'.frozen? ⟨b, o, none⟩ = false := by
  rw [hb.frozen (p := ⟨b, o, none⟩)]
  · exact hf
  · show b < w.heap.size
    rcases Nat.lt_or_ge b w.heap.size with h | h
    · exact h
    · simp [World.cell?, Array.getElem?_eq_none h] at hc

theorem IsW.form {w : World} {v : Value} {l : List Nat} (h : IsW w v l) : ∃ a n c, v = .slice a n c := by obtain ⟨a, c, h, -⟩ := h; exact ⟨a, _, c, h⟩

theorem sgn_mul_nat (z : Int) (y : Nat) : (if decide (z < 0) = true then -((z.natAbs * y : Nat) : Int) else ((z.natAbs * y : Nat) : Int)) = z * y := by
  by_cases h : z < 0
  · obtain ⟨k, rfl⟩ : ∃ k : Nat, z = -(k : Int) := ⟨z.natAbs, by omega⟩
    have h9 : k ≠ 0 := by intro e; subst e; simp at h
    have h8 : 0 < k := by omega
    simp [h8, Int.neg_mul]
  · obtain ⟨k, rfl⟩ : ∃ k : Nat, z = (k : Int) := ⟨z.natAbs, by omega⟩
    simp [h]

set_option maxHeartbeats 1000000 in
theorem scale_w {w : World} {v d : Value} {z : Int} {y : Nat} (hv : NumV w v z) (hd : IsW w d (digs y)) (hlen : (digs z.natAbs).length + (digs y).length ≤ 536870912) :
    Calls Tryz.prog 157 #[v, d] w fun e w' => (∃ r, e = .returned r ∧ NumV w' r (z * y)) ∧ Below w.heap.size w w' := by
  obtain ⟨u, rfl, hu⟩ := hv
  have HU := Lib.hid hu
  have HD := Lib.hid hd
  have HL := Lib.hid hlen
  obtain ⟨ua, uc, hue, -⟩ := hu
  obtain ⟨un, hun⟩ : ∃ un, un = (digs z.natAbs).length := ⟨_, rfl⟩
  rw [← hun] at hue
  subst hue
  clear hd hlen hun
  go_enter Tryz.func157, Tryz.ntmps157
  go_wp2_with fail
  have HB0 : Hid (Below w.heap.size w ((w.alloc (Obj.cells #[Value.slice ua un uc, Value.bool (decide (z < 0))] 91)).alloc (Obj.cells #[Value.slice none 0 0, Value.bool false] 91))) :=
    Lib.hid (((Below.refl _ _).alloc (Nat.le_refl _) _).alloc (by simp) _)
  have R0 : Hid (∀ o v, (#[Value.slice none 0 0, Value.bool false] : Array Value)[o]? = some v → ((w.alloc (Obj.cells #[Value.slice ua un uc, Value.bool (decide (z < 0))] 91)).alloc (Obj.cells #[Value.slice none 0 0, Value.bool false] 91)).drew.cell? ⟨w.heap.size + 1, o, none⟩ = some v ∧ ((w.alloc (Obj.cells #[Value.slice ua un uc, Value.bool (decide (z < 0))] 91)).alloc (Obj.cells #[Value.slice none 0 0, Value.bool false] 91)).drew.frozen? ⟨w.heap.size + 1, o, none⟩ = false) :=
    Lib.hid (fun o v h => by
      have h9 := heap_alloc2_new w (Obj.cells #[Value.slice ua un uc, Value.bool (decide (z < 0))] 91) (Obj.cells #[Value.slice none 0 0, Value.bool false] 91)
      exact ⟨by rw [World.cell?_drew, cell_of_row _ _ _ _ _ _ h9]; exact h, by rw [World.frozen?_drew, frozen_of_row _ _ _ _ _ h9]⟩)
  go_region_held3 (fun w' => w'.cell? ⟨w.heap.size, 0, none⟩ = some (.slice ua un uc) ∧ w'.cell? ⟨w.heap.size, 1, none⟩ = some (.bool (decide (z < 0))))
    (((try dsimp only); refine ⟨?_, ?_⟩ <;> (first | (refine cell_below ‹Below _ _ _› ?_; first | assumption | (simp [*]; done)) | go_keep)))
    (first | (go_at_call 104; refine (mul_w (HU.out.below HB0.out).drew (HD.out.below HB0.out).drew HL.out).mono ?_; rintro en w4 ⟨⟨r, rfl, hr, hro⟩, hbel4⟩; obtain ⟨ra, rn, rc, hre⟩ := hr.form; subst hre) | (go_at_call 141; refine (signed_l hr (decide (z < 0))).mono ?_; rintro en w5 ⟨rfl, hbel5⟩; have r0 := cell_below hbel5 (cell_below hbel4 (R0.out 0 _ rfl).1); have r1 := cell_below hbel5 (cell_below hbel4 (R0.out 1 _ rfl).1); have f0 := frozen_below hbel5 (by rw [cell_below hbel4 (R0.out 0 _ rfl).1]; rfl) (frozen_below hbel4 (by rw [(R0.out 0 _ rfl).1]; rfl) (R0.out 0 _ rfl).2); have f1 := frozen_below hbel5 (by rw [cell_below hbel4 (R0.out 1 _ rfl).1]; rfl) (frozen_below hbel4 (by rw [(R0.out 1 _ rfl).1]; rfl) (R0.out 1 _ rfl).2)))
  have hR5 : w5.heap[w.heap.size + 1]? = some (.cells #[Value.slice none 0 0, Value.bool false] 91 (0, 0)) := by
    rw [hbel5.block _ (by have := hbel4.size; simp at this; omega), hbel4.block _ (by simp)]
    exact heap_alloc2_new w _ _
  have HR5 := Lib.hid hR5
  have HBW := Lib.hid (below_trans (below_trans HB0.out (below_undrew hbel4)) hbel5)
  have HNV : Hid (NumV w5 (.agg #[Value.slice ra rn rc, Value.bool (decide (z < 0) && !zerB (z.natAbs * y))]) (z * y)) := Lib.hid (by
    have h9 := numV_of (hr.below hbel5) (decide (z < 0))
    rwa [sgn_mul_nat] at h9)
  clear hR5 r0 r1 f0 f1 hro
  go_wp2_with fail
  have hset := ((Only.refl (w.heap.size + 1) w5).setCell 0 (Value.slice ra rn rc)).setCell 1 (Value.bool (decide (z < 0) && !zerB (z.natAbs * y)))
  refine bodyPost_ret (results_cell_row rfl _ _ (w.heap.size + 1) _ _ _ _ rfl (heap_setCell_same _ _ 1 _ _ _ (heap_setCell_same _ _ 0 _ _ _ HR5.out)) Tryz.underlying91 rfl inum) rfl ⟨⟨_, rfl, ?_⟩, below_only HBW.out hset (by omega)⟩
  obtain ⟨u9, h8, h9⟩ := HNV.out
  simp only [Value.agg.injEq, Array.mk.injEq, List.cons.injEq, and_true, Value.bool.injEq] at h8
  obtain ⟨h7, hb⟩ := h8
  subst h7
  exact ⟨_, by rw [hb]; rfl, h9.other HR5.out (num_cells9 ⟨_, _, _, rfl⟩) hset⟩
end Go.Proofs.YtlaphdlocchagaaGreat

/- Numbers with a sign: shrinking. -/
namespace Go.Proofs.YtlaphdlocchagaaGreat
open Go.RowKit

theorem sgn_div_nat {z q : Int} {y : Nat} (hy : 0 < y) (hq : z = q * y) : (if decide (z < 0) = true then -((z.natAbs / y : Nat) : Int) else ((z.natAbs / y : Nat) : Int)) = q := by
  subst hq
  have hy' : (0 : Int) < y := by omega
  rw [Int.natAbs_mul, Int.natAbs_natCast, Nat.mul_div_cancel _ hy]
  by_cases h : q < 0
  · have h9 : q * (y : Int) < 0 := Int.mul_neg_of_neg_of_pos h hy'
    simp only [h9, decide_true, if_true]
    omega
  · have h9 : ¬ q * (y : Int) < 0 := by
      have := Int.mul_nonneg (by omega : 0 ≤ q) (Int.le_of_lt hy')
      omega
    simp only [h9, decide_false]
    simp
    omega

set_option maxHeartbeats 1000000 in
theorem shrink_w {w : World} {v d : Value} {z : Int} {y : Nat} (hv : NumV w v z) (hd : IsW w d (digs y)) {q : Int} (hy : 0 < y) (hq : z = q * y) (hlen : (digs z.natAbs).length < 1073741824) :
    Calls Tryz.prog 131 #[v, d] w fun e w' => (∃ r, e = .returned r ∧ NumV w' r q) ∧ Below w.heap.size w w' := by
  obtain ⟨u, rfl, hu⟩ := hv
  have HU := Lib.hid hu
  have HD := Lib.hid hd
  have HL := Lib.hid hlen
  have HQ := Lib.hid hq
  clear hq
  obtain ⟨ua, uc, hue, -⟩ := hu
  obtain ⟨un, hun⟩ : ∃ un, un = (digs z.natAbs).length := ⟨_, rfl⟩
  rw [← hun] at hue
  subst hue
  clear hd hlen hun
  go_enter Tryz.func131, Tryz.ntmps131
  go_wp2_with fail
  have HB0 : Hid (Below w.heap.size w ((w.alloc (Obj.cells #[Value.slice ua un uc, Value.bool (decide (z < 0))] 91)).alloc (Obj.cells #[Value.slice none 0 0, Value.bool false] 91))) :=
    Lib.hid (((Below.refl _ _).alloc (Nat.le_refl _) _).alloc (by simp) _)
  have R0 : Hid (∀ o v, (#[Value.slice none 0 0, Value.bool false] : Array Value)[o]? = some v → ((w.alloc (Obj.cells #[Value.slice ua un uc, Value.bool (decide (z < 0))] 91)).alloc (Obj.cells #[Value.slice none 0 0, Value.bool false] 91)).drew.cell? ⟨w.heap.size + 1, o, none⟩ = some v ∧ ((w.alloc (Obj.cells #[Value.slice ua un uc, Value.bool (decide (z < 0))] 91)).alloc (Obj.cells #[Value.slice none 0 0, Value.bool false] 91)).drew.frozen? ⟨w.heap.size + 1, o, none⟩ = false) :=
    Lib.hid (fun o v h => by
      have h9 := heap_alloc2_new w (Obj.cells #[Value.slice ua un uc, Value.bool (decide (z < 0))] 91) (Obj.cells #[Value.slice none 0 0, Value.bool false] 91)
      exact ⟨by rw [World.cell?_drew, cell_of_row _ _ _ _ _ _ h9]; exact h, by rw [World.frozen?_drew, frozen_of_row _ _ _ _ _ h9]⟩)
  go_region_held3 (fun w' => w'.cell? ⟨w.heap.size, 0, none⟩ = some (.slice ua un uc) ∧ w'.cell? ⟨w.heap.size, 1, none⟩ = some (.bool (decide (z < 0))))
    (((try dsimp only); refine ⟨?_, ?_⟩ <;> (first | (refine cell_below ‹Below _ _ _› ?_; first | assumption | (simp [*]; done)) | go_keep)))
    (first | (go_at_call 133; refine (over_w (HU.out.below HB0.out).drew (HD.out.below HB0.out).drew hy HL.out).mono ?_; rintro en w4 ⟨⟨r, rfl, hr, hro⟩, hbel4⟩; obtain ⟨ra, rn, rc, hre⟩ := hr.form; subst hre) | (go_at_call 141; refine (signed_l hr (decide (z < 0))).mono ?_; rintro en w5 ⟨rfl, hbel5⟩; have r0 := cell_below hbel5 (cell_below hbel4 (R0.out 0 _ rfl).1); have r1 := cell_below hbel5 (cell_below hbel4 (R0.out 1 _ rfl).1); have f0 := frozen_below hbel5 (by rw [cell_below hbel4 (R0.out 0 _ rfl).1]; rfl) (frozen_below hbel4 (by rw [(R0.out 0 _ rfl).1]; rfl) (R0.out 0 _ rfl).2); have f1 := frozen_below hbel5 (by rw [cell_below hbel4 (R0.out 1 _ rfl).1]; rfl) (frozen_below hbel4 (by rw [(R0.out 1 _ rfl).1]; rfl) (R0.out 1 _ rfl).2)))
  have hR5 : w5.heap[w.heap.size + 1]? = some (.cells #[Value.slice none 0 0, Value.bool false] 91 (0, 0)) := by
    rw [hbel5.block _ (by have := hbel4.size; simp at this; omega), hbel4.block _ (by simp)]
    exact heap_alloc2_new w _ _
  have HR5 := Lib.hid hR5
  have HBW := Lib.hid (below_trans (below_trans HB0.out (below_undrew hbel4)) hbel5)
  have HNV : Hid (NumV w5 (.agg #[Value.slice ra rn rc, Value.bool (decide (z < 0) && !zerB (z.natAbs / y))]) q) := Lib.hid (by
    have h9 := numV_of (hr.below hbel5) (decide (z < 0))
    rwa [sgn_div_nat hy HQ.out] at h9)
  clear hR5 r0 r1 f0 f1 hro
  go_wp2_with fail
  have hset := ((Only.refl (w.heap.size + 1) w5).setCell 0 (Value.slice ra rn rc)).setCell 1 (Value.bool (decide (z < 0) && !zerB (z.natAbs / y)))
  refine bodyPost_ret (results_cell_row rfl _ _ (w.heap.size + 1) _ _ _ _ rfl (heap_setCell_same _ _ 1 _ _ _ (heap_setCell_same _ _ 0 _ _ _ HR5.out)) Tryz.underlying91 rfl inum) rfl ⟨⟨_, rfl, ?_⟩, below_only HBW.out hset (by omega)⟩
  obtain ⟨u9, h8, h9⟩ := HNV.out
  simp only [Value.agg.injEq, Array.mk.injEq, List.cons.injEq, and_true, Value.bool.injEq] at h8
  obtain ⟨h7, hb⟩ := h8
  subst h7
  exact ⟨_, by rw [hb]; rfl, h9.other HR5.out (num_cells9 ⟨_, _, _, rfl⟩) hset⟩
end Go.Proofs.YtlaphdlocchagaaGreat

/- Numbers with a sign: the negative. -/
namespace Go.Proofs.YtlaphdlocchagaaGreat
open Go.RowKit

theorem sgn_neg (z : Int) : (if (!decide (z < 0)) = true then -((z.natAbs : Nat) : Int) else ((z.natAbs : Nat) : Int)) = -z := by
  by_cases h : z < 0
  · simp only [h, decide_true, Bool.not_true]; simp; omega
  · simp only [h, decide_false, Bool.not_false, if_true]; omega

set_option maxHeartbeats 1000000 in
theorem neg_w {w : World} {v : Value} {z : Int} (hv : NumV w v z) :
    Calls Tryz.prog 120 #[v] w fun e w' => (∃ r, e = .returned r ∧ NumV w' r (-z)) ∧ Below w.heap.size w w' := by
  obtain ⟨u, rfl, hu⟩ := hv
  have HU := Lib.hid hu
  obtain ⟨ua, uc, hue, -⟩ := hu
  obtain ⟨un, hun⟩ : ∃ un, un = (digs z.natAbs).length := ⟨_, rfl⟩
  rw [← hun] at hue
  subst hue
  clear hun
  have HB0 : Hid (Below w.heap.size w ((w.alloc (Obj.cells #[Value.slice ua un uc, Value.bool (decide (z < 0))] 91)).alloc (Obj.cells #[Value.slice none 0 0, Value.bool false] 91))) :=
    Lib.hid (((Below.refl _ _).alloc (Nat.le_refl _) _).alloc (by simp) _)
  go_enter Tryz.func120, Tryz.ntmps120
  go_wp2_with fail
  refine (signed_l (HU.out.below HB0.out) (!decide (z < 0))).mono ?_
  rintro en w5 ⟨rfl, hbel5⟩
  have hR5 : w5.heap[w.heap.size + 1]? = some (.cells #[Value.slice none 0 0, Value.bool false] 91 (0, 0)) := by
    rw [hbel5.block _ (by simp)]
    exact heap_alloc2_new w _ _
  have r0 : w5.cell? ⟨w.heap.size + 1, 0, none⟩ = some (Value.slice none 0 0) := by rw [cell_of_row _ _ _ _ _ _ hR5]; rfl
  have r1 : w5.cell? ⟨w.heap.size + 1, 1, none⟩ = some (Value.bool false) := by rw [cell_of_row _ _ _ _ _ _ hR5]; rfl
  have f0 := frozen_of_row _ _ 0 _ _ hR5
  have f1 := frozen_of_row _ _ 1 _ _ hR5
  have HR5 := Lib.hid hR5
  have HBW := Lib.hid (below_trans HB0.out hbel5)
  have HNV : Hid (NumV w5 (.agg #[Value.slice ua un uc, Value.bool ((!decide (z < 0)) && !zerB (z.natAbs))]) (-z)) := Lib.hid (by
    have h9 := numV_of (HU.out.below HBW.out) (!decide (z < 0))
    rwa [sgn_neg] at h9)
  have HNE : Hid (digs z.natAbs ≠ [] → (Value.slice ua un uc).ownBlock ≠ some (w.heap.size + 1)) := Lib.hid (HU.out.own_ne (by omega))
  clear hR5
  go_wp2_with fail
  have hset := ((Only.refl (w.heap.size + 1) w5).setCell 0 (Value.slice ua un uc)).setCell 1 (Value.bool ((!decide (z < 0)) && !zerB (z.natAbs)))
  refine bodyPost_ret (results_cell_row rfl _ _ (w.heap.size + 1) _ _ _ _ rfl (heap_setCell_same _ _ 1 _ _ _ (heap_setCell_same _ _ 0 _ _ _ HR5.out)) Tryz.underlying91 rfl inum) rfl ⟨⟨_, rfl, ?_⟩, below_only HBW.out hset (by omega)⟩
  obtain ⟨u9, h8, h9⟩ := HNV.out
  simp only [Value.agg.injEq, Array.mk.injEq, List.cons.injEq, and_true, Value.bool.injEq] at h8
  obtain ⟨h7, hb⟩ := h8
  subst h7
  exact ⟨_, by rw [hb]; rfl, h9.only0 hset (by rw [Int.natAbs_neg]; exact HNE.out)⟩
end Go.Proofs.YtlaphdlocchagaaGreat

/- Numbers with a sign: products. -/
namespace Go.Proofs.YtlaphdlocchagaaGreat
open Go.RowKit

theorem sgn_mul (z y : Int) : (if (decide (z < 0) != decide (y < 0)) = true then -((z.natAbs * y.natAbs : Nat) : Int) else ((z.natAbs * y.natAbs : Nat) : Int)) = z * y := by
  rcases Int.lt_or_le z 0 with hz | hz <;> rcases Int.lt_or_le y 0 with hy | hy
  · obtain ⟨k, rfl⟩ : ∃ k : Nat, z = -(k : Int) := ⟨z.natAbs, by omega⟩
    obtain ⟨j, rfl⟩ : ∃ k : Nat, y = -(k : Int) := ⟨y.natAbs, by omega⟩
    simp only [hz, hy, decide_true, bne_self_eq_false]
    simp [Int.neg_mul_neg]
  · obtain ⟨k, rfl⟩ : ∃ k : Nat, z = -(k : Int) := ⟨z.natAbs, by omega⟩
    obtain ⟨j, rfl⟩ : ∃ k : Nat, y = (k : Int) := ⟨y.natAbs, by omega⟩
    simp only [hz, Int.not_lt.mpr hy, decide_true, decide_false]
    simp [Int.neg_mul]
  · obtain ⟨k, rfl⟩ : ∃ k : Nat, z = (k : Int) := ⟨z.natAbs, by omega⟩
    obtain ⟨j, rfl⟩ : ∃ k : Nat, y = -(k : Int) := ⟨y.natAbs, by omega⟩
    simp only [hy, Int.not_lt.mpr hz, decide_true, decide_false]
    simp [Int.mul_neg]
  · obtain ⟨k, rfl⟩ : ∃ k : Nat, z = (k : Int) := ⟨z.natAbs, by omega⟩
    obtain ⟨j, rfl⟩ : ∃ k : Nat, y = (k : Int) := ⟨y.natAbs, by omega⟩
    simp only [Int.not_lt.mpr hy, Int.not_lt.mpr hz, decide_false, bne_self_eq_false]
    simp

theorem alloc3_new (w : World) (a b c : Obj) : (((w.alloc a).alloc b).alloc c).heap[w.heap.size + 2]? = some c := by
  have h := heap_alloc_new ((w.alloc a).alloc b) c
  simpa using h

theorem alloc3_0 (w : World) (a b c : Obj) : (((w.alloc a).alloc b).alloc c).heap[w.heap.size]? = some a :=
  (heap_alloc_old (r := w.heap.size) ((w.alloc a).alloc b) c (by simp; omega)).trans (heap_alloc2_old w a b)
theorem alloc3_1 (w : World) (a b c : Obj) : (((w.alloc a).alloc b).alloc c).heap[w.heap.size + 1]? = some b :=
  (heap_alloc_old (r := w.heap.size + 1) ((w.alloc a).alloc b) c (by simp)).trans (heap_alloc2_new w a b)

set_option maxHeartbeats 2000000 in
theorem times_w {w : World} {v d : Value} {z y : Int} (hv : NumV w v z) (hd : NumV w d y) (hlen : (digs z.natAbs).length + (digs y.natAbs).length ≤ 536870912) :
    Calls Tryz.prog 132 #[v, d] w fun e w' => (∃ r, e = .returned r ∧ NumV w' r (z * y)) ∧ Below w.heap.size w w' := by
  obtain ⟨u, rfl, hu⟩ := hv
  obtain ⟨u2, rfl, hu2⟩ := hd
  have HU := Lib.hid hu
  have HD := Lib.hid hu2
  have HL := Lib.hid hlen
  obtain ⟨ua, uc, hue, -⟩ := hu
  obtain ⟨un, hun⟩ : ∃ un, un = (digs z.natAbs).length := ⟨_, rfl⟩
  rw [← hun] at hue
  subst hue
  obtain ⟨va, vc, hve, -⟩ := hu2
  obtain ⟨vn, hvn⟩ : ∃ vn, vn = (digs y.natAbs).length := ⟨_, rfl⟩
  rw [← hvn] at hve
  subst hve
  clear hlen hun hvn
  have HB0 : Hid (Below w.heap.size w (((w.alloc (Obj.cells #[Value.slice ua un uc, Value.bool (decide (z < 0))] 91)).alloc (Obj.cells #[Value.slice va vn vc, Value.bool (decide (y < 0))] 91)).alloc (Obj.cells #[Value.slice none 0 0, Value.bool false] 91))) :=
    Lib.hid ((((Below.refl _ _).alloc (Nat.le_refl _) _).alloc (by simp) _).alloc (by simp; omega) _)
  have R0 : Hid (∀ o v, (#[Value.slice none 0 0, Value.bool false] : Array Value)[o]? = some v → (((w.alloc (Obj.cells #[Value.slice ua un uc, Value.bool (decide (z < 0))] 91)).alloc (Obj.cells #[Value.slice va vn vc, Value.bool (decide (y < 0))] 91)).alloc (Obj.cells #[Value.slice none 0 0, Value.bool false] 91)).drew.cell? ⟨w.heap.size + 2, o, none⟩ = some v ∧ (((w.alloc (Obj.cells #[Value.slice ua un uc, Value.bool (decide (z < 0))] 91)).alloc (Obj.cells #[Value.slice va vn vc, Value.bool (decide (y < 0))] 91)).alloc (Obj.cells #[Value.slice none 0 0, Value.bool false] 91)).drew.frozen? ⟨w.heap.size + 2, o, none⟩ = false) :=
    Lib.hid (fun o v h => by
      have h9 := alloc3_new w (Obj.cells #[Value.slice ua un uc, Value.bool (decide (z < 0))] 91) (Obj.cells #[Value.slice va vn vc, Value.bool (decide (y < 0))] 91) (Obj.cells #[Value.slice none 0 0, Value.bool false] 91)
      exact ⟨by rw [World.cell?_drew, cell_of_row _ _ _ _ _ _ h9]; exact h, by rw [World.frozen?_drew, frozen_of_row _ _ _ _ _ h9]⟩)
  have R1 : Hid (∀ o v, (#[Value.slice ua un uc, Value.bool (decide (z < 0))] : Array Value)[o]? = some v → (((w.alloc (Obj.cells #[Value.slice ua un uc, Value.bool (decide (z < 0))] 91)).alloc (Obj.cells #[Value.slice va vn vc, Value.bool (decide (y < 0))] 91)).alloc (Obj.cells #[Value.slice none 0 0, Value.bool false] 91)).drew.cell? ⟨w.heap.size, o, none⟩ = some v) :=
    Lib.hid (fun o v h => by
      rw [World.cell?_drew, cell_of_row _ _ _ _ _ _ (alloc3_0 w _ _ _)]; exact h)
  have R2 : Hid (∀ o v, (#[Value.slice va vn vc, Value.bool (decide (y < 0))] : Array Value)[o]? = some v → (((w.alloc (Obj.cells #[Value.slice ua un uc, Value.bool (decide (z < 0))] 91)).alloc (Obj.cells #[Value.slice va vn vc, Value.bool (decide (y < 0))] 91)).alloc (Obj.cells #[Value.slice none 0 0, Value.bool false] 91)).drew.cell? ⟨w.heap.size + 1, o, none⟩ = some v) :=
    Lib.hid (fun o v h => by
      rw [World.cell?_drew, cell_of_row _ _ _ _ _ _ (alloc3_1 w _ _ _)]; exact h)
  go_enter Tryz.func132, Tryz.ntmps132
  go_wp2_with fail
  go_region_held3 (fun w' => w'.cell? ⟨w.heap.size, 0, none⟩ = some (.slice ua un uc) ∧ w'.cell? ⟨w.heap.size, 1, none⟩ = some (.bool (decide (z < 0))) ∧ w'.cell? ⟨w.heap.size + 1, 0, none⟩ = some (.slice va vn vc) ∧ w'.cell? ⟨w.heap.size + 1, 1, none⟩ = some (.bool (decide (y < 0))))
    (((try dsimp only); refine ⟨?_, ?_, ?_, ?_⟩ <;> (first | (refine cell_below ‹Below _ _ _› ?_; first | assumption | (simp [*]; done)) | (rw [World.cell?_setCell_far _ _ _ _ (by dsimp only; omega), World.cell?_setCell_far _ _ _ _ (by dsimp only; omega)]; exact cell_below hbel5 (cell_below hbel4 (by first | exact R1.out _ _ rfl | exact R2.out _ _ rfl))) | go_keep)))
    (first | (go_at_call 104; refine (mul_w (HU.out.below HB0.out).drew (HD.out.below HB0.out).drew HL.out).mono ?_; rintro en w4 ⟨⟨r, rfl, hr, hro⟩, hbel4⟩; obtain ⟨ra, rn, rc, hre⟩ := hr.form; subst hre) | (go_at_call 141; refine (signed_l hr (decide (z < 0) != decide (y < 0))).mono ?_; rintro en w5 ⟨rfl, hbel5⟩; have r0 := cell_below hbel5 (cell_below hbel4 (R0.out 0 _ rfl).1); have r1 := cell_below hbel5 (cell_below hbel4 (R0.out 1 _ rfl).1); have f0 := frozen_below hbel5 (by rw [cell_below hbel4 (R0.out 0 _ rfl).1]; rfl) (frozen_below hbel4 (by rw [(R0.out 0 _ rfl).1]; rfl) (R0.out 0 _ rfl).2); have f1 := frozen_below hbel5 (by rw [cell_below hbel4 (R0.out 1 _ rfl).1]; rfl) (frozen_below hbel4 (by rw [(R0.out 1 _ rfl).1]; rfl) (R0.out 1 _ rfl).2)))
  have hR5 : w5.heap[w.heap.size + 2]? = some (.cells #[Value.slice none 0 0, Value.bool false] 91 (0, 0)) := by
    rw [hbel5.block _ (by have := hbel4.size; simp at this; omega), hbel4.block _ (by simp)]
    exact alloc3_new w _ _ _
  have HR5 := Lib.hid hR5
  have HBW := Lib.hid (below_trans (below_trans HB0.out (below_undrew hbel4)) hbel5)
  have HNV : Hid (NumV w5 (.agg #[Value.slice ra rn rc, Value.bool ((decide (z < 0) != decide (y < 0)) && !zerB (z.natAbs * y.natAbs))]) (z * y)) := Lib.hid (by
    have h9 := numV_of (hr.below hbel5) (decide (z < 0) != decide (y < 0))
    rwa [sgn_mul] at h9)
  clear hR5 r0 r1 f0 f1 hro
  go_wp2_with fail
  have hset := ((Only.refl (w.heap.size + 2) w5).setCell 0 (Value.slice ra rn rc)).setCell 1 (Value.bool ((decide (z < 0) != decide (y < 0)) && !zerB (z.natAbs * y.natAbs)))
  refine bodyPost_ret (results_cell_row rfl _ _ (w.heap.size + 2) _ _ _ _ rfl (heap_setCell_same _ _ 1 _ _ _ (heap_setCell_same _ _ 0 _ _ _ HR5.out)) Tryz.underlying91 rfl inum) rfl ⟨⟨_, rfl, ?_⟩, below_only HBW.out hset (by omega)⟩
  obtain ⟨u9, h8, h9⟩ := HNV.out
  simp only [Value.agg.injEq, Array.mk.injEq, List.cons.injEq, and_true, Value.bool.injEq] at h8
  obtain ⟨h7, hb⟩ := h8
  subst h7
  exact ⟨_, by rw [hb]; rfl, h9.other HR5.out (num_cells9 ⟨_, _, _, rfl⟩) hset⟩
end Go.Proofs.YtlaphdlocchagaaGreat
