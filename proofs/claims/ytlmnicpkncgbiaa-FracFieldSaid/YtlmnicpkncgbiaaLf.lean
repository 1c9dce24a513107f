/- FracField: the walk. -/
import Derived.Test.YtlmnicpkncgbiaaSe
import Derived.Test.YtlmnicpkncgbiaaTg
import Derived.Deep.DrawnRows
namespace Go.Proofs.Ytlmnicpkncgbiaa
open Go.RowKit
attribute [local go_sem ↓] Go.wp_at_zero Go.wp_at_succ

theorem fix_e {w : World} {x : Value} {P : Rat} (hx : InF w x P) : Calls Try.prog 17 #[x] w (TellPost w P) := fix_f hx
theorem neg_e {w : World} {x : Value} {P Q : Rat} (hx : InF w x P) (hq : -P = Q) : Calls Try.prog 30 #[x] w (TellPost w Q) := by subst hq; exact neg_f hx
theorem add_e {w : World} {x y : Value} {P S Q : Rat} (hx : InF w x P) (hy : InF w y S) (hl : lenQ P + lenQ S ≤ 2000) (hq : P + S = Q) : Calls Try.prog 24 #[x, y] w (TellPost w Q) := by subst hq; exact add_f hx hy hl
theorem sub_e {w : World} {x y : Value} {P S Q : Rat} (hx : InF w x P) (hy : InF w y S) (hl : lenQ P + lenQ S ≤ 2000) (hq : P - S = Q) : Calls Try.prog 26 #[x, y] w (TellPost w Q) := by subst hq; exact sub_f hx hy hl
theorem mul_e {w : World} {x y : Value} {P S Q : Rat} (hx : InF w x P) (hy : InF w y S) (hl : lenQ P + lenQ S ≤ 4096) (hq : P * S = Q) : Calls Try.prog 28 #[x, y] w (TellPost w Q) := by subst hq; exact mul_f hx hy hl

/-- A fraction stored over another one. -/
theorem fr3_heap {w : World} {R : Nat} {u d x y z : Value} {b : Bool} {t : TypeId} (hR : w.heap[R]? = some (.cells #[x, y, z] t (0, 0))) :
    (frac3 w R b u d).heap[R]? = some (.cells #[.bool b, u, d] t (0, 0)) :=
  heap_setCell_same _ _ 2 _ _ _ (heap_setCell_same _ _ 1 _ _ _ (heap_setCell_same _ _ 0 _ _ _ hR))
theorem FracV.only {w w' w0 : World} {B : Nat} {v : Value} {q : Rat} (h : FracV w v q) (hb : Only B w w') (hn : NewF w0 v) (hB : B < w0.heap.size) : FracV w' v q := by
  obtain ⟨u, d, rfl, hu, hd⟩ := h
  obtain ⟨b, u', d', he, n1, n2⟩ := hn
  simp only [Value.agg.injEq, Array.mk.injEq, List.cons.injEq, and_true] at he
  obtain ⟨-, rfl, rfl⟩ := he
  exact ⟨u, d, rfl, hu.only hb (fun e => by have := n1 _ e; omega), hd.only hb (fun e => by have := n2 _ e; omega)⟩
theorem frozen_later {w : World} {g : Nat} {cs : Array Value} {t : TypeId} (h : w.heap[g]? = some (.cells cs t (0, 0))) :
    ∀ (o : Nat) (w' : World), Below w.heap.size w w' → w'.frozen? ⟨g, o, none⟩ = false :=
  fun o _ hb => frozen_of_row _ _ o _ _ ((hb.block _ (lt_of_block h)).trans h)
theorem stored3 {w w13 wA wB wC : World} {M N : Nat} {x0 y0 z0 x1 y1 z1 x2 y2 z2 : Value} {t : TypeId} {A B C : Rat} {u1 d1 u2 d2 u3 d3 : Value}
    (hX : w13.heap[N]? = some (.cells #[x0, y0, z0] t (0, 0))) (hY : w13.heap[N + 1]? = some (.cells #[x1, y1, z1] t (0, 0))) (hZ : w13.heap[N + 1 + 1]? = some (.cells #[x2, y2, z2] t (0, 0)))
    (f1 : FracV w13 (.agg #[.bool (decide (A.num < 0)), u1, d1]) A) (f2 : FracV w13 (.agg #[.bool (decide (B.num < 0)), u2, d2]) B) (f3 : FracV w13 (.agg #[.bool (decide (C.num < 0)), u3, d3]) C)
    (g1 : NewF wA (.agg #[.bool (decide (A.num < 0)), u1, d1])) (g2 : NewF wB (.agg #[.bool (decide (B.num < 0)), u2, d2])) (g3 : NewF wC (.agg #[.bool (decide (C.num < 0)), u3, d3]))
    (s1 : N + 1 + 1 < wA.heap.size) (s2 : N + 1 + 1 < wB.heap.size) (s3 : N + 1 + 1 < wC.heap.size) (hb : Below M w w13) (hM : M ≤ N) {W : World}
    (hW : W = frac3 (frac3 (frac3 w13 N (decide (A.num < 0)) u1 d1) (N + 1) (decide (B.num < 0)) u2 d2) (N + 1 + 1) (decide (C.num < 0)) u3 d3) :
    W.heap[N]? = some (.cells #[.bool (decide (A.num < 0)), u1, d1] t (0, 0)) ∧ W.heap[N + 1]? = some (.cells #[.bool (decide (B.num < 0)), u2, d2] t (0, 0)) ∧ W.heap[N + 1 + 1]? = some (.cells #[.bool (decide (C.num < 0)), u3, d3] t (0, 0)) ∧
    FracV W (.agg #[.bool (decide (A.num < 0)), u1, d1]) A ∧ FracV W (.agg #[.bool (decide (B.num < 0)), u2, d2]) B ∧ FracV W (.agg #[.bool (decide (C.num < 0)), u3, d3]) C ∧ Below M w W := by
  obtain ⟨W1, hW1⟩ : ∃ x, x = frac3 w13 N (decide (A.num < 0)) u1 d1 := ⟨_, rfl⟩
  rw [← hW1] at hW
  have o1 : Only N w13 W1 := by rw [hW1]; exact frac3_only _ _ _ _ _
  have b1 : W1.heap[N]? = some (.cells #[.bool (decide (A.num < 0)), u1, d1] t (0, 0)) := by rw [hW1]; exact fr3_heap hX
  have hY1 : W1.heap[N + 1]? = _ := (o1.block (N + 1) (by omega)).trans hY
  have hZ1 : W1.heap[N + 1 + 1]? = _ := (o1.block (N + 1 + 1) (by omega)).trans hZ
  obtain ⟨W2, hW2⟩ : ∃ x, x = frac3 W1 (N + 1) (decide (B.num < 0)) u2 d2 := ⟨_, rfl⟩
  rw [← hW2] at hW
  have o2 : Only (N + 1) W1 W2 := by rw [hW2]; exact frac3_only _ _ _ _ _
  have b2 : W2.heap[N + 1]? = some (.cells #[.bool (decide (B.num < 0)), u2, d2] t (0, 0)) := by rw [hW2]; exact fr3_heap hY1
  have b12 : W2.heap[N]? = _ := (o2.block N (by omega)).trans b1
  have hZ2 : W2.heap[N + 1 + 1]? = _ := (o2.block (N + 1 + 1) (by omega)).trans hZ1
  have o3 : Only (N + 1 + 1) W2 W := by rw [hW]; exact frac3_only _ _ _ _ _
  have b3 : W.heap[N + 1 + 1]? = some (.cells #[.bool (decide (C.num < 0)), u3, d3] t (0, 0)) := by rw [hW]; exact fr3_heap hZ2
  refine ⟨(o3.block N (by omega)).trans b12, (o3.block (N + 1) (by omega)).trans b2, b3, ?_, ?_, ?_, ?_⟩
  · exact ((f1.only o1 g1 (by omega)).only o2 g1 (by omega)).only o3 g1 (by omega)
  · exact ((f2.only o1 g2 (by omega)).only o2 g2 (by omega)).only o3 g2 (by omega)
  · exact ((f3.only o1 g3 (by omega)).only o2 g3 (by omega)).only o3 g3 (by omega)
  · exact below_only (below_only (below_only hb o1 hM) o2 (by omega)) o3 (by omega)
theorem len_inv {S : Rat} (h0 : S ≠ 0) : lenQ S⁻¹ = lenQ S := by
  have hn0 : ¬ S.num = 0 := fun e => h0 (Rat.num_eq_zero.1 e)
  unfold lenQ
  rw [inv_num_natAbs, Rat.den_inv, if_neg hn0, if_neg hn0]; omega
theorem div_zero_f {w : World} {x y : Value} {P S : Rat} (hx : InF w x P) (hy : InF w y S) (h0 : S = 0) :
    Calls Try.prog 22 #[x, y] w fun e w' => e = .returned (.tuple #[.agg #[.bool false, .slice none 0 0, .slice none 0 0], .int .i64 11]) ∧ Below w.heap.size w w' := by
  obtain ⟨b, l, m, h, rfl⟩ := hx
  obtain ⟨c, l2, m2, k, rfl⟩ := hy
  have := div_q h k
  rw [h0, show zerB (0 : Rat).num.natAbs = true from rfl] at this
  exact this
theorem div_f {w : World} {x y : Value} {P S Q : Rat} (hx : InF w x P) (hy : InF w y S) (h0 : S ≠ 0) (hl : lenQ P + lenQ S ≤ 2000) (hq : P * S⁻¹ = Q) :
    Calls Try.prog 22 #[x, y] w fun e w' => (∃ r, e = .returned (.tuple #[r, .int .i64 0]) ∧ FracV w' r Q ∧ NewF w r) ∧ Below w.heap.size w w' := by
  subst hq
  obtain ⟨b, l, m, h, rfl⟩ := hx
  obtain ⟨c, l2, m2, k, rfl⟩ := hy
  have := div_q h k
  have hz : zerB (fixR c l2 m2).num.natAbs = false := by
    have hn : (fixR c l2 m2).num ≠ 0 := fun e => h0 (Rat.num_eq_zero.1 e)
    simp [zerB, hn]
  rw [hz, cut_id (by have h9 := len_mul (fixR b l m) (fixR c l2 m2)⁻¹; rw [len_inv h0] at h9; omega)] at this
  exact this

set_option maxRecDepth 100000 in
set_option maxHeartbeats 4000000 in
theorem field_walk {w : World} {x y z : Value} {b1 b2 b3 : Bool} {p1 p2 q1 q2 r1 r2 : Option Addr} {n1 c1 n2 c2 m1 d1 m2 d2 k1 e1 k2 e2 : Nat}
    (hx : FracI w x b1 p1 n1 c1 p2 n2 c2) (hy : FracI w y b2 q1 m1 d1 q2 m2 d2) (hz : FracI w z b3 r1 k1 e1 r2 k2 e2) :
    Calls Try.prog 6 #[x, y, z] w fun e w' => e = .returned (.bool true) ∧ Below w.heap.size w w' := by
  have HX := Lib.hid hx
  have HY := Lib.hid hy
  have HZ := Lib.hid hz
  obtain ⟨rfl, -, -⟩ := hx
  obtain ⟨rfl, -, -⟩ := hy
  obtain ⟨rfl, -, -⟩ := hz
  obtain ⟨w1, hw1⟩ : ∃ w1, w1 = ((((w.alloc (Obj.cells #[Value.bool b1, Value.slice p1 n1 c1, Value.slice p2 n2 c2] 24)).alloc
              (Obj.cells #[Value.bool b2, Value.slice q1 m1 d1, Value.slice q2 m2 d2] 24)).alloc
          (Obj.cells #[Value.bool b3, Value.slice r1 k1 e1, Value.slice r2 k2 e2] 24)).alloc
      (Obj.cells
        #[Value.bool b1, Value.slice p1 n1 c1, Value.slice p2 n2 c2, Value.bool b2, Value.slice q1 m1 d1,
          Value.slice q2 m2 d2, Value.bool b3, Value.slice r1 k1 e1, Value.slice r2 k2 e2]
        24)) := ⟨_, rfl⟩
  have HB1 : Hid (Below w.heap.size w w1) := Lib.hid (by rw [hw1]; exact ((((Below.refl _ _).alloc (Nat.le_refl _) _).alloc (by simp) _).alloc (by simp; omega) _).alloc (by simp; omega) _)
  have HXB : Hid (w1.heap[w.heap.size]? = some (.cells #[Value.bool b1, Value.slice p1 n1 c1, Value.slice p2 n2 c2] 24 (0, 0))) := Lib.hid (by rw [hw1, heap_alloc_old (r := w.heap.size) _ _ (by simp; omega)]; exact alloc3_0 w _ _ _)
  have HYB : Hid (w1.heap[w.heap.size + 1]? = some (.cells #[Value.bool b2, Value.slice q1 m1 d1, Value.slice q2 m2 d2] 24 (0, 0))) := Lib.hid (by rw [hw1, heap_alloc_old (r := w.heap.size + 1) _ _ (by simp)]; exact alloc3_1 w _ _ _)
  have HZB : Hid (w1.heap[w.heap.size + 1 + 1]? = some (.cells #[Value.bool b3, Value.slice r1 k1 e1, Value.slice r2 k2 e2] 24 (0, 0))) := Lib.hid (by rw [hw1, heap_alloc_old (r := w.heap.size + 1 + 1) _ _ (by simp)]; exact alloc3_new w _ _ _)
  have HLB : Hid (w1.heap[w.heap.size + 1 + 1 + 1]? = some (.cells #[Value.bool b1, Value.slice p1 n1 c1, Value.slice p2 n2 c2, Value.bool b2, Value.slice q1 m1 d1,
          Value.slice q2 m2 d2, Value.bool b3, Value.slice r1 k1 e1, Value.slice r2 k2 e2] 24 (0, 0))) := Lib.hid (by
    rw [hw1]
    have h := heap_alloc_new (((w.alloc (Obj.cells #[Value.bool b1, Value.slice p1 n1 c1, Value.slice p2 n2 c2] 24)).alloc
              (Obj.cells #[Value.bool b2, Value.slice q1 m1 d1, Value.slice q2 m2 d2] 24)).alloc
          (Obj.cells #[Value.bool b3, Value.slice r1 k1 e1, Value.slice r2 k2 e2] 24)) (Obj.cells #[Value.bool b1, Value.slice p1 n1 c1, Value.slice p2 n2 c2, Value.bool b2, Value.slice q1 m1 d1,
          Value.slice q2 m2 d2, Value.bool b3, Value.slice r1 k1 e1, Value.slice r2 k2 e2] 24)
    simpa using h)
  have HW1 := Lib.hid hw1.symm
  clear hw1
  have RX := Lib.hid (cells_later HXB.out)
  have RY := Lib.hid (cells_later HYB.out)
  have RZ := Lib.hid (cells_later HZB.out)
  have RL := Lib.hid (cells_later HLB.out)
  have HF : Hid (Calls Try.prog 12 #[.int .i64 8, .slice (some ⟨w.heap.size + 1 + 1 + 1, 0, none⟩) 3 3] w1 fun e w' => e = .returned (.bool (fewB 8 3 (at3 n1 m1 k1) (at3 n2 m2 k2))) ∧ w1 = w') := Lib.hid (by
    refine few_w (n := 8) (k := 3) (by omega) fun _ => ⟨_, _, rfl, fun i hi => ?_⟩
    have hz := Below.refl w1.heap.size w1
    match i, hi with
    | 0, _ => exact ⟨_, _, _, _, RL.out 1 _ rfl _ hz, RL.out 2 _ rfl _ hz⟩
    | 1, _ => exact ⟨_, _, _, _, RL.out 4 _ rfl _ hz, RL.out 5 _ rfl _ hz⟩
    | 2, _ => exact ⟨_, _, _, _, RL.out 7 _ rfl _ hz, RL.out 8 _ rfl _ hz⟩)
  by_cases hf : fewB 8 3 (at3 n1 m1 k1) (at3 n2 m2 k2) = true
  · rw [hf] at HF
    have hf' : ∀ i, i < 3 → at3 n1 m1 k1 i ≤ 8 ∧ at3 n2 m2 k2 i ≤ 8 := by simpa [fewB] using hf
    obtain ⟨A, hA⟩ := HX.out.few (n := 8) (by omega) (hf' 0 (by omega)).1 (hf' 0 (by omega)).2
    obtain ⟨B, hB⟩ := HY.out.few (n := 8) (by omega) (hf' 1 (by omega)).1 (hf' 1 (by omega)).2
    obtain ⟨C, hC⟩ := HZ.out.few (n := 8) (by omega) (hf' 2 (by omega)).1 (hf' 2 (by omega)).2
    clear hf hf'
    have HA := Lib.hid hA.inF
    have HBq := Lib.hid hB.inF
    have HC := Lib.hid hC.inF
    have LA := Lib.hid hA.len
    have LB := Lib.hid hB.len
    have LC := Lib.hid hC.len
    clear hA hB hC
    have FRX := Lib.hid (frozen_later HXB.out)
    have FRY := Lib.hid (frozen_later HYB.out)
    have FRZ := Lib.hid (frozen_later HZB.out)
    have HS1 : Hid (w.heap.size + 1 + 1 < w1.heap.size) := Lib.hid (lt_of_block HZB.out)
    have KF1 := Lib.hid (fun w' (hb : Below w1.heap.size w1 w') => fix_e (w := w') (HA.out.below (below_trans HB1.out hb)))
    have KF2 := Lib.hid (fun w' (hb : Below w1.heap.size w1 w') => fix_e (w := w') (HBq.out.below (below_trans HB1.out hb)))
    have KF3 := Lib.hid (fun w' (hb : Below w1.heap.size w1 w') => fix_e (w := w') (HC.out.below (below_trans HB1.out hb)))
    have hz1 := Below.refl w1.heap.size w1
    go_enter Try.func6, Try.ntmps6
    go_wp2_with fail
    rw [HW1.out]
    refine HF.out.mono ?_
    rintro en0 w0 ⟨rfl, rfl⟩
    have hz0 : Below w1.heap.size w1 w1.drew := below_drewN (Below.refl _ _) 1
    have x0 := RX.out 0 _ rfl _ hz1
    have x1 := RX.out 1 _ rfl _ hz1
    have x2 := RX.out 2 _ rfl _ hz1
    have y0 := RY.out 0 _ rfl _ hz1
    have y1 := RY.out 1 _ rfl _ hz1
    have y2 := RY.out 2 _ rfl _ hz1
    have z0 := RZ.out 0 _ rfl _ hz1
    have z1 := RZ.out 1 _ rfl _ hz1
    have z2 := RZ.out 2 _ rfl _ hz1
    go_wp2_with fail
    go_cut [6] (fun rv wr => rv = .bool false ∧ ∃ (a11 : Option Addr) (n11 c11 : Nat) (i11 : Option Addr) (j11 k11 : Nat) (a12 : Option Addr) (n12 c12 : Nat) (i12 : Option Addr) (j12 k12 : Nat) (a13 : Option Addr) (n13 c13 : Nat) (i13 : Option Addr) (j13 k13 : Nat), Hid (wr.heap[w.heap.size]? = some (.cells #[Value.bool (decide (A.num < 0)), Value.slice a11 n11 c11, Value.slice i11 j11 k11] 24 (0, 0))) ∧ Hid (wr.heap[w.heap.size + 1]? = some (.cells #[Value.bool (decide (B.num < 0)), Value.slice a12 n12 c12, Value.slice i12 j12 k12] 24 (0, 0))) ∧ Hid (wr.heap[w.heap.size + 1 + 1]? = some (.cells #[Value.bool (decide (C.num < 0)), Value.slice a13 n13 c13, Value.slice i13 j13 k13] 24 (0, 0))) ∧ Hid (FracV wr (.agg #[Value.bool (decide (A.num < 0)), Value.slice a11 n11 c11, Value.slice i11 j11 k11]) A) ∧ Hid (FracV wr (.agg #[Value.bool (decide (B.num < 0)), Value.slice a12 n12 c12, Value.slice i12 j12 k12]) B) ∧ Hid (FracV wr (.agg #[Value.bool (decide (C.num < 0)), Value.slice a13 n13 c13, Value.slice i13 j13 k13]) C) ∧ Hid (Below w.heap.size w wr))
    case first =>
      go_region_with (first | (go_at_call_of 17 (Value.slice p1 n1 c1); refine (KF1.out _ hz0).mono ?_; rintro en11 w11 ⟨⟨v11, rfl, f11, g11⟩, hb11⟩; obtain ⟨a11, n11, c11, i11, j11, k11, hq11⟩ := frac_form f11; subst hq11; have hz11 := below_trans hz0 hb11; have y0 := RY.out 0 _ rfl _ hz11; have y1 := RY.out 1 _ rfl _ hz11; have y2 := RY.out 2 _ rfl _ hz11; have z0 := RZ.out 0 _ rfl _ hz11; have z1 := RZ.out 1 _ rfl _ hz11; have z2 := RZ.out 2 _ rfl _ hz11) | (go_at_call_of 17 (Value.slice q1 m1 d1); refine (KF2.out _ hz11).mono ?_; rintro en12 w12 ⟨⟨v12, rfl, f12, g12⟩, hb12⟩; obtain ⟨a12, n12, c12, i12, j12, k12, hq12⟩ := frac_form f12; subst hq12; have hz12 := below_trans hz11 hb12; have z0 := RZ.out 0 _ rfl _ hz12; have z1 := RZ.out 1 _ rfl _ hz12; have z2 := RZ.out 2 _ rfl _ hz12) | (go_at_call_of 17 (Value.slice r1 k1 e1); refine (KF3.out _ hz12).mono ?_; rintro en13 w13 ⟨⟨v13, rfl, f13, g13⟩, hb13⟩; obtain ⟨a13, n13, c13, i13, j13, k13, hq13⟩ := frac_form f13; subst hq13; have hz13 := below_trans hz12 hb13; have x0 := RX.out 0 _ rfl _ hz13; have xf0 := FRX.out 0 _ hz13; have x1 := RX.out 1 _ rfl _ hz13; have xf1 := FRX.out 1 _ hz13; have x2 := RX.out 2 _ rfl _ hz13; have xf2 := FRX.out 2 _ hz13; have y0 := RY.out 0 _ rfl _ hz13; have yf0 := FRY.out 0 _ hz13; have y1 := RY.out 1 _ rfl _ hz13; have yf1 := FRY.out 1 _ hz13; have y2 := RY.out 2 _ rfl _ hz13; have yf2 := FRY.out 2 _ hz13; have z0 := RZ.out 0 _ rfl _ hz13; have zf0 := FRZ.out 0 _ hz13; have z1 := RZ.out 1 _ rfl _ hz13; have zf1 := FRZ.out 1 _ hz13; have z2 := RZ.out 2 _ rfl _ hz13; have zf2 := FRZ.out 2 _ hz13))
      all_goals
        go_wp2_with fail
        go_meet
      all_goals
        have hS := stored3 (W := _) ((hz13.block _ (lt_of_block HXB.out)).trans HXB.out) ((hz13.block _ (lt_of_block HYB.out)).trans HYB.out) ((hz13.block _ (lt_of_block HZB.out)).trans HZB.out) ((f11.below hb12).below hb13) (f12.below hb13) f13 g11 g12 g13 HS1.out (Nat.lt_of_lt_of_le HS1.out hz11.size) (Nat.lt_of_lt_of_le HS1.out hz12.size) (below_trans HB1.out hz13) (Nat.le_refl _) rfl
        exact ⟨rfl, _, _, _, _, _, _, _, _, _, _, _, _, _, _, _, _, _, _, Lib.hid hS.1, Lib.hid hS.2.1, Lib.hid hS.2.2.1, Lib.hid hS.2.2.2.1, Lib.hid hS.2.2.2.2.1, Lib.hid hS.2.2.2.2.2.1, Lib.hid hS.2.2.2.2.2.2⟩
    case rest =>
      obtain ⟨w4, rfl⟩ : ∃ w8 : World, w8 = wc := ⟨_, rfl⟩
      obtain ⟨rfl, a11, n11, c11, i11, j11, k11, a12, n12, c12, i12, j12, k12, a13, n13, c13, i13, j13, k13, HX4, HY4, HZ4, HFA, HFB, HFC, HW4⟩ := hcut
      clear x0 x1 x2 y0 y1 y2 z0 z1 z2 RX RY RZ FRX FRY FRZ KF1 KF2 KF3 hz0 hz1
      have RX := Lib.hid (cells_later HX4.out)
      have RY := Lib.hid (cells_later HY4.out)
      have RZ := Lib.hid (cells_later HZ4.out)
      have HA4 := Lib.hid (HFA.out.inF (by have := LA.out; omega))
      have HB4 := Lib.hid (HFB.out.inF (by have := LB.out; omega))
      have HC4 := Lib.hid (HFC.out.inF (by have := LC.out; omega))
      obtain ⟨Sbc, hSbc⟩ : ∃ q, B + C = q := ⟨_, rfl⟩
      have HSbc := Lib.hid hSbc
      have LSbc : Hid (lenQ Sbc ≤ 100) := Lib.hid (by rw [← hSbc]; have := len_add B C; have := LA.out; have := LB.out; have := LC.out; omega)
      clear hSbc
      obtain ⟨T1, hT1⟩ : ∃ q, A + Sbc = q := ⟨_, rfl⟩
      have HT1 := Lib.hid hT1
      clear hT1
      obtain ⟨Sba, hSba⟩ : ∃ q, B + A = q := ⟨_, rfl⟩
      have HSba := Lib.hid hSba
      have LSba : Hid (lenQ Sba ≤ 100) := Lib.hid (by rw [← hSba]; have := len_add B A; have := LA.out; have := LB.out; have := LC.out; omega)
      clear hSba
      have HT1' : Hid (Sba + C = T1) := Lib.hid (by rw [← HT1.out, ← HSbc.out, ← HSba.out, Rat.add_comm B A, Rat.add_assoc])
      obtain ⟨Mbc, hMbc⟩ : ∃ q, B * C = q := ⟨_, rfl⟩
      have HMbc := Lib.hid hMbc
      have LMbc : Hid (lenQ Mbc ≤ 100) := Lib.hid (by rw [← hMbc]; have := len_mul B C; have := LA.out; have := LB.out; have := LC.out; omega)
      clear hMbc
      obtain ⟨T2, hT2⟩ : ∃ q, A * Mbc = q := ⟨_, rfl⟩
      have HT2 := Lib.hid hT2
      clear hT2
      obtain ⟨Mba, hMba⟩ : ∃ q, B * A = q := ⟨_, rfl⟩
      have HMba := Lib.hid hMba
      have LMba : Hid (lenQ Mba ≤ 100) := Lib.hid (by rw [← hMba]; have := len_mul B A; have := LA.out; have := LB.out; have := LC.out; omega)
      clear hMba
      have HT2' : Hid (Mba * C = T2) := Lib.hid (by rw [← HT2.out, ← HMbc.out, ← HMba.out, Rat.mul_comm B A, Rat.mul_assoc])
      obtain ⟨Mab, hMab⟩ : ∃ q, A * B = q := ⟨_, rfl⟩
      have HMab := Lib.hid hMab
      have LMab : Hid (lenQ Mab ≤ 100) := Lib.hid (by rw [← hMab]; have := len_mul A B; have := LA.out; have := LB.out; have := LC.out; omega)
      clear hMab
      obtain ⟨Mac, hMac⟩ : ∃ q, A * C = q := ⟨_, rfl⟩
      have HMac := Lib.hid hMac
      have LMac : Hid (lenQ Mac ≤ 100) := Lib.hid (by rw [← hMac]; have := len_mul A C; have := LA.out; have := LB.out; have := LC.out; omega)
      clear hMac
      obtain ⟨T3, hT3⟩ : ∃ q, A * Sbc = q := ⟨_, rfl⟩
      have HT3 := Lib.hid hT3
      clear hT3
      have HT3' : Hid (Mab + Mac = T3) := Lib.hid (by rw [← HT3.out, ← HSbc.out, ← HMab.out, ← HMac.out, Rat.mul_add])
      obtain ⟨Dab, hDab⟩ : ∃ q, A - B = q := ⟨_, rfl⟩
      have HDab := Lib.hid hDab
      have LDab : Hid (lenQ Dab ≤ 100) := Lib.hid (by rw [← hDab]; rw [Rat.sub_eq_add_neg]; have := len_add A (-B); rw [len_neg] at this; have := LA.out; have := LB.out; have := LC.out; omega)
      clear hDab
      have HD' : Hid (Dab + B = A) := Lib.hid (by rw [← HDab.out, Rat.sub_add_cancel])
      obtain ⟨Na, hNa⟩ : ∃ q, -A = q := ⟨_, rfl⟩
      have HNa := Lib.hid hNa
      have LNa : Hid (lenQ Na ≤ 100) := Lib.hid (by rw [← hNa]; rw [len_neg]; have := LA.out; have := LB.out; have := LC.out; omega)
      clear hNa
      have HN' : Hid (-Na = A) := Lib.hid (by rw [← HNa.out, Rat.neg_neg])
      have K29 := Lib.hid (fun w'  (hb : Below w4.heap.size w4 w') => add_e (w := w') (HB4.out.below hb) (HC4.out.below hb) (by have := LB.out; have := LC.out; omega) HSbc.out)
      have K30 := Lib.hid (fun w' (y : Value) (hy : FracV w' y Sbc) (hb : Below w4.heap.size w4 w') => add_e (w := w') (HA4.out.below hb) (hy.inF (by have := LSbc.out; omega)) (by have := LA.out; have := LSbc.out; omega) HT1.out)
      have K33 := Lib.hid (fun w'  (hb : Below w4.heap.size w4 w') => add_e (w := w') (HB4.out.below hb) (HA4.out.below hb) (by have := LB.out; have := LA.out; omega) HSba.out)
      have K35 := Lib.hid (fun w' (x : Value) (hx : FracV w' x Sba) (hb : Below w4.heap.size w4 w') => add_e (w := w') (hx.inF (by have := LSba.out; omega)) (HC4.out.below hb) (by have := LSba.out; have := LC.out; omega) HT1'.out)
      have K40 := Lib.hid (fun w'  (hb : Below w4.heap.size w4 w') => mul_e (w := w') (HB4.out.below hb) (HC4.out.below hb) (by have := LB.out; have := LC.out; omega) HMbc.out)
      have K41 := Lib.hid (fun w' (y : Value) (hy : FracV w' y Mbc) (hb : Below w4.heap.size w4 w') => mul_e (w := w') (HA4.out.below hb) (hy.inF (by have := LMbc.out; omega)) (by have := LA.out; have := LMbc.out; omega) HT2.out)
      have K44 := Lib.hid (fun w'  (hb : Below w4.heap.size w4 w') => mul_e (w := w') (HB4.out.below hb) (HA4.out.below hb) (by have := LB.out; have := LA.out; omega) HMba.out)
      have K46 := Lib.hid (fun w' (x : Value) (hx : FracV w' x Mba) (hb : Below w4.heap.size w4 w') => mul_e (w := w') (hx.inF (by have := LMba.out; omega)) (HC4.out.below hb) (by have := LMba.out; have := LC.out; omega) HT2'.out)
      have K52 := Lib.hid (fun w' (y : Value) (hy : FracV w' y Sbc) (hb : Below w4.heap.size w4 w') => mul_e (w := w') (HA4.out.below hb) (hy.inF (by have := LSbc.out; omega)) (by have := LA.out; have := LSbc.out; omega) HT3.out)
      have K55 := Lib.hid (fun w'  (hb : Below w4.heap.size w4 w') => mul_e (w := w') (HA4.out.below hb) (HB4.out.below hb) (by have := LA.out; have := LB.out; omega) HMab.out)
      have K58 := Lib.hid (fun w'  (hb : Below w4.heap.size w4 w') => mul_e (w := w') (HA4.out.below hb) (HC4.out.below hb) (by have := LA.out; have := LC.out; omega) HMac.out)
      have K59 := Lib.hid (fun w' (x : Value) (hx : FracV w' x Mab) (y : Value) (hy : FracV w' y Mac) (hb : Below w4.heap.size w4 w') => add_e (w := w') (hx.inF (by have := LMab.out; omega)) (hy.inF (by have := LMac.out; omega)) (by have := LMab.out; have := LMac.out; omega) HT3'.out)
      have K63 := Lib.hid (fun w'  (hb : Below w4.heap.size w4 w') => sub_e (w := w') (HA4.out.below hb) (HB4.out.below hb) (by have := LA.out; have := LB.out; omega) HDab.out)
      have K65 := Lib.hid (fun w' (x : Value) (hx : FracV w' x Dab) (hb : Below w4.heap.size w4 w') => add_e (w := w') (hx.inF (by have := LDab.out; omega)) (HB4.out.below hb) (by have := LDab.out; have := LB.out; omega) HD'.out)
      have K70 := Lib.hid (fun w'  (hb : Below w4.heap.size w4 w') => neg_e (w := w') (HA4.out.below hb) HNa.out)
      have K71 := Lib.hid (fun w' (x : Value) (hx : FracV w' x Na) (hb : Below w4.heap.size w4 w') => neg_e (w := w') (hx.inF (by have := LNa.out; omega)) HN'.out)
      obtain ⟨sg, hsg⟩ : ∃ x, x = cmpQ B 0 := ⟨_, rfl⟩
      have HSG := Lib.hid hsg.symm
      have KSG := Lib.hid (fun w' (hb : Below w4.heap.size w4 w') => sign_f (w := w') (HB4.out.below hb))
      rw [HSG.out] at KSG
      clear hsg
      have hz4 := Below.refl w4.heap.size w4
      have x0 := RX.out 0 _ rfl _ hz4
      have x1 := RX.out 1 _ rfl _ hz4
      have x2 := RX.out 2 _ rfl _ hz4
      have y0 := RY.out 0 _ rfl _ hz4
      have y1 := RY.out 1 _ rfl _ hz4
      have y2 := RY.out 2 _ rfl _ hz4
      have z0 := RZ.out 0 _ rfl _ hz4
      have z1 := RZ.out 1 _ rfl _ hz4
      have z2 := RZ.out 2 _ rfl _ hz4
      go_wp2_with fail
      have h051 : Below w4.heap.size w4 w4.drew := below_drewN hz4 1
      go_region_held3 (fun w' => w'.cell? ⟨w.heap.size, 0, none⟩ = some (.bool (decide (A.num < 0))) ∧ w'.cell? ⟨w.heap.size, 1, none⟩ = some (.slice a11 n11 c11) ∧ w'.cell? ⟨w.heap.size, 2, none⟩ = some (.slice i11 j11 k11) ∧ w'.cell? ⟨w.heap.size + 1, 0, none⟩ = some (.bool (decide (B.num < 0))) ∧ w'.cell? ⟨w.heap.size + 1, 1, none⟩ = some (.slice a12 n12 c12) ∧ w'.cell? ⟨w.heap.size + 1, 2, none⟩ = some (.slice i12 j12 k12) ∧ w'.cell? ⟨w.heap.size + 1 + 1, 0, none⟩ = some (.bool (decide (C.num < 0))) ∧ w'.cell? ⟨w.heap.size + 1 + 1, 1, none⟩ = some (.slice a13 n13 c13) ∧ w'.cell? ⟨w.heap.size + 1 + 1, 2, none⟩ = some (.slice i13 j13 k13))
        (((try dsimp only); refine ⟨?_, ?_, ?_, ?_, ?_, ?_, ?_, ?_, ?_⟩ <;> (first | exact RX.out _ _ rfl _ (by assumption) | exact RY.out _ _ rfl _ (by assumption) | exact RZ.out _ _ rfl _ (by assumption) | go_keep)))
        (first | (go_at_call_of 24 (Value.slice a12 n12 c12); go_at_call_of 24 (Value.slice a13 n13 c13); refine (K29.out _ h051).mono ?_; rintro en511 w511 ⟨⟨v511, rfl, f511, g511⟩, hb511⟩; obtain ⟨a511, n511, c511, i511, j511, k511, hq511⟩ := frac_form f511; subst hq511; have hz511 := below_trans h051 hb511) | (go_at_call_of 24 (Value.slice a12 n12 c12); go_at_call_of 24 (Value.slice a11 n11 c11); refine (K33.out _ hz512).mono ?_; rintro en513 w513 ⟨⟨v513, rfl, f513, g513⟩, hb513⟩; obtain ⟨a513, n513, c513, i513, j513, k513, hq513⟩ := frac_form f513; subst hq513; have hz513 := below_trans hz512 hb513) | (go_at_call_of 24 (Value.slice a11 n11 c11); refine (K30.out _ _ f511 hz511).mono ?_; rintro en512 w512 ⟨⟨v512, rfl, f512, g512⟩, hb512⟩; obtain ⟨a512, n512, c512, i512, j512, k512, hq512⟩ := frac_form f512; subst hq512; have hz512 := below_trans hz511 hb512) | (go_at_call_of 24 (Value.slice a13 n13 c13); refine (K35.out _ _ f513 hz513).mono ?_; rintro en514 w514 ⟨⟨v514, rfl, f514, g514⟩, hb514⟩; obtain ⟨a514, n514, c514, i514, j514, k514, hq514⟩ := frac_form f514; subst hq514; have hz514 := below_trans hz513 hb514) | (go_at_call 38; refine (exact_w ((f512.below hb513).below hb514) f514).mono ?_; rintro en515 w515 ⟨rfl, hb515⟩; have hz515 := below_trans hz514 hb515))
      clear x0 x1 x2 y0 y1 y2 z0 z1 z2
      have x0 := RX.out 0 _ rfl _ hz515
      have x1 := RX.out 1 _ rfl _ hz515
      have x2 := RX.out 2 _ rfl _ hz515
      have y0 := RY.out 0 _ rfl _ hz515
      have y1 := RY.out 1 _ rfl _ hz515
      have y2 := RY.out 2 _ rfl _ hz515
      have z0 := RZ.out 0 _ rfl _ hz515
      have z1 := RZ.out 1 _ rfl _ hz515
      have z2 := RZ.out 2 _ rfl _ hz515
      go_wp2_with fail
      have h052 : Below w4.heap.size w4 w515.drew := below_drewN hz515 1
      go_region_held3 (fun w' => w'.cell? ⟨w.heap.size, 0, none⟩ = some (.bool (decide (A.num < 0))) ∧ w'.cell? ⟨w.heap.size, 1, none⟩ = some (.slice a11 n11 c11) ∧ w'.cell? ⟨w.heap.size, 2, none⟩ = some (.slice i11 j11 k11) ∧ w'.cell? ⟨w.heap.size + 1, 0, none⟩ = some (.bool (decide (B.num < 0))) ∧ w'.cell? ⟨w.heap.size + 1, 1, none⟩ = some (.slice a12 n12 c12) ∧ w'.cell? ⟨w.heap.size + 1, 2, none⟩ = some (.slice i12 j12 k12) ∧ w'.cell? ⟨w.heap.size + 1 + 1, 0, none⟩ = some (.bool (decide (C.num < 0))) ∧ w'.cell? ⟨w.heap.size + 1 + 1, 1, none⟩ = some (.slice a13 n13 c13) ∧ w'.cell? ⟨w.heap.size + 1 + 1, 2, none⟩ = some (.slice i13 j13 k13))
        (((try dsimp only); refine ⟨?_, ?_, ?_, ?_, ?_, ?_, ?_, ?_, ?_⟩ <;> (first | exact RX.out _ _ rfl _ (by assumption) | exact RY.out _ _ rfl _ (by assumption) | exact RZ.out _ _ rfl _ (by assumption) | go_keep)))
        (first | (go_at_call_of 28 (Value.slice a12 n12 c12); go_at_call_of 28 (Value.slice a13 n13 c13); refine (K40.out _ h052).mono ?_; rintro en521 w521 ⟨⟨v521, rfl, f521, g521⟩, hb521⟩; obtain ⟨a521, n521, c521, i521, j521, k521, hq521⟩ := frac_form f521; subst hq521; have hz521 := below_trans h052 hb521) | (go_at_call_of 28 (Value.slice a12 n12 c12); go_at_call_of 28 (Value.slice a11 n11 c11); refine (K44.out _ hz522).mono ?_; rintro en523 w523 ⟨⟨v523, rfl, f523, g523⟩, hb523⟩; obtain ⟨a523, n523, c523, i523, j523, k523, hq523⟩ := frac_form f523; subst hq523; have hz523 := below_trans hz522 hb523) | (go_at_call_of 28 (Value.slice a11 n11 c11); refine (K41.out _ _ f521 hz521).mono ?_; rintro en522 w522 ⟨⟨v522, rfl, f522, g522⟩, hb522⟩; obtain ⟨a522, n522, c522, i522, j522, k522, hq522⟩ := frac_form f522; subst hq522; have hz522 := below_trans hz521 hb522) | (go_at_call_of 28 (Value.slice a13 n13 c13); refine (K46.out _ _ f523 hz523).mono ?_; rintro en524 w524 ⟨⟨v524, rfl, f524, g524⟩, hb524⟩; obtain ⟨a524, n524, c524, i524, j524, k524, hq524⟩ := frac_form f524; subst hq524; have hz524 := below_trans hz523 hb524) | (go_at_call 38; refine (exact_w ((f522.below hb523).below hb524) f524).mono ?_; rintro en525 w525 ⟨rfl, hb525⟩; have hz525 := below_trans hz524 hb525))
      clear x0 x1 x2 y0 y1 y2 z0 z1 z2
      have x0 := RX.out 0 _ rfl _ hz525
      have x1 := RX.out 1 _ rfl _ hz525
      have x2 := RX.out 2 _ rfl _ hz525
      have y0 := RY.out 0 _ rfl _ hz525
      have y1 := RY.out 1 _ rfl _ hz525
      have y2 := RY.out 2 _ rfl _ hz525
      have z0 := RZ.out 0 _ rfl _ hz525
      have z1 := RZ.out 1 _ rfl _ hz525
      have z2 := RZ.out 2 _ rfl _ hz525
      go_wp2_with fail
      have h053 : Below w4.heap.size w4 w525.drew := below_drewN hz525 1
      go_region_held3 (fun w' => w'.cell? ⟨w.heap.size, 0, none⟩ = some (.bool (decide (A.num < 0))) ∧ w'.cell? ⟨w.heap.size, 1, none⟩ = some (.slice a11 n11 c11) ∧ w'.cell? ⟨w.heap.size, 2, none⟩ = some (.slice i11 j11 k11) ∧ w'.cell? ⟨w.heap.size + 1, 0, none⟩ = some (.bool (decide (B.num < 0))) ∧ w'.cell? ⟨w.heap.size + 1, 1, none⟩ = some (.slice a12 n12 c12) ∧ w'.cell? ⟨w.heap.size + 1, 2, none⟩ = some (.slice i12 j12 k12) ∧ w'.cell? ⟨w.heap.size + 1 + 1, 0, none⟩ = some (.bool (decide (C.num < 0))) ∧ w'.cell? ⟨w.heap.size + 1 + 1, 1, none⟩ = some (.slice a13 n13 c13) ∧ w'.cell? ⟨w.heap.size + 1 + 1, 2, none⟩ = some (.slice i13 j13 k13))
        (((try dsimp only); refine ⟨?_, ?_, ?_, ?_, ?_, ?_, ?_, ?_, ?_⟩ <;> (first | exact RX.out _ _ rfl _ (by assumption) | exact RY.out _ _ rfl _ (by assumption) | exact RZ.out _ _ rfl _ (by assumption) | go_keep)))
        (first | (go_at_call_of 24 (Value.slice a12 n12 c12); go_at_call_of 24 (Value.slice a13 n13 c13); refine (K29.out _ h053).mono ?_; rintro en531 w531 ⟨⟨v531, rfl, f531, g531⟩, hb531⟩; obtain ⟨a531, n531, c531, i531, j531, k531, hq531⟩ := frac_form f531; subst hq531; have hz531 := below_trans h053 hb531) | (go_at_call_of 28 (Value.slice a11 n11 c11); go_at_call_of 28 (Value.slice a12 n12 c12); refine (K55.out _ hz532).mono ?_; rintro en533 w533 ⟨⟨v533, rfl, f533, g533⟩, hb533⟩; obtain ⟨a533, n533, c533, i533, j533, k533, hq533⟩ := frac_form f533; subst hq533; have hz533 := below_trans hz532 hb533) | (go_at_call_of 28 (Value.slice a11 n11 c11); go_at_call_of 28 (Value.slice a13 n13 c13); refine (K58.out _ hz533).mono ?_; rintro en534 w534 ⟨⟨v534, rfl, f534, g534⟩, hb534⟩; obtain ⟨a534, n534, c534, i534, j534, k534, hq534⟩ := frac_form f534; subst hq534; have hz534 := below_trans hz533 hb534) | (go_at_call_of 28 (Value.slice a11 n11 c11); refine (K52.out _ _ f531 hz531).mono ?_; rintro en532 w532 ⟨⟨v532, rfl, f532, g532⟩, hb532⟩; obtain ⟨a532, n532, c532, i532, j532, k532, hq532⟩ := frac_form f532; subst hq532; have hz532 := below_trans hz531 hb532) | (go_at_call 24; refine (K59.out _ _ (f533.below hb534) _ f534 hz534).mono ?_; rintro en535 w535 ⟨⟨v535, rfl, f535, g535⟩, hb535⟩; obtain ⟨a535, n535, c535, i535, j535, k535, hq535⟩ := frac_form f535; subst hq535; have hz535 := below_trans hz534 hb535) | (go_at_call 38; refine (exact_w (((f532.below hb533).below hb534).below hb535) f535).mono ?_; rintro en536 w536 ⟨rfl, hb536⟩; have hz536 := below_trans hz535 hb536))
      clear x0 x1 x2 y0 y1 y2 z0 z1 z2
      have x0 := RX.out 0 _ rfl _ hz536
      have x1 := RX.out 1 _ rfl _ hz536
      have x2 := RX.out 2 _ rfl _ hz536
      have y0 := RY.out 0 _ rfl _ hz536
      have y1 := RY.out 1 _ rfl _ hz536
      have y2 := RY.out 2 _ rfl _ hz536
      have z0 := RZ.out 0 _ rfl _ hz536
      have z1 := RZ.out 1 _ rfl _ hz536
      have z2 := RZ.out 2 _ rfl _ hz536
      go_wp2_with fail
      have h054 : Below w4.heap.size w4 w536.drew := below_drewN hz536 1
      go_region_held3 (fun w' => w'.cell? ⟨w.heap.size, 0, none⟩ = some (.bool (decide (A.num < 0))) ∧ w'.cell? ⟨w.heap.size, 1, none⟩ = some (.slice a11 n11 c11) ∧ w'.cell? ⟨w.heap.size, 2, none⟩ = some (.slice i11 j11 k11) ∧ w'.cell? ⟨w.heap.size + 1, 0, none⟩ = some (.bool (decide (B.num < 0))) ∧ w'.cell? ⟨w.heap.size + 1, 1, none⟩ = some (.slice a12 n12 c12) ∧ w'.cell? ⟨w.heap.size + 1, 2, none⟩ = some (.slice i12 j12 k12) ∧ w'.cell? ⟨w.heap.size + 1 + 1, 0, none⟩ = some (.bool (decide (C.num < 0))) ∧ w'.cell? ⟨w.heap.size + 1 + 1, 1, none⟩ = some (.slice a13 n13 c13) ∧ w'.cell? ⟨w.heap.size + 1 + 1, 2, none⟩ = some (.slice i13 j13 k13))
        (((try dsimp only); refine ⟨?_, ?_, ?_, ?_, ?_, ?_, ?_, ?_, ?_⟩ <;> (first | exact RX.out _ _ rfl _ (by assumption) | exact RY.out _ _ rfl _ (by assumption) | exact RZ.out _ _ rfl _ (by assumption) | go_keep)))
        (first | (go_at_call 26; refine (K63.out _ h054).mono ?_; rintro en541 w541 ⟨⟨v541, rfl, f541, g541⟩, hb541⟩; obtain ⟨a541, n541, c541, i541, j541, k541, hq541⟩ := frac_form f541; subst hq541; have hz541 := below_trans h054 hb541) | (go_at_call 24; refine (K65.out _ _ f541 hz541).mono ?_; rintro en542 w542 ⟨⟨v542, rfl, f542, g542⟩, hb542⟩; obtain ⟨a542, n542, c542, i542, j542, k542, hq542⟩ := frac_form f542; subst hq542; have hz542 := below_trans hz541 hb542) | (go_at_call_of 38 (Value.slice a542 n542 c542); refine (exact_w f542 (HFA.out.below hz542)).mono ?_; rintro en543 w543 ⟨rfl, hb543⟩; have hz543 := below_trans hz542 hb543) | (go_at_call_of 30 (Value.slice a11 n11 c11); refine (K70.out _ hz543).mono ?_; rintro en544 w544 ⟨⟨v544, rfl, f544, g544⟩, hb544⟩; obtain ⟨a544, n544, c544, i544, j544, k544, hq544⟩ := frac_form f544; subst hq544; have hz544 := below_trans hz543 hb544) | (go_at_call 30; refine (K71.out _ _ f544 hz544).mono ?_; rintro en545 w545 ⟨⟨v545, rfl, f545, g545⟩, hb545⟩; obtain ⟨a545, n545, c545, i545, j545, k545, hq545⟩ := frac_form f545; subst hq545; have hz545 := below_trans hz544 hb545) | (go_at_call 38; refine (exact_w f545 (HFA.out.below hz545)).mono ?_; rintro en546 w546 ⟨rfl, hb546⟩; have hz546 := below_trans hz545 hb546))
      clear x0 x1 x2 y0 y1 y2 z0 z1 z2
      have x0 := RX.out 0 _ rfl _ hz546
      have x1 := RX.out 1 _ rfl _ hz546
      have x2 := RX.out 2 _ rfl _ hz546
      have y0 := RY.out 0 _ rfl _ hz546
      have y1 := RY.out 1 _ rfl _ hz546
      have y2 := RY.out 2 _ rfl _ hz546
      have z0 := RZ.out 0 _ rfl _ hz546
      have z1 := RZ.out 1 _ rfl _ hz546
      have z2 := RZ.out 2 _ rfl _ hz546
      go_wp2_with fail
      by_cases hB0 : B = 0
      · have hs0 : sg = 0 := by rw [← HSG.out, hB0, cmpQ_self]
        subst hs0
        have HBZ := Lib.hid hB0
        clear hB0
        refine (div_zero_f (HA4.out.below hz546) (HB4.out.below hz546) HBZ.out).mono ?_
        rintro en60 w60 ⟨rfl, hb60⟩
        have hz60 := below_trans hz546 hb60
        go_wp2_with ((with_reducible refine at_store ?_); refine wpList_store_var rfl _ _ _ rfl w60.heap.size rfl _ rfl _ _ (heap_alloc_new _ _) ifrac rfl frac_one ?_; intro w61 h61 hon61; refine halt ?_)
        have hb61 : Below w60.heap.size w60 w61 := below_only ((Below.refl _ _).alloc (Nat.le_refl _) _) hon61 (Nat.le_refl _)
        have hz61 := below_trans hz60 hb61
        have RQ := Lib.hid (cells_later h61)
        clear h61 hon61
        clear x0 x1 x2 y0 y1 y2 z0 z1 z2
        have x0 := RX.out 0 _ rfl _ hz61
        have x1 := RX.out 1 _ rfl _ hz61
        have x2 := RX.out 2 _ rfl _ hz61
        have y0 := RY.out 0 _ rfl _ hz61
        have y1 := RY.out 1 _ rfl _ hz61
        have y2 := RY.out 2 _ rfl _ hz61
        have z0 := RZ.out 0 _ rfl _ hz61
        have z1 := RZ.out 1 _ rfl _ hz61
        have z2 := RZ.out 2 _ rfl _ hz61
        refine go_on ?_
        go_wp2_with fail
        refine (KSG.out _ hz61).mono ?_
        rintro en62 w62 ⟨rfl, hb62⟩
        have hz62 := below_trans hz61 hb62
        go_wp2_with fail
        refine half_w.mono ?_
        rintro en65 w65 ⟨rfl, hb65⟩
        go_wp2_with fail
        go_ret
        exact ⟨rfl, below_trans HW4.out (below_trans hz62 hb65)⟩
      · have hs0 : (sg != 0) = true := by
          have h9 : sg ≠ 0 := fun e => by
            have h8 := HSG.out
            rw [e] at h8
            rcases cmpQ_cases B 0 with ⟨h7, _⟩ | ⟨_, h7⟩ | ⟨h7, _⟩
            · omega
            · exact hB0 h7
            · omega
          simpa using h9
        obtain ⟨Qd, hQd⟩ : ∃ q, A * B⁻¹ = q := ⟨_, rfl⟩
        have HQd := Lib.hid hQd
        have LQd : Hid (lenQ Qd ≤ 100) := Lib.hid (by rw [← hQd]; have := len_mul A B⁻¹; rw [len_inv hB0] at this; have := LA.out; have := LB.out; have := LC.out; omega)
        have HQB : Hid (Qd * B = A) := Lib.hid (by rw [← hQd, Rat.mul_assoc, Rat.inv_mul_cancel _ hB0, Rat.mul_one])
        clear hQd
        have KQB := Lib.hid (fun w' (x : Value) (hx : FracV w' x Qd) (hb : Below w4.heap.size w4 w') => mul_e (w := w') (hx.inF (by have := LQd.out; omega)) (HB4.out.below hb) (by have := LQd.out; have := LB.out; omega) HQB.out)
        refine (div_f (HA4.out.below hz546) (HB4.out.below hz546) hB0 (by have := LA.out; have := LB.out; have := LC.out; omega) HQd.out).mono ?_
        rintro en60 w60 ⟨⟨r60, rfl, f60, g60⟩, hb60⟩
        have hz60 := below_trans hz546 hb60
        obtain ⟨a60, n60, c60, i60, j60, k60, hq60⟩ := frac_form f60
        subst hq60
        have HF60 := Lib.hid f60
        clear f60 g60
        go_wp2_with ((with_reducible refine at_store ?_); refine wpList_store_var rfl _ _ _ rfl w60.heap.size rfl _ rfl _ _ (heap_alloc_new _ _) ifrac rfl frac_one ?_; intro w61 h61 hon61; refine halt ?_)
        have HFQ := Lib.hid (HF60.out.below (below_only ((Below.refl _ _).alloc (Nat.le_refl _) _) hon61 (Nat.le_refl _)))
        have hb61 : Below w60.heap.size w60 w61 := below_only ((Below.refl _ _).alloc (Nat.le_refl _) _) hon61 (Nat.le_refl _)
        have hz61 := below_trans hz60 hb61
        have RQ := Lib.hid (cells_later h61)
        clear h61 hon61
        clear x0 x1 x2 y0 y1 y2 z0 z1 z2
        have x0 := RX.out 0 _ rfl _ hz61
        have x1 := RX.out 1 _ rfl _ hz61
        have x2 := RX.out 2 _ rfl _ hz61
        have y0 := RY.out 0 _ rfl _ hz61
        have y1 := RY.out 1 _ rfl _ hz61
        have y2 := RY.out 2 _ rfl _ hz61
        have z0 := RZ.out 0 _ rfl _ hz61
        have z1 := RZ.out 1 _ rfl _ hz61
        have z2 := RZ.out 2 _ rfl _ hz61
        refine go_on ?_
        go_wp2_with fail
        refine (KSG.out _ hz61).mono ?_
        rintro en62 w62 ⟨rfl, hb62⟩
        have hz62 := below_trans hz61 hb62
        have hz55 : Below w4.heap.size w4 w62.drew := below_drewN hz62 1
        have hy62 : Below w61.heap.size w61 w62 := hb62
        have hy55 : Below w61.heap.size w61 w62.drew := below_drewN hb62 1
        clear x0 x1 x2 y0 y1 y2 z0 z1 z2
        have x0 := RX.out 0 _ rfl _ hz62
        have x1 := RX.out 1 _ rfl _ hz62
        have x2 := RX.out 2 _ rfl _ hz62
        have y0 := RY.out 0 _ rfl _ hz62
        have y1 := RY.out 1 _ rfl _ hz62
        have y2 := RY.out 2 _ rfl _ hz62
        have t0 := RQ.out 0 _ rfl _ hy62
        have t1 := RQ.out 1 _ rfl _ hy62
        have t2 := RQ.out 2 _ rfl _ hy62
        go_wp2_with fail
        go_region_held3 (fun w' => w'.cell? ⟨w.heap.size, 0, none⟩ = some (.bool (decide (A.num < 0))) ∧ w'.cell? ⟨w.heap.size, 1, none⟩ = some (.slice a11 n11 c11) ∧ w'.cell? ⟨w.heap.size, 2, none⟩ = some (.slice i11 j11 k11) ∧ w'.cell? ⟨w.heap.size + 1, 0, none⟩ = some (.bool (decide (B.num < 0))) ∧ w'.cell? ⟨w.heap.size + 1, 1, none⟩ = some (.slice a12 n12 c12) ∧ w'.cell? ⟨w.heap.size + 1, 2, none⟩ = some (.slice i12 j12 k12) ∧ w'.cell? ⟨w60.heap.size, 0, none⟩ = some (.bool (decide (Qd.num < 0))) ∧ w'.cell? ⟨w60.heap.size, 1, none⟩ = some (.slice a60 n60 c60) ∧ w'.cell? ⟨w60.heap.size, 2, none⟩ = some (.slice i60 j60 k60))
          (((try dsimp only); refine ⟨?_, ?_, ?_, ?_, ?_, ?_, ?_, ?_, ?_⟩ <;> (first | exact RX.out _ _ rfl _ (by assumption) | exact RY.out _ _ rfl _ (by assumption) | exact RQ.out _ _ rfl _ (by assumption) | go_keep)))
          (first | (go_at_call 28; refine (KQB.out _ _ (HFQ.out.below hy55) hz55).mono ?_; rintro en551 w551 ⟨⟨v551, rfl, f551, g551⟩, hb551⟩; obtain ⟨a551, n551, c551, i551, j551, k551, hq551⟩ := frac_form f551; subst hq551; have hz551 := below_trans hz55 hb551; have hy551 := below_trans hy55 hb551) | (go_at_call 38; refine (exact_w f551 (HFA.out.below hz551)).mono ?_; rintro en552 w552 ⟨rfl, hb552⟩; have hz552 := below_trans hz551 hb552; have hy552 := below_trans hy551 hb552))
        go_wp2_with fail
        refine half_w.mono ?_
        rintro en65 w65 ⟨rfl, hb65⟩
        go_wp2_with fail
        go_ret
        exact ⟨rfl, below_trans HW4.out (below_trans hz552 hb65)⟩
  · have hf' : fewB 8 3 (at3 n1 m1 k1) (at3 n2 m2 k2) = false := by simpa using hf
    rw [hf'] at HF
    clear hf hf'
    go_enter Try.func6, Try.ntmps6
    go_wp2_with fail
    rw [HW1.out]
    refine HF.out.mono ?_
    rintro en0 w0 ⟨rfl, rfl⟩
    go_wp2_with fail
    go_ret
    exact ⟨rfl, HB1.out⟩
end Go.Proofs.Ytlmnicpkncgbiaa
