/- The reference: quotients, whole numbers. -/
import Derived.Test.YtebgkfcglmjokaaU1
namespace Go.Proofs.Ytebgkfcglmjokaa
open Go.RowKit
attribute [local go_sem ↓] Go.wp_at_zero Go.wp_at_succ

theorem FracV.raw {w : World} {v : Value} {q : Rat} (h : FracV w v q) : RawF w v (decide (q.num < 0)) (digs q.num.natAbs) (digs q.den) := by
  obtain ⟨u, d, he, hu, hd⟩ := h
  exact ⟨u, d, he, hu, hd⟩
theorem frac_row {w : World} {R : Nat} {u d x y z : Value} {b : Bool} {t : TypeId} (hR : w.heap[R]? = some (.cells #[x, y, z] t (0, 0))) :
    (frac3 w R b u d).heap[R]? = some (.cells #[.bool b, u, d] t (0, 0)) :=
  heap_setCell_same _ _ 2 _ _ _ (heap_setCell_same _ _ 1 _ _ _ (heap_setCell_same _ _ 0 _ _ _ hR))
theorem frozen_at {w : World} {g : Nat} {cs : Array Value} {t : TypeId} (h : w.heap[g]? = some (.cells cs t (0, 0))) :
    ∀ (o : Nat) (w' : World), Below w.heap.size w w' → w'.frozen? ⟨g, o, none⟩ = false :=
  fun o _ hb => frozen_of_row _ _ o _ _ ((hb.block _ (lt_of_block h)).trans h)
theorem inv_len {S : Rat} (h0 : S.num ≠ 0) : lenQ S⁻¹ = lenQ S := by
  unfold lenQ
  rw [inv_num_natAbs, Rat.den_inv, if_neg h0, if_neg h0]; omega
/-- Two fractions stored over two others. -/
theorem stored2 {w w3 W : World} {M N : Nat} {t : TypeId} {b1 b2 : Bool} {a1 i1 a2 i2 a3 i3 a4 i4 : Option Addr} {n1 c1 j1 k1 n2 c2 j2 k2 n3 c3 j3 k3 n4 c4 j4 k4 : Nat} {A B : Rat}
    (hX : w3.heap[N]? = some (.cells #[.bool b1, .slice a1 n1 c1, .slice i1 j1 k1] t (0, 0))) (hY : w3.heap[N + 1]? = some (.cells #[.bool b2, .slice a2 n2 c2, .slice i2 j2 k2] t (0, 0)))
    (f1 : FracV w3 (.agg #[.bool (decide (A.num < 0)), .slice a3 n3 c3, .slice i3 j3 k3]) A) (f2 : FracV w3 (.agg #[.bool (decide (B.num < 0)), .slice a4 n4 c4, .slice i4 j4 k4]) B)
    (hb : Below M w w3) (hM : M ≤ N)
    (hW : W = frac3 (frac3 w3 N (decide (A.num < 0)) (.slice a3 n3 c3) (.slice i3 j3 k3)) (N + 1) (decide (B.num < 0)) (.slice a4 n4 c4) (.slice i4 j4 k4)) :
    W.heap[N]? = some (.cells #[.bool (decide (A.num < 0)), .slice a3 n3 c3, .slice i3 j3 k3] t (0, 0)) ∧ W.heap[N + 1]? = some (.cells #[.bool (decide (B.num < 0)), .slice a4 n4 c4, .slice i4 j4 k4] t (0, 0)) ∧
    FracV W (.agg #[.bool (decide (A.num < 0)), .slice a3 n3 c3, .slice i3 j3 k3]) A ∧ FracV W (.agg #[.bool (decide (B.num < 0)), .slice a4 n4 c4, .slice i4 j4 k4]) B ∧ Below M w W ∧ (∀ k, k ≠ N → k ≠ N + 1 → W.heap[k]? = w3.heap[k]?) := by
  obtain ⟨W1, hW1⟩ : ∃ x, x = frac3 w3 N (decide (A.num < 0)) (.slice a3 n3 c3) (.slice i3 j3 k3) := ⟨_, rfl⟩
  rw [← hW1] at hW
  have o1 : Only N w3 W1 := by rw [hW1]; exact frac3_only _ _ _ _ _
  have e1 : W1.heap[N]? = some (.cells #[.bool (decide (A.num < 0)), .slice a3 n3 c3, .slice i3 j3 k3] t (0, 0)) := by rw [hW1]; exact frac_row hX
  have hY1 := (o1.block (N + 1) (by omega)).trans hY
  have o2 : Only (N + 1) W1 W := by rw [hW]; exact frac3_only _ _ _ _ _
  have e2 : W.heap[N + 1]? = some (.cells #[.bool (decide (B.num < 0)), .slice a4 n4 c4, .slice i4 j4 k4] t (0, 0)) := by rw [hW]; exact frac_row hY1
  refine ⟨(o2.block N (by omega)).trans e1, e2, ?_, ?_, ?_, ?_⟩
  · exact (f1.other hX o1).other hY1 o2
  · exact (f2.other hX o1).other hY1 o2
  · exact below_only (below_only hb o1 hM) o2 (by omega)
  · exact fun k h1 h2 => (o2.block k h2).trans (o1.block k h1)

/-- What a quotient of the reference tells. -/
def RQuo (w : World) (z : Bool) (Q : Rat) (e : Ending) (w' : World) : Prop :=
  (if z then e = .returned (.tuple #[.agg #[Value.bool false, Value.slice none 0 0, Value.slice none 0 0], .int .i64 11]) else ∃ r, e = .returned (.tuple #[r, .int .i64 0]) ∧ FracV w' r Q) ∧ Below w.heap.size w w'

set_option maxRecDepth 100000 in
set_option maxHeartbeats 4000000 in
theorem rdiv_w {w : World} {v t : Value} {b c : Bool} {l m l2 m2 : List Nat} (hv : RawF w v b l m) (ht : RawF w t c l2 m2) (h1 : l.length + m.length ≤ 4096) (h2 : l2.length + m2.length ≤ 4096) :
    Calls Try.prog 23 #[v, t] w (RQuo w (zerB (fixR c l2 m2).num.natAbs) (cutR (fixR b l m * (fixR c l2 m2)⁻¹))) := by
  have HV := Lib.hid hv
  have HT := Lib.hid ht
  obtain ⟨u, d, rfl, hu, hd⟩ := hv
  obtain ⟨ua, un, uc, hue⟩ := hu.form
  subst hue
  obtain ⟨da, dn, dc, hde⟩ := hd.form
  subst hde
  obtain ⟨u2, d2, rfl, hu2, hd2⟩ := ht
  obtain ⟨va, vn, vc, hve⟩ := hu2.form
  subst hve
  obtain ⟨ea, en, ec, hee⟩ := hd2.form
  subst hee
  obtain ⟨w1, hw1⟩ : ∃ w1, w1 = (((w.alloc (Obj.cells #[Value.bool b, Value.slice ua un uc, Value.slice da dn dc] 24)).alloc (Obj.cells #[Value.bool c, Value.slice va vn vc, Value.slice ea en ec] 24)).alloc (Obj.cells #[Value.bool false, Value.slice none 0 0, Value.slice none 0 0] 24)) := ⟨_, rfl⟩
  have HB1 : Hid (Below w.heap.size w w1) := Lib.hid (by rw [hw1]; exact (((Below.refl _ _).alloc (Nat.le_refl _) _).alloc (by simp) _).alloc (by simp; omega) _)
  have HX : Hid (w1.heap[w.heap.size]? = some (.cells #[Value.bool b, Value.slice ua un uc, Value.slice da dn dc] 24 (0, 0))) := Lib.hid (by rw [hw1]; exact alloc3_0 w _ _ _)
  have HY : Hid (w1.heap[w.heap.size + 1]? = some (.cells #[Value.bool c, Value.slice va vn vc, Value.slice ea en ec] 24 (0, 0))) := Lib.hid (by rw [hw1]; exact alloc3_1 w _ _ _)
  have HR : Hid (w1.heap[w.heap.size + 2]? = some (.cells #[Value.bool false, Value.slice none 0 0, Value.slice none 0 0] 24 (0, 0))) := Lib.hid (by rw [hw1]; exact alloc3_new w _ _ _)
  have HW1 := Lib.hid hw1.symm
  have LP : Hid (lenQ (fixR b l m) ≤ 4096) := Lib.hid (fix_len hu.ws hd.ws)
  have LS : Hid (lenQ (fixR c l2 m2) ≤ 4096) := Lib.hid (fix_len hu2.ws hd2.ws)
  clear hw1 hu hd hu2 hd2
  have KF1 := Lib.hid (fun w' (hb : Below w1.heap.size w1 w') => rfix_w (w := w') (HV.out.below (below_trans HB1.out hb)) h1)
  have KF2 := Lib.hid (fun w' (hb : Below w1.heap.size w1 w') => rfix_w (w := w') (HT.out.below (below_trans HB1.out hb)) h2)
  obtain ⟨P, hP⟩ : ∃ P, P = fixR b l m := ⟨_, rfl⟩
  obtain ⟨S, hS⟩ : ∃ S, S = fixR c l2 m2 := ⟨_, rfl⟩
  rw [← hP, ← hS]
  rw [← hP] at LP KF1
  rw [← hS] at LS KF2
  obtain ⟨Q, hQ⟩ : ∃ Q, Q = cutR (P * S⁻¹) := ⟨_, rfl⟩
  have HQ := Lib.hid hQ
  rw [← hQ]
  clear hP hS h1 h2 hQ
  have RX := Lib.hid (cells_later HX.out)
  have RY := Lib.hid (cells_later HY.out)
  have FRX := Lib.hid (frozen_at HX.out)
  have FRY := Lib.hid (frozen_at HY.out)
  have hz1 := Below.refl w1.heap.size w1
  have x0 := RX.out 0 _ rfl _ hz1
  have x1 := RX.out 1 _ rfl _ hz1
  have x2 := RX.out 2 _ rfl _ hz1
  have y0 := RY.out 0 _ rfl _ hz1
  have y1 := RY.out 1 _ rfl _ hz1
  have y2 := RY.out 2 _ rfl _ hz1
  have hz0 : Below w1.heap.size w1 w1.drew := below_drewN (Below.refl _ _) 1
  go_enter Try.func23, Try.ntmps23
  go_wp2_with fail
  rw [HW1.out]
  go_cut [5] (fun ev wr => ev = .int .i64 0 ∧ ∃ (a11 : Option Addr) (n11 c11 : Nat) (i11 : Option Addr) (j11 k11 : Nat) (a12 : Option Addr) (n12 c12 : Nat) (i12 : Option Addr) (j12 k12 : Nat), Hid (wr.heap[w.heap.size]? = some (.cells #[Value.bool (decide (P.num < 0)), Value.slice a11 n11 c11, Value.slice i11 j11 k11] 24 (0, 0))) ∧ Hid (wr.heap[w.heap.size + 1]? = some (.cells #[Value.bool (decide (S.num < 0)), Value.slice a12 n12 c12, Value.slice i12 j12 k12] 24 (0, 0))) ∧ Hid (wr.heap[w.heap.size + 2]? = some (.cells #[Value.bool false, Value.slice none 0 0, Value.slice none 0 0] 24 (0, 0))) ∧ Hid (FracV wr (.agg #[Value.bool (decide (P.num < 0)), Value.slice a11 n11 c11, Value.slice i11 j11 k11]) P) ∧ Hid (FracV wr (.agg #[Value.bool (decide (S.num < 0)), Value.slice a12 n12 c12, Value.slice i12 j12 k12]) S) ∧ Hid (Below w.heap.size w wr))
  case first =>
    go_region_with (first | (go_at_call_of 18 (Value.slice ua un uc); refine (KF1.out _ hz0).mono ?_; rintro en11 w11 ⟨⟨v11, rfl, f11⟩, hb11⟩; obtain ⟨a11, n11, c11, i11, j11, k11, hq11⟩ := frac_form f11; subst hq11; have hz11 := below_trans hz0 hb11; have y0 := RY.out 0 _ rfl _ hz11; have y1 := RY.out 1 _ rfl _ hz11; have y2 := RY.out 2 _ rfl _ hz11) | (go_at_call_of 18 (Value.slice va vn vc); refine (KF2.out _ hz11).mono ?_; rintro en12 w12 ⟨⟨v12, rfl, f12⟩, hb12⟩; obtain ⟨a12, n12, c12, i12, j12, k12, hq12⟩ := frac_form f12; subst hq12; have hz12 := below_trans hz11 hb12; have x0 := RX.out 0 _ rfl _ hz12; have xf0 := FRX.out 0 _ hz12; have x1 := RX.out 1 _ rfl _ hz12; have xf1 := FRX.out 1 _ hz12; have x2 := RX.out 2 _ rfl _ hz12; have xf2 := FRX.out 2 _ hz12; have y0 := RY.out 0 _ rfl _ hz12; have yf0 := FRY.out 0 _ hz12; have y1 := RY.out 1 _ rfl _ hz12; have yf1 := FRY.out 1 _ hz12; have y2 := RY.out 2 _ rfl _ hz12; have yf2 := FRY.out 2 _ hz12))
    all_goals
      go_wp2_with fail
      go_meet
    all_goals
      have hS := stored2 (W := _) ((hz12.block _ (lt_of_block HX.out)).trans HX.out) ((hz12.block _ (lt_of_block HY.out)).trans HY.out) (f11.below hb12) f12 (below_trans HB1.out hz12) (Nat.le_refl _) rfl
      exact ⟨rfl, _, _, _, _, _, _, _, _, _, _, _, _, Lib.hid hS.1, Lib.hid hS.2.1, Lib.hid ((hS.2.2.2.2.2 (w.heap.size + 2) (by omega) (by omega)).trans ((hz12.block _ (lt_of_block HR.out)).trans HR.out)), Lib.hid hS.2.2.1, Lib.hid hS.2.2.2.1, Lib.hid hS.2.2.2.2.1⟩
  case rest =>
    obtain ⟨w4, rfl⟩ : ∃ w8 : World, w8 = wc := ⟨_, rfl⟩
    obtain ⟨rfl, a11, n11, c11, i11, j11, k11, a12, n12, c12, i12, j12, k12, HX4, HY4, HR4, HFA, HFB, HW4⟩ := hcut
    clear x0 x1 x2 y0 y1 y2 hz0 hz1 RX RY FRX FRY KF1 KF2
    have RX := Lib.hid (cells_later HX4.out)
    have RY := Lib.hid (cells_later HY4.out)
    have RR := Lib.hid (cells_later HR4.out)
    have FR := Lib.hid (frozen_at HR4.out)
    have hz4 := Below.refl w4.heap.size w4
    have x0 := RX.out 0 _ rfl _ hz4
    have x1 := RX.out 1 _ rfl _ hz4
    have x2 := RX.out 2 _ rfl _ hz4
    have y0 := RY.out 0 _ rfl _ hz4
    have y1 := RY.out 1 _ rfl _ hz4
    have y2 := RY.out 2 _ rfl _ hz4
    have HLN : Hid (n12 = (digs S.num.natAbs).length ∧ IsW w4 (.slice a12 n12 c12) (digs S.num.natAbs) ∧ IsW w4 (.slice i12 j12 k12) (digs S.den)) := Lib.hid (by
      obtain ⟨u, d, he, hu, hd⟩ := HFB.out
      simp only [Value.agg.injEq, Array.mk.injEq, List.cons.injEq, and_true, true_and] at he
      obtain ⟨rfl, rfl⟩ := he
      exact ⟨hu.lenE, hu, hd⟩)
    by_cases h0 : S.num = 0
    · have t0 : ((n12 : Int) == 0) = true := by
        have h9 := HLN.out.1
        rw [h0] at h9
        simp [digs_zero] at h9
        simp; omega
      have HZ : Hid (zerB S.num.natAbs = true) := Lib.hid (by rw [h0]; rfl)
      have r0 := RR.out 0 _ rfl _ hz4
      have r1 := RR.out 1 _ rfl _ hz4
      have r2 := RR.out 2 _ rfl _ hz4
      have f0 := FR.out 0 _ hz4
      have f1 := FR.out 1 _ hz4
      have f2 := FR.out 2 _ hz4
      clear h0
      go_wp2_with fail
      exact bodyPost_ret (results_row_tmp rfl _ _ (w.heap.size + 2) _ _ _ _ rfl (frac3_heap HR4.out) Try.underlying24 rfl ifrac) rfl ⟨by rw [HZ.out, if_pos rfl]; rfl, below_only HW4.out (frac3_only _ _ _ _ _) (by omega)⟩
    · have t0 : ((n12 : Int) == 0) = false := by
        have h9 := HLN.out.1
        rw [digs_pos (by omega)] at h9
        simp at h9
        simp; omega
      have HZ : Hid (zerB S.num.natAbs = false) := Lib.hid (zerB_false (by omega))
      have HI : Hid (FracV w4 (.agg #[Value.bool (decide (S.num < 0)), Value.slice i12 j12 k12, Value.slice a12 n12 c12]) S⁻¹) := Lib.hid ⟨_, _, by rw [inv_num_neg], by rw [inv_num_natAbs, if_neg h0]; exact HLN.out.2.2, by rw [Rat.den_inv, if_neg h0]; exact HLN.out.2.1⟩
      have K := Lib.hid (rproduct_w HFA.out HI.out LP.out (by rw [inv_len h0]; exact LS.out))
      rw [← HQ.out] at K
      clear h0
      go_wp2_with fail
      refine K.out.mono ?_
      rintro en5 w5 ⟨⟨r5, rfl, f5⟩, hb5⟩
      obtain ⟨a5, n5, c5, i5, j5, k5, hq5⟩ := frac_form f5
      subst hq5
      have hz5 := below_trans hz4 hb5
      have r0 := RR.out 0 _ rfl _ hz5
      have r1 := RR.out 1 _ rfl _ hz5
      have r2 := RR.out 2 _ rfl _ hz5
      have f0 := FR.out 0 _ hz5
      have f1 := FR.out 1 _ hz5
      have f2 := FR.out 2 _ hz5
      have HR5 : Hid (w5.heap[w.heap.size + 2]? = some (.cells #[Value.bool false, Value.slice none 0 0, Value.slice none 0 0] 24 (0, 0))) := Lib.hid ((hz5.block _ (lt_of_block HR4.out)).trans HR4.out)
      have HF5 := Lib.hid (f5.other HR5.out (frac3_only _ _ (decide (Q.num < 0)) (Value.slice a5 n5 c5) (Value.slice i5 j5 k5)))
      have HB5 := Lib.hid (below_trans HW4.out hb5)
      clear f5 hb5 x0 x1 x2 y0 y1 y2
      go_wp2_with fail
      exact bodyPost_ret (results_row_tmp rfl _ _ (w.heap.size + 2) _ _ _ _ rfl (frac3_heap HR5.out) Try.underlying24 rfl ifrac) rfl ⟨by rw [HZ.out, if_neg (by simp)]; exact ⟨_, rfl, HF5.out⟩, below_only HB5.out (frac3_only _ _ _ _ _) (by omega)⟩

theorem rdiv_v {w : World} {v t : Value} {P S : Rat} (hv : FracV w v P) (ht : FracV w t S) (h1 : lenQ P ≤ 4096) (h2 : lenQ S ≤ 4096) :
    Calls Try.prog 23 #[v, t] w (RQuo w (zerB S.num.natAbs) (cutR (P * S⁻¹))) := by
  have h := rdiv_w hv.raw ht.raw h1 h2
  rwa [fix_digs h1, fix_digs h2] at h

theorem len_int (n : Int) (h1 : -9223372036854775808 ≤ n) (h2 : n ≤ 9223372036854775807) : lenQ (n : Rat) ≤ 3 := by
  have h := int_len n h1 h2
  have e : (digs (n : Rat).den).length = 1 := by show (digs 1).length = 1; rw [digs_one]; rfl
  have e2 : (n : Rat).num.natAbs = n.natAbs := rfl
  unfold lenQ
  rw [e, e2]; omega
theorem int_mk (n : Int) : mkRat n 1 = (n : Rat) := by
  have h := Rat.mkRat_self (n : Rat)
  exact h

set_option maxRecDepth 8000 in
set_option maxHeartbeats 2000000 in
theorem rint_w {w : World} (n : Int) (h1 : -9223372036854775808 ≤ n) (h2 : n ≤ 9223372036854775807) :
    Calls Try.prog 69 #[.int .i64 n] w fun e w' => (∃ r, e = .returned r ∧ FracV w' r (n : Rat)) ∧ Below w.heap.size w w' := by
  obtain ⟨w1, hw1⟩ : ∃ w1, w1 = w.alloc (Obj.cells #[Value.bool false, Value.slice none 0 0, Value.slice none 0 0] 24) := ⟨_, rfl⟩
  have HB1 : Hid (Below w.heap.size w w1) := Lib.hid (by rw [hw1]; exact (Below.refl _ _).alloc (Nat.le_refl _) _)
  have HR1 : Hid (w1.heap[w.heap.size]? = some (.cells #[Value.bool false, Value.slice none 0 0, Value.slice none 0 0] 24 (0, 0))) := Lib.hid (by rw [hw1]; exact heap_alloc_new w _)
  have HW1 := Lib.hid hw1.symm
  have HQ : Hid (cutR (mkRat n 1) = (n : Rat)) := Lib.hid (by rw [int_mk, cut_id (by have := len_int n h1 h2; omega)])
  have HL : Hid ((digs n.natAbs).length < 1073741824) := Lib.hid (by have := int_len n h1 h2; omega)
  clear hw1
  by_cases hn : n < 0
  · obtain ⟨k, hk⟩ : ∃ k : Nat, n = -(k : Int) - 1 := ⟨(n + 1).natAbs, by omega⟩
    have t0 : decide (-(k : Int) - 1 < 0) = true := by simp; omega
    have hk9 : k < 9223372036854775808 := by omega
    have HNA : Hid (n.natAbs = k + 1) := Lib.hid (by omega)
    have e1 : IntKind.i64.wrap (-(k : Int) - 1 + 1) = -(k : Int) := by rw [IntKind.wrap_i64]; omega
    have e2 : IntKind.i64.wrap (-(-(k : Int))) = (k : Int) := by rw [IntKind.wrap_i64]; omega
    have e2' : IntKind.i64.wrap (k : Int) = (k : Int) := by rw [IntKind.wrap_i64]; omega
    have e3 : IntKind.u64.wrap (k : Int) = (k : Int) := by rw [IntKind.wrap_u64]; omega
    have e4 : IntKind.u64.wrap ((k : Int) + 1) = (k : Int) + 1 := by rw [IntKind.wrap_u64]; omega
    have K1 : Hid (∀ w', Calls Try.prog 111 #[.int .u64 ((k : Int) + 1)] w' fun e w'' => (∃ r, e = .returned r ∧ IsW w'' r (digs (k + 1)) ∧ (∀ b, r.ownBlock = some b → w'.heap.size ≤ b)) ∧ Below w'.heap.size w' w'') := Lib.hid (fun w' => rwide_w (k + 1) (by omega))
    have K3 := Lib.hid (fun w' x y (h : IsW w' x (digs (k + 1))) (j : IsW w' y (digs 1)) => rlowest_w (w := w') (u := x) (v := y) (b := true) (z := n) (y := 1) (by rw [HNA.out]; exact h) j (by omega) (fun _ => by simp [hn]) HL.out (by rw [digs_one]; simp))
    rw [HQ.out] at K3
    obtain ⟨q, hq⟩ : ∃ q : Rat, q = (n : Rat) := ⟨_, rfl⟩
    rw [← hq] at K3 ⊢
    clear hq hn h1 h2
    subst hk
    go_enter Try.func69, Try.ntmps69
    go_wp2_with fail
    rw [HW1.out]
    refine (K1.out _).mono ?_
    rintro en2 w2 ⟨⟨r2, rfl, hr2, -⟩, hb2⟩
    obtain ⟨a2, n2, c2, he2⟩ := hr2.form
    subst he2
    go_wp2_with fail
    refine rone_w.mono ?_
    rintro en3 w3 ⟨⟨r3, rfl, hr3, -⟩, hb3⟩
    obtain ⟨a3, n3, c3, he3⟩ := hr3.form
    subst he3
    go_wp2_with fail
    refine (K3.out _ _ _ (hr2.below hb3) hr3).mono ?_
    rintro en4 w4 ⟨⟨r4, rfl, f4⟩, hb4⟩
    obtain ⟨a4, n4, c4, i4, j4, k4, hq4⟩ := frac_form f4
    subst hq4
    have hz4 := below_trans hb2 (below_trans hb3 hb4)
    have HR4 : Hid (w4.heap[w.heap.size]? = some (.cells #[Value.bool false, Value.slice none 0 0, Value.slice none 0 0] 24 (0, 0))) := Lib.hid ((hz4.block _ (lt_of_block HR1.out)).trans HR1.out)
    have HF4 := Lib.hid (f4.other HR4.out (frac3_only _ _ (decide (q.num < 0)) (Value.slice a4 n4 c4) (Value.slice i4 j4 k4)))
    have HB4 := Lib.hid (below_trans HB1.out hz4)
    have r0 := cells_later HR4.out 0 _ rfl _ (Below.refl _ _)
    have r1 := cells_later HR4.out 1 _ rfl _ (Below.refl _ _)
    have r2 := cells_later HR4.out 2 _ rfl _ (Below.refl _ _)
    have f0 := frozen_of_row _ _ 0 _ _ HR4.out
    have f1 := frozen_of_row _ _ 1 _ _ HR4.out
    have f2 := frozen_of_row _ _ 2 _ _ HR4.out
    clear f4 hb2 hb3 hb4 hr2 hr3 hz4
    go_wp2_with fail
    exact bodyPost_ret (results_cell_row rfl _ _ w.heap.size _ _ _ _ rfl (frac3_heap HR4.out) Try.underlying24 rfl ifrac) rfl ⟨⟨_, rfl, HF4.out⟩, below_only HB4.out (frac3_only _ _ _ _ _) (by omega)⟩
  · obtain ⟨k, hk⟩ : ∃ k : Nat, n = (k : Int) := ⟨n.natAbs, by omega⟩
    have t0 : decide ((k : Int) < 0) = false := by simp
    have hk9 : k < 9223372036854775808 := by omega
    have HNA : Hid (n.natAbs = k) := Lib.hid (by omega)
    have e3 : IntKind.u64.wrap (k : Int) = (k : Int) := by rw [IntKind.wrap_u64]; omega
    have K1 := Lib.hid (fun w' => rwide_w (w := w') k (by omega))
    have K3 := Lib.hid (fun w' x y (h : IsW w' x (digs k)) (j : IsW w' y (digs 1)) => rlowest_w (w := w') (u := x) (v := y) (b := false) (z := n) (y := 1) (by rw [HNA.out]; exact h) j (by omega) (fun _ => by simp [hn]) HL.out (by rw [digs_one]; simp))
    rw [HQ.out] at K3
    obtain ⟨q, hq⟩ : ∃ q : Rat, q = (n : Rat) := ⟨_, rfl⟩
    rw [← hq] at K3 ⊢
    clear hq hn h1 h2
    subst hk
    go_enter Try.func69, Try.ntmps69
    go_wp2_with fail
    rw [HW1.out]
    refine (K1.out _).mono ?_
    rintro en2 w2 ⟨⟨r2, rfl, hr2, -⟩, hb2⟩
    obtain ⟨a2, n2, c2, he2⟩ := hr2.form
    subst he2
    go_wp2_with fail
    refine rone_w.mono ?_
    rintro en3 w3 ⟨⟨r3, rfl, hr3, -⟩, hb3⟩
    obtain ⟨a3, n3, c3, he3⟩ := hr3.form
    subst he3
    go_wp2_with fail
    refine (K3.out _ _ _ (hr2.below hb3) hr3).mono ?_
    rintro en4 w4 ⟨⟨r4, rfl, f4⟩, hb4⟩
    obtain ⟨a4, n4, c4, i4, j4, k4, hq4⟩ := frac_form f4
    subst hq4
    have hz4 := below_trans hb2 (below_trans hb3 hb4)
    have HR4 : Hid (w4.heap[w.heap.size]? = some (.cells #[Value.bool false, Value.slice none 0 0, Value.slice none 0 0] 24 (0, 0))) := Lib.hid ((hz4.block _ (lt_of_block HR1.out)).trans HR1.out)
    have HF4 := Lib.hid (f4.other HR4.out (frac3_only _ _ (decide (q.num < 0)) (Value.slice a4 n4 c4) (Value.slice i4 j4 k4)))
    have HB4 := Lib.hid (below_trans HB1.out hz4)
    have r0 := cells_later HR4.out 0 _ rfl _ (Below.refl _ _)
    have r1 := cells_later HR4.out 1 _ rfl _ (Below.refl _ _)
    have r2 := cells_later HR4.out 2 _ rfl _ (Below.refl _ _)
    have f0 := frozen_of_row _ _ 0 _ _ HR4.out
    have f1 := frozen_of_row _ _ 1 _ _ HR4.out
    have f2 := frozen_of_row _ _ 2 _ _ HR4.out
    clear f4 hb2 hb3 hb4 hr2 hr3 hz4
    go_wp2_with fail
    exact bodyPost_ret (results_cell_row rfl _ _ w.heap.size _ _ _ _ rfl (frac3_heap HR4.out) Try.underlying24 rfl ifrac) rfl ⟨⟨_, rfl, HF4.out⟩, below_only HB4.out (frac3_only _ _ _ _ _) (by omega)⟩

theorem makeQ_eq (p q : Int) (hq : q ≠ 0) : makeQ p q = (p : Rat) * (q : Rat)⁻¹ := by
  rw [← Rat.div_def, ← Rat.divInt_eq_div]
  unfold makeQ
  rw [← Rat.divInt_ofNat, Rat.divInt_eq_divInt_iff (by omega) hq]
  by_cases h1 : p < 0 <;> by_cases h2 : q < 0
  · have e1 : (p.natAbs : Int) = -p := by omega
    have e2 : (q.natAbs : Int) = -q := by omega
    rw [e1, e2]; simp [h1, h2, Int.neg_mul, Int.mul_neg]
  · have e1 : (p.natAbs : Int) = -p := by omega
    have e2 : (q.natAbs : Int) = q := by omega
    rw [e1, e2]; simp [h1, h2, Int.neg_mul, Int.mul_neg]
  · have e1 : (p.natAbs : Int) = p := by omega
    have e2 : (q.natAbs : Int) = -q := by omega
    rw [e1, e2]; simp [h1, h2, Int.neg_mul, Int.mul_neg]
  · have e1 : (p.natAbs : Int) = p := by omega
    have e2 : (q.natAbs : Int) = q := by omega
    rw [e1, e2]; simp [h1, h2, Int.neg_mul, Int.mul_neg]
theorem len_make (p q : Int) (hp1 : -9223372036854775808 ≤ p) (hp2 : p ≤ 9223372036854775807) (hq1 : -9223372036854775808 ≤ q) (hq2 : q ≤ 9223372036854775807) (hq : q ≠ 0) : lenQ ((p : Rat) * (q : Rat)⁻¹) ≤ 6 := by
  have h := len_mul (p : Rat) (q : Rat)⁻¹
  rw [inv_len (S := (q : Rat)) hq] at h
  have h1 := len_int p hp1 hp2
  have h2 := len_int q hq1 hq2
  omega

set_option maxRecDepth 8000 in
set_option maxHeartbeats 2000000 in
theorem rmake_w {w : World} (p q : Int) (hp1 : -9223372036854775808 ≤ p) (hp2 : p ≤ 9223372036854775807) (hq1 : -9223372036854775808 ≤ q) (hq2 : q ≤ 9223372036854775807) :
    Calls Try.prog 21 #[.int .i64 p, .int .i64 q] w (RQuo w (zerB q.natAbs) (makeQ p q)) := by
  obtain ⟨w1, hw1⟩ : ∃ w1, w1 = w.alloc (Obj.cells #[Value.bool false, Value.slice none 0 0, Value.slice none 0 0] 24) := ⟨_, rfl⟩
  have HB1 : Hid (Below w.heap.size w w1) := Lib.hid (by rw [hw1]; exact (Below.refl _ _).alloc (Nat.le_refl _) _)
  have HR1 : Hid (w1.heap[w.heap.size]? = some (.cells #[Value.bool false, Value.slice none 0 0, Value.slice none 0 0] 24 (0, 0))) := Lib.hid (by rw [hw1]; exact heap_alloc_new w _)
  have HW1 := Lib.hid hw1.symm
  clear hw1
  have KP := Lib.hid (fun w' => rint_w (w := w') p hp1 hp2)
  have KQ := Lib.hid (fun w' => rint_w (w := w') q hq1 hq2)
  have LP := Lib.hid (len_int p hp1 hp2)
  have LQ := Lib.hid (len_int q hq1 hq2)
  obtain ⟨zb, hzb⟩ : ∃ x, x = zerB q.natAbs := ⟨_, rfl⟩
  have HZB := Lib.hid hzb
  have KD := Lib.hid (fun w' x y (h : FracV w' x (p : Rat)) (k : FracV w' y (q : Rat)) => rdiv_v (w := w') h k (by have := LP.out; omega) (by have := LQ.out; omega))
  have HZ2 : Hid (zerB (q : Rat).num.natAbs = zb) := Lib.hid hzb.symm
  rw [HZ2.out] at KD
  have HMQ : Hid (zb = false → cutR ((p : Rat) * (q : Rat)⁻¹) = makeQ p q) := Lib.hid (fun h => by
    have hq : q ≠ 0 := fun e => by rw [hzb, e] at h; cases h
    rw [cut_id (by have := len_make p q hp1 hp2 hq1 hq2 hq; omega), makeQ_eq p q hq])
  rw [← hzb]
  obtain ⟨Q, hQ⟩ : ∃ Q, Q = cutR ((p : Rat) * (q : Rat)⁻¹) := ⟨_, rfl⟩
  rw [← hQ] at KD HMQ
  obtain ⟨P', hP'⟩ : ∃ P' : Rat, P' = (p : Rat) := ⟨_, rfl⟩
  obtain ⟨S', hS'⟩ : ∃ S' : Rat, S' = (q : Rat) := ⟨_, rfl⟩
  rw [← hP'] at KP KD
  rw [← hS'] at KQ KD
  clear hp1 hp2 hq1 hq2 hzb hQ hP' hS' LP LQ HZ2
  go_enter Try.func21, Try.ntmps21
  go_wp2_with fail
  rw [HW1.out]
  refine (KP.out _).mono ?_
  rintro en2 w2 ⟨⟨v2, rfl, f2⟩, hb2⟩
  go_wp2_with fail
  refine (KQ.out _).mono ?_
  rintro en3 w3 ⟨⟨v3, rfl, f3⟩, hb3⟩
  go_wp2_with fail
  refine (KD.out _ _ _ (f2.below hb3) f3).mono ?_
  rintro en4 w4 ⟨he4, hb4⟩
  have hz4 := below_trans hb2 (below_trans hb3 hb4)
  have HR4 : Hid (w4.heap[w.heap.size]? = some (.cells #[Value.bool false, Value.slice none 0 0, Value.slice none 0 0] 24 (0, 0))) := Lib.hid ((hz4.block _ (lt_of_block HR1.out)).trans HR1.out)
  have HB4 := Lib.hid (below_trans HB1.out hz4)
  have r0 := cells_later HR4.out 0 _ rfl _ (Below.refl _ _)
  have r1 := cells_later HR4.out 1 _ rfl _ (Below.refl _ _)
  have r2 := cells_later HR4.out 2 _ rfl _ (Below.refl _ _)
  have g0 := frozen_of_row _ _ 0 _ _ HR4.out
  have g1 := frozen_of_row _ _ 1 _ _ HR4.out
  have g2 := frozen_of_row _ _ 2 _ _ HR4.out
  clear f2 f3 hb2 hb3 hb4 hz4
  cases zb with
  | true =>
    obtain rfl : en4 = _ := by simpa using he4
    go_wp2_with fail
    exact bodyPost_ret (results_row_tmp rfl _ _ w.heap.size _ _ _ _ rfl (frac3_heap HR4.out) Try.underlying24 rfl ifrac) rfl ⟨by rw [if_pos rfl]; rfl, below_only HB4.out (frac3_only _ _ _ _ _) (by omega)⟩
  | false =>
    obtain ⟨v4, rfl, f4⟩ : ∃ r, en4 = .returned (.tuple #[r, .int .i64 0]) ∧ FracV w4 r Q := by simpa using he4
    obtain ⟨a4, n4, c4, i4, j4, k4, hq4⟩ := frac_form f4
    subst hq4
    have HF4 := Lib.hid (f4.other HR4.out (frac3_only _ _ (decide (Q.num < 0)) (Value.slice a4 n4 c4) (Value.slice i4 j4 k4)))
    clear f4
    go_wp2_with fail
    exact bodyPost_ret (results_row_tmp rfl _ _ w.heap.size _ _ _ _ rfl (frac3_heap HR4.out) Try.underlying24 rfl ifrac) rfl ⟨by rw [if_neg (by simp), ← HMQ.out (by first | rfl | trivial)]; exact ⟨_, rfl, HF4.out⟩, below_only HB4.out (frac3_only _ _ _ _ _) (by omega)⟩
end Go.Proofs.Ytebgkfcglmjokaa
