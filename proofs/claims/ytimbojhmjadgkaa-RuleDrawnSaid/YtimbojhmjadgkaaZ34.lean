/- Several texts in one: D3. -/
import Derived.Test.YtimbojhmjadgkaaZ33
import Derived.Deep.DrawnRows
/- A draw. -/
namespace Go.Proofs.Ytimbojhmjadgkaa
open Go.RowKit
attribute [local go_sem ↓] Go.wp_at_zero Go.wp_at_succ

/-- The place that a ticket draws. -/
def DrawnAt (qs : List Rat) (t : Rat) (o : Nat) : Prop :=
  o < qs.length ∧ (∀ j, j < o → cmpQ (sumR (nthQ qs) 0 (j + 1)) t ≤ 0) ∧ (o + 1 < qs.length → 0 < cmpQ (sumR (nthQ qs) 0 (o + 1)) t)
def DrawPost (w : World) (qs : List Rat) (t : Rat) (e : Ending) (w' : World) : Prop :=
  (∃ o : Nat, e = .returned (.tuple #[.int .i64 o, .int .i64 0]) ∧ DrawnAt qs t o) ∧ Below w.heap.size w w'

set_option maxRecDepth 8000 in
set_option maxHeartbeats 8000000 in
theorem draw_d {w : World} {v x : Value} {qs : List Rat} {T : Rat} (hl : ListF 1 w v qs) (hx : FewF 1 w x T) (hn : qs.length ≤ 20) (hq : ∀ i, i < qs.length → ¬ cmpQ (nthQ qs i) 0 < 0)
    (hcap : ∃ a c, v = .slice a qs.length c ∧ qs.length ≤ c) (hs : sumR (nthQ qs) 0 qs.length = 1) (ht0 : ¬ cmpQ T 0 < 0) (ht1 : cmpQ T 1 < 0) :
    Calls Try.prog 5 #[v, x] w (DrawPost w qs T) := by
  have hn0 : 0 < qs.length := by
    rcases Nat.eq_zero_or_pos qs.length with h | h
    · rw [h] at hs
      exact absurd hs (by simp [sumR])
    · exact h
  have HV := Lib.hid hx
  obtain ⟨a, c, rfl, hac⟩ := hcap
  obtain ⟨b, l, m, ⟨u, d, rfl, hu, hd⟩, -⟩ := hx
  obtain ⟨ua, un, uc, hue⟩ := hu.form
  subst hue
  obtain ⟨da, dn, dc, hde⟩ := hd.form
  subst hde
  clear hu hd
  obtain ⟨L, hnn⟩ : ∃ L, L + 1 = qs.length := ⟨qs.length - 1, by omega⟩
  obtain ⟨w1, hw1⟩ : ∃ w1, w1 = w.alloc (Obj.cells #[Value.bool b, Value.slice ua un uc, Value.slice da dn dc] 26) := ⟨_, rfl⟩
  have HB1 : Hid (Below w.heap.size w w1) := Lib.hid (by rw [hw1]; exact (Below.refl _ _).alloc (Nat.le_refl _) _)
  have HX : Hid (w1.heap[w.heap.size]? = some (.cells #[Value.bool b, Value.slice ua un uc, Value.slice da dn dc] 26 (0, 0))) := Lib.hid (by rw [hw1]; exact heap_alloc_new w _)
  have HW1 := Lib.hid hw1.symm
  have HL := Lib.hid (hl.below HB1.out)
  have HT := Lib.hid (HV.out.below HB1.out)
  have HSZ : Hid (∀ i, i ≤ qs.length → lenQ (sumR (nthQ qs) 0 i) ≤ 42) := Lib.hid (fun i hi => by
    have h := sz_len (sz_sum (g := nthQ qs) (lo := 0) (n := i) (m := 1) fun j h1 h2 => sz_nth hl (i := j) (by omega)) (by omega)
    omega)
  have KC := Lib.hid (fun w' (hb : Below w1.heap.size w1 w') => contains_d (HL.out.below hb) (by omega) hq)
  have KS := Lib.hid (fun w' (hb : Below w1.heap.size w1 w') => sum_w (HL.out.below hb) (by omega) hn)
  rw [hs] at KS
  have KI := Lib.hid (fun w' y (hy : FracV w' y 1) => isOne_d (t := true) (hy.inF (by rw [len_one]; omega)) (by rw [cmpQ_self]; rfl))
  have KB := Lib.hid (fun w' (hb : Below w1.heap.size w1 w') => below_d (HT.out.inF.below hb) ht0)
  have KO := Lib.hid (fun w' => one_d (w := w'))
  have KP := Lib.hid (fun w' y (hb : Below w1.heap.size w1 w') (hy : FracV w' y 1) => cmp_f (w := w') (HT.out.inF.below hb) (hy.inF (by rw [len_one]; omega)))
  have KZ := Lib.hid (fun w' => zero_d (w := w'))
  have KA := Lib.hid (fun w' i q y z (hi : i < qs.length) (hy : FracV w' y (sumR (nthQ qs) 0 i)) (hz : FewF 1 w' z q) (e : nthQ qs i = q) => add_f (w := w') (hy.inF (by have := HSZ.out i (by omega); omega)) hz.inF (by have := HSZ.out i (by omega); have := hz.len; omega))
  have KT := Lib.hid (fun w' i y (hi : i < qs.length) (hb : Below w1.heap.size w1 w') (hy : FracV w' y (sumR (nthQ qs) 0 (i + 1))) => cmp_f (w := w') (hy.inF (by have := HSZ.out (i + 1) (by omega); omega)) (HT.out.inF.below hb))
  clear hw1 hl hs ht0
  have RX := Lib.hid (cells_later HX.out)
  have HQ := Lib.hid hq
  have HN := Lib.hid hnn
  have hL20 : L ≤ 20 := by omega
  have hLc : L + 1 ≤ c := by omega
  have hk1 : (((L + 1 : Nat) : Int) - 1) = (L : Int) := by omega
  rw [← hnn] at KC KS ⊢
  obtain ⟨s1, hs1⟩ : ∃ s1, s1 = cmpQ T 1 := ⟨_, rfl⟩
  rw [← hs1] at KP ht1
  have HS1 := Lib.hid ht1
  obtain ⟨u1, hu1⟩ : ∃ u1, u1 = (1 : Rat) := ⟨_, rfl⟩
  rw [← hu1] at KS KI KO KP
  obtain ⟨u0, hu0⟩ : ∃ u0, u0 = (0 : Rat) := ⟨_, rfl⟩
  rw [← hu0] at KZ
  have HU0 := Lib.hid hu0
  clear hq hnn hn0 hn hac hs1 ht1 hu1 hu0
  have hz1 := Below.refl w1.heap.size w1
  go_enter Try.func5, Try.ntmps5
  go_wp2_with fail
  rw [HW1.out]
  refine (KC.out _ hz1).mono ?_
  rintro en2 w2 ⟨rfl, hb2⟩
  go_wp2_with fail
  refine (KS.out _ hb2).mono ?_
  rintro en3 w3 ⟨⟨v3, rfl, f3⟩, hb3⟩
  obtain ⟨a3, n3, c3, i3, j3, k3, hq3⟩ := frac_form f3
  subst hq3
  have hz3 := below_trans hb2 hb3
  go_wp2_with fail
  refine (KI.out _ _ f3).mono ?_
  rintro en4 w4 ⟨rfl, hb4⟩
  have hz4 := below_trans hz3 hb4
  have HZ4 := Lib.hid hz4
  have x0 := RX.out 0 _ rfl _ hz4
  have x1 := RX.out 1 _ rfl _ hz4
  have x2 := RX.out 2 _ rfl _ hz4
  clear f3 hb2 hb3 hb4 hz3
  go_wp2_with fail
  have hzd : Below w1.heap.size w1 w4.drew := below_drewN hz4 1
  have ts1 : decide (0 ≤ s1) = false := by simp; exact HS1.out
  go_region_held3 (fun w' => w'.cell? ⟨w.heap.size, 0, none⟩ = some (.bool b) ∧ w'.cell? ⟨w.heap.size, 1, none⟩ = some (.slice ua un uc) ∧ w'.cell? ⟨w.heap.size, 2, none⟩ = some (.slice da dn dc))
    (((try dsimp only); refine ⟨?_, ?_, ?_⟩ <;> (first | exact RX.out 0 _ rfl _ (by assumption) | exact RX.out 1 _ rfl _ (by assumption) | exact RX.out 2 _ rfl _ (by assumption))))
    (first | (go_at_call 9; refine (KB.out _ hzd).mono ?_; rintro en5 w5 ⟨rfl, hb5⟩; have hz5 := below_trans hzd hb5) | (go_at_call 15; refine (KO.out _).mono ?_; rintro en6 w6 ⟨⟨v6, rfl, f6⟩, hb6⟩; obtain ⟨a6, n6, c6, i6, j6, k6, hq6⟩ := frac_form f6; subst hq6; have hz6 := below_trans hz5 hb6) | (go_at_call 14; refine (KP.out _ _ hz6 f6).mono ?_; rintro en7 w7 ⟨rfl, hb7⟩; have hz7 := below_trans hz6 hb7))
  all_goals
    have HZ7 := Lib.hid hz7
    clear hzd hz4 hz5 hz6 hb5 hb6 hb7 f6 ts1
    go_wp2_with fail
    refine (KZ.out _).mono ?_
    rintro en8 w8 ⟨⟨v8, rfl, f8⟩, hb8⟩
    obtain ⟨a8, n8, c8, i8, j8, k8, hq8⟩ := frac_form f8
    subst hq8
    have HZ8 := Lib.hid (below_trans HZ7.out hb8)
    have HF8 := Lib.hid f8
    clear f8 hb8
    go_wp2_with ((with_reducible refine at_store ?_); refine wpList_store_var rfl _ _ _ rfl w8.heap.size rfl _ rfl _ _ (heap_alloc_new _ _) ifrac rfl frac_one ?_; intro w9 h9 hon9; refine halt ?_)
    have hb9 : Below w8.heap.size w8 w9 := below_only ((Below.refl _ _).alloc (Nat.le_refl _) _) hon9 (Nat.le_refl _)
    obtain ⟨Ba, hBa⟩ : ∃ B, B = w8.heap.size := ⟨_, rfl⟩
    have hBw : w1.heap.size ≤ Ba := by have h7 := HZ8.out.size; omega
    have HROW9 : Hid (w9.heap[Ba]? = some (.cells #[Value.bool (decide (u0.num < 0)), Value.slice a8 n8 c8, Value.slice i8 j8 k8] 26 (0, 0))) := Lib.hid (by rw [hBa]; exact h9)
    have HF9 : Hid (FracV w9 (.agg #[Value.bool (decide (u0.num < 0)), Value.slice a8 n8 c8, Value.slice i8 j8 k8]) (sumR (nthQ qs) 0 0)) := Lib.hid (by
      have h7 := HF8.out.below hb9
      rw [HU0.out] at h7 ⊢
      exact h7)
    have HZ9 := Lib.hid (below_trans HZ8.out hb9)
    rw [← hBa]
    clear h9 hon9 hb9 hBa
    refine go_on ?_
    go_wp2_with fail
    go_loopw [39] (fun iv wr => ∃ (i : Nat) (ra : Bool) (ab : Option Addr) (an ac : Nat) (ai : Option Addr) (aj ak : Nat), i ≤ L ∧ iv = .int .i64 i ∧ Hid (wr.heap[Ba]? = some (.cells #[Value.bool ra, Value.slice ab an ac, Value.slice ai aj ak] 26 (0, 0))) ∧ Hid (FracV wr (.agg #[Value.bool ra, Value.slice ab an ac, Value.slice ai aj ak]) (sumR (nthQ qs) 0 i)) ∧ Hid (∀ j, j < i → cmpQ (sumR (nthQ qs) 0 (j + 1)) T ≤ 0) ∧ Hid (Below w1.heap.size w1 wr)) (fun iv _ => L - (intOf iv).toNat)
    case atStart => exact ⟨0, _, _, _, _, _, _, _, Nat.zero_le _, rfl, HROW9, HF9, Lib.hid (fun j h => absurd h (Nat.not_lt_zero j)), HZ9⟩
    case round =>
      obtain ⟨i, ra, ab, an, ac, ai, aj, ak, hi, rfl, hrow, hfa, hno, hZ⟩ := hrel
      obtain ⟨wo, rfl⟩ : ∃ wo : World, wo = wr := ⟨_, rfl⟩
      by_cases hin : i < L
      · have t0 : decide ((i : Int) < (L : Int)) = true := by simp; omega
        have hin2 : Hid (i < qs.length) := Lib.hid (by have := HN.out; omega)
        obtain ⟨q, B, off, b1, p1, m1, d1, p2, m2, d2, hq, ha, hc, hf⟩ := HL.out.at hin2.out
        subst ha
        obtain ⟨x0, x1, x2⟩ := hc wo hZ.out
        have HQI := Lib.hid (nthQ_of hq)
        have HF := Lib.hid (hf.below hZ.out)
        clear hc hq hf
        go_wp2_with ((with_reducible refine at_store ?_); refine wpList_store_var rfl _ _ _ rfl wo.heap.size rfl _ rfl _ _ (heap_alloc_new _ _) ifrac rfl frac_one ?_; intro w10 h10 hon10; refine halt ?_)
        have hb10 : Below wo.heap.size wo w10 := below_only ((Below.refl _ _).alloc (Nat.le_refl _) _) hon10 (Nat.le_refl _)
        have HB10 := Lib.hid hb10
        have y0 := cells_later h10 0 _ rfl _ (Below.refl _ _)
        have y1 := cells_later h10 1 _ rfl _ (Below.refl _ _)
        have y2 := cells_later h10 2 _ rfl _ (Below.refl _ _)
        have s0 := cells_later hrow.out 0 _ rfl _ hb10
        have s1 := cells_later hrow.out 1 _ rfl _ hb10
        have s2 := cells_later hrow.out 2 _ rfl _ hb10
        have K := Lib.hid (KA.out w10 i q _ _ hin2.out (hfa.out.below hb10) (HF.out.below hb10) HQI.out)
        obtain ⟨Q, hQ⟩ : ∃ Q, Q = sumR (nthQ qs) 0 i + q := ⟨_, rfl⟩
        have HSN : Hid (sumR (nthQ qs) 0 (i + 1) = Q) := Lib.hid (by rw [hQ, ← sumR_next, HQI.out])
        rw [← hQ] at K
        clear h10 hon10 hb10 x0 x1 x2 hQ
        refine go_on ?_
        go_wp2_with fail
        refine K.out.mono ?_
        rintro en11 w11 ⟨⟨v11, rfl, f11, -⟩, hb11⟩
        obtain ⟨a11, n11, c11, i11, j11, k11, hq11⟩ := frac_form f11
        subst hq11
        have hz11 := below_trans HB10.out hb11
        have HR11 : Hid (w11.heap[Ba]? = some (.cells #[Value.bool ra, Value.slice ab an ac, Value.slice ai aj ak] 26 (0, 0))) := Lib.hid ((hz11.block _ (lt_of_block hrow.out)).trans hrow.out)
        have HF11 := Lib.hid f11
        have HZ11 := Lib.hid (below_trans hZ.out hz11)
        clear f11 hb11 hz11 y0 y1 y2 s0 s1 s2
        go_wp2_with ((with_reducible refine at_store ?_); refine wpList_store_var rfl _ _ _ rfl Ba rfl _ rfl _ _ HR11.out ifrac rfl frac_one ?_; intro w12 h12 hon12; refine halt ?_)
        have HZ12 := Lib.hid (below_only HZ11.out hon12 hBw)
        have HROW12 := Lib.hid h12
        have HF12 : Hid (FracV w12 (.agg #[Value.bool (decide (Q.num < 0)), Value.slice a11 n11 c11, Value.slice i11 j11 k11]) (sumR (nthQ qs) 0 (i + 1))) := Lib.hid (by rw [HSN.out]; exact HF11.out.other HR11.out hon12)
        have s0 := cells_later h12 0 _ rfl _ (Below.refl _ _)
        have s1 := cells_later h12 1 _ rfl _ (Below.refl _ _)
        have s2 := cells_later h12 2 _ rfl _ (Below.refl _ _)
        have x0 := RX.out 0 _ rfl _ HZ12.out
        have x1 := RX.out 1 _ rfl _ HZ12.out
        have x2 := RX.out 2 _ rfl _ HZ12.out
        have K2 := Lib.hid (KT.out w12 i _ hin2.out HZ12.out HF12.out)
        obtain ⟨sg, hsg⟩ : ∃ sg, sg = cmpQ (sumR (nthQ qs) 0 (i + 1)) T := ⟨_, rfl⟩
        rw [← hsg] at K2
        have HSG := Lib.hid hsg
        clear h12 hon12 hsg
        refine go_on ?_
        go_wp2_with fail
        refine K2.out.mono ?_
        rintro en13 w13 ⟨rfl, hb13⟩
        have HZ13 := Lib.hid (below_trans HZ12.out hb13)
        have HROW13 : Hid (w13.heap[Ba]? = some (.cells #[Value.bool (decide (Q.num < 0)), Value.slice a11 n11 c11, Value.slice i11 j11 k11] 26 (0, 0))) := Lib.hid ((hb13.block _ (lt_of_block HROW12.out)).trans HROW12.out)
        have HF13 := Lib.hid (HF12.out.below hb13)
        clear hb13 x0 x1 x2 s0 s1 s2
        by_cases hs : 0 < sg
        · have t1 : decide (0 < sg) = true := by simpa using hs
          have HD : Hid (DrawnAt qs T i) := Lib.hid ⟨hin2.out, hno.out, fun _ => by rw [← HSG.out]; exact hs⟩
          clear hs
          go_wp2_with fail
          go_ret2
          exact ⟨⟨i, rfl, HD.out⟩, below_trans HB1.out HZ13.out⟩
        · have t1 : decide (0 < sg) = false := by simpa using hs
          have HNO : Hid (∀ j, j < i + 1 → cmpQ (sumR (nthQ qs) 0 (j + 1)) T ≤ 0) := Lib.hid (fun j hj => by
            by_cases e : j = i
            · subst e; rw [← HSG.out]; omega
            · exact hno.out j (by omega))
          clear hs
          go_wp2_with fail
          go_roundw
          case rel => exact ⟨i + 1, _, _, _, _, _, _, _, by omega, by go_num, HROW13, HF13, HNO, HZ13⟩
          case measure => simp [intOf]; omega
      · have t0 : decide ((i : Int) < (L : Int)) = false := by simp; omega
        have HD : Hid (DrawnAt qs T L) := Lib.hid ⟨by have := HN.out; omega, fun j hj => hno.out j (by omega), fun h => absurd h (by have := HN.out; omega)⟩
        go_wp2_with fail
        go_ret2
        exact ⟨⟨L, rfl, HD.out⟩, below_trans HB1.out hZ.out⟩
end Go.Proofs.Ytimbojhmjadgkaa
