/- Several texts in one: K6, K7. -/
import Derived.Test.YtlaphdlocchagaaGreatZ34
import Derived.Deep.RegionHeld3
import Derived.Deep.DrawnRows
/- Rays: leads of plane, Goes of the reference. -/
namespace Go.Proofs.YtlaphdlocchagaaGreat
open Go.RowKit
attribute [local go_sem ↓] Go.wp_at_zero Go.wp_at_succ

def row0B (xs : List Rat) (r : List Rat × Int × Rat) : Bool := holdsB r.2.1 (cmpQ (dotQ r.1 xs) 0)
/-- Does a ray lead along the rows to ever greater values? -/
def leadsQ (P : Pm) (xs : List Rat) : Bool := decide ((xs.length : Int) = P.vars) && sgnB P.free xs && P.rows.all (row0B xs) && decide (0 < cmpQ (valueQ P xs) 0)
theorem leads_no {P : Pm} {xs : List Rat} (h : ¬ (xs.length : Int) = P.vars ∨ sgnB P.free xs = false ∨ ¬ 0 < cmpQ (valueQ P xs) 0) : leadsQ P xs = false := by
  unfold leadsQ
  rcases h with h | h | h <;> simp [h]
theorem leads_row {P : Pm} {xs : List Rat} {i : Nat} {r : List Rat × Int × Rat} (hr : P.rows[i]? = some r) (h : row0B xs r = false) : leadsQ P xs = false := by
  unfold leadsQ
  have e : P.rows.all (row0B xs) = false := by
    rw [Bool.eq_false_iff]
    intro ha
    rw [List.all_eq_true] at ha
    rw [ha r (List.mem_of_getElem? hr)] at h
    cases h
  simp [e]
theorem leads_yes {P : Pm} {xs : List Rat} (h2 : (xs.length : Int) = P.vars) (h3 : sgnB P.free xs = true) (h4 : ∀ i r, i < P.rows.length → P.rows[i]? = some r → row0B xs r = true) (h5 : 0 < cmpQ (valueQ P xs) 0) : leadsQ P xs = true := by
  unfold leadsQ
  have e : P.rows.all (row0B xs) = true := by
    rw [List.all_eq_true]
    intro r hr
    obtain ⟨i, hi, rfl⟩ := List.mem_iff_getElem.1 hr
    exact h4 i _ hi (List.getElem?_eq_getElem hi)
  simp [h2, h3, e, h5]
theorem value_of {P : Pm} {xs : List Rat} (h1 : rightB2 P = true) (h2 : (xs.length : Int) = P.vars) : valueQ P xs = dotQ P.goal xs := by
  unfold valueQ; rw [if_pos ⟨h1, h2⟩]
theorem rsign_s {n : Nat} {w : World} {x : Value} {P : Rat} (hx : SzF n w x P) (hn : n ≤ 4096) : Calls Tryz.prog 39 #[x] w fun e w' => e = .returned (.int .i64 (cmpQ P 0)) ∧ Below w.heap.size w w' := by
  obtain ⟨b, l, m, h1, rfl, hl1⟩ := hx
  exact rsign_w h1 (by omega)
theorem len_value {N : Nat} {w : World} {v x : Value} {P : Pm} {xs : List Rat} (h : ProgF N w v P) (hx : ListF N w x xs) (hn : xs.length ≤ 100) (hN : N * xs.length ≤ 1000) : lenQ (valueQ P xs) ≤ 4002 := by
  unfold valueQ
  split
  · rename_i hc
    obtain ⟨fa, fc, ga, gc, ra, rc, rfl, -, -, -, hG, -⟩ := h
    exact len_dotG hG hx (by have := (right_goal hc.1).1; omega) hn hN
  · rw [len_zero]; omega

set_option maxRecDepth 100000 in
set_option maxHeartbeats 8000000 in
theorem pleads_w {N : Nat} {w : World} {v x : Value} {P : Pm} {xs : List Rat} (h : ProgF N w v P) (hx : ListF N w x xs) (hfit : Fit P) (hrb : rightB2 P = true) (hv100 : P.vars ≤ 100) (hGn : N * P.goal.length ≤ 1000) (hN : N ≤ 50) (hx100 : xs.length ≤ 100) (hNn : N * xs.length ≤ 1000) :
    Calls Tryz.prog 30 #[v, x] w fun e w' => e = .returned (.bool (leadsQ P xs)) ∧ Below w.heap.size w w' := by
  have HP0 := Lib.hid h
  have HX0 := Lib.hid hx
  have HP := Lib.hid h
  have HX := Lib.hid hx
  obtain ⟨fa, fc, ga, gc, ra, rc, rfl, hz1, hz2, hB, -, hR⟩ := h
  have HBO := Lib.hid hB
  obtain ⟨xa, xc, rfl, -⟩ := hx
  have HR := Lib.hid hR
  have HFIT := Lib.hid hfit
  have HNN := Lib.hid hNn
  obtain ⟨z, hz⟩ : ∃ z, z = P.vars := ⟨_, rfl⟩
  obtain ⟨fn, hfn⟩ : ∃ n, n = P.free.length := ⟨_, rfl⟩
  obtain ⟨gn, hgn⟩ : ∃ n, n = P.goal.length := ⟨_, rfl⟩
  obtain ⟨rn, hrn⟩ : ∃ n, n = P.rows.length := ⟨_, rfl⟩
  obtain ⟨xn, hxn⟩ : ∃ n, n = xs.length := ⟨_, rfl⟩
  have h400 : rn ≤ 400 := by rw [hrn]; exact hfit.2.1
  rw [← hz] at hz1 hz2 HP ⊢
  rw [← hfn] at HP ⊢
  rw [← hgn] at HP ⊢
  rw [← hrn] at HP ⊢
  rw [← hxn] at HX hx100 HNN ⊢
  have HEQ := Lib.hid (And.intro hz (And.intro hfn (And.intro hrn hxn)))
  have HGN := Lib.hid hgn
  obtain ⟨w1, hw1⟩ : ∃ w1, w1 = w.alloc (Obj.cells #[Value.int .i64 z, Value.slice fa fn fc, Value.slice ga gn gc, Value.slice ra rn rc] 26) := ⟨_, rfl⟩
  have HB1 : Hid (Below w.heap.size w w1) := Lib.hid (by rw [hw1]; exact (Below.refl _ _).alloc (Nat.le_refl _) _)
  have HX1 : Hid (w1.heap[w.heap.size]? = some (.cells #[Value.int .i64 z, Value.slice fa fn fc, Value.slice ga gn gc, Value.slice ra rn rc] 26 (0, 0))) := Lib.hid (by rw [hw1]; exact heap_alloc_new w _)
  have HW1 := Lib.hid hw1.symm
  clear hw1 hB hR hfit hNn hz hfn hgn hrn hxn
  have RX := Lib.hid (cells_later HX1.out)
  have hb1 := Below.refl w1.heap.size w1
  have x0 := RX.out 0 _ rfl _ hb1
  have x1 := RX.out 1 _ rfl _ hb1
  have x2 := RX.out 2 _ rfl _ hb1
  have x3 := RX.out 3 _ rfl _ hb1
  have HRB := Lib.hid hrb
  have HSZS : Hid (Sizes N P xs) := Lib.hid ⟨HFIT.out, hv100, hN, hGn, by have := HEQ.out; omega⟩
  have HVL : Hid (lenQ (valueQ P xs) ≤ 4002) := Lib.hid (len_value HP0.out HX0.out (by have := HEQ.out; omega) (by have h8 := HNN.out; rw [HEQ.out.2.2.2] at h8; exact h8))
  clear hrb hv100 hGn
  by_cases hl : (xn : Int) = z
  case neg =>
    have t0 : ((xn : Int) != z) = true := by simpa using hl
    have HE : Hid (leadsQ P xs = false) := Lib.hid (leads_no (Or.inl (fun h => hl (by rw [HEQ.out.1, HEQ.out.2.2.2]; exact h))))
    clear hl
    go_enter Tryz.func30, Tryz.ntmps30
    go_wp2_with fail
    rw [HW1.out]
    go_ret
    exact ⟨by rw [HE.out]; first | done | rfl, HB1.out⟩
  have t0 : ((xn : Int) != z) = false := by simpa using hl
  have HXZ := Lib.hid hl
  have HLX : Hid ((xs.length : Int) = P.vars) := Lib.hid (by rw [← HEQ.out.1, ← HEQ.out.2.2.2]; exact hl)
  have HFX : Hid (P.free.length = xn) := Lib.hid (by have h8 := (right_goal HRB.out).2.1; have h7 := HLX.out; have := HEQ.out; omega)
  clear hl
  go_enter Tryz.func30, Tryz.ntmps30
  go_wp2_with fail
  rw [HW1.out]
  have HZ2 := Lib.hid hb1
  have KS := Lib.hid (signedAs_w (HP.out.below HB1.out) (HX.out.below HB1.out |> fun h => (by have := HEQ.out.2.2.2; subst this; exact h : ListF N w1 (.slice xa xn xc) xs)) (right_goal HRB.out).2.1 HLX.out (by have := HEQ.out; omega))
  refine KS.out.mono ?_
  rintro en3 w3 ⟨he3, hb3⟩
  have HZ3 := Lib.hid (below_trans HZ2.out hb3)
  clear hb3 x0 x1 x2 x3
  have x0 := RX.out 0 _ rfl _ HZ3.out
  have x1 := RX.out 1 _ rfl _ HZ3.out
  have x2 := RX.out 2 _ rfl _ HZ3.out
  have x3 := RX.out 3 _ rfl _ HZ3.out
  cases hs : sgnB P.free xs with
  | false =>
    rw [hs] at he3
    subst he3
    have HE : Hid (leadsQ P xs = false) := Lib.hid (leads_no (Or.inr (Or.inl hs)))
    clear hs
    go_wp2_with fail
    go_ret
    exact ⟨by rw [HE.out]; first | done | rfl, below_trans HB1.out HZ3.out⟩
  | true =>
  rw [hs] at he3
  subst he3
  have HSG := Lib.hid hs
  clear hs
  go_wp2_with fail
  go_loopw [21] (fun iv wr => ∃ i : Nat, i ≤ rn ∧ iv = .int .i64 i ∧ Hid (∀ x r, x < i → P.rows[x]? = some r → row0B xs r = true) ∧ Hid (Below w1.heap.size w1 wr)) (fun iv _ => rn - (intOf iv).toNat)
  case atStart => exact ⟨0, Nat.zero_le _, rfl, Lib.hid (fun x r h => absurd h (Nat.not_lt_zero x)), HZ3⟩
  case round =>
    obtain ⟨i, hi, rfl, hd, hZ⟩ := hrel
    obtain ⟨wo, rfl⟩ : ∃ wo : World, wo = wr := ⟨_, rfl⟩
    by_cases hin : i < rn
    · have t6 : decide ((i : Int) < (rn : Int)) = true := by simp; omega
      obtain ⟨r, B, off, a1, c1, b, a2, n2, c2, a3, n3, c3, hr, ha, hlr, hfr, hz3, hz4, hc⟩ := HR.out.at (i := i) (by have := HEQ.out; omega)
      subst ha
      obtain ⟨f0, f1, f2, f3, f4⟩ := hc wo (below_trans HB1.out hZ.out)
      have HRI := Lib.hid hr
      have hrl := row_len HRB.out hr
      have hn1 : r.1.length = xn := by have := HXZ.out; have := HEQ.out; omega
      rw [hn1] at f0 hlr
      have HRL := Lib.hid hn1
      have HLR := Lib.hid hlr
      have HFR := Lib.hid hfr
      obtain ⟨sn, hsn⟩ : ∃ n, n = r.2.1 := ⟨_, rfl⟩
      rw [← hsn] at f1 hz3 hz4
      obtain ⟨q, hq⟩ : ∃ n, n = r.2.2 := ⟨_, rfl⟩
      rw [← hq] at HFR
      obtain ⟨D, hD⟩ : ∃ D, D = dotQ r.1 xs := ⟨_, rfl⟩
      have HLD : Hid (lenQ D ≤ 4002) := Lib.hid (by rw [hD]; exact len_dotG hlr HX.out (by have := HEQ.out; omega) (by have := HEQ.out; omega) (by have h8 := HNN.out; have h7 := HEQ.out.2.2.2; rw [← h7]; exact h8))
      have HROW : Hid (row0B xs r = holdsB sn (cmpQ D 0)) := Lib.hid (by unfold row0B; rw [hsn, hD])
      have HD0 := Lib.hid hD
      have hc9 := cmpQ_small D 0
      obtain ⟨o, ho⟩ : ∃ o, o = cmpQ D 0 := ⟨_, rfl⟩
      rw [← ho] at HROW hc9
      obtain ⟨ho1, ho2⟩ := hc9
      have HO := Lib.hid ho
      clear hc hr hn1 hsn hq hD hlr hfr hrl ho
      go_wp2_with ((with_reducible refine at_store ?_); refine wpList_store_var rfl _ _ _ rfl wo.heap.size rfl _ rfl _ _ (heap_alloc_new _ _) irow rfl row_one ?_; intro w4 h4 hon4; refine halt ?_)
      have hb4 : Below wo.heap.size wo w4 := below_only ((Below.refl _ _).alloc (Nat.le_refl _) _) hon4 (Nat.le_refl _)
      have HB4 := Lib.hid (below_trans hZ.out hb4)
      have HW4 := Lib.hid (below_trans HB1.out HB4.out)
      have RY := Lib.hid (cells_later h4)
      have hb5 := Below.refl w4.heap.size w4
      have y0 := RY.out 0 _ rfl _ hb5
      have y1 := RY.out 1 _ rfl _ hb5
      have y2 := RY.out 2 _ rfl _ hb5
      have y3 := RY.out 3 _ rfl _ hb5
      have y4 := RY.out 4 _ rfl _ hb5
      clear h4 hon4 hb4 f0 f1 f2 f3 f4
      refine go_on ?_
      have KPR := Lib.hid (fun w' g (hb : Below w4.heap.size w4 w') (hg : w'.cell? ⟨g, 0, none⟩ = some (.slice a1 xn c1)) => product_w (w := w') hg (HLR.out.below (below_trans HW4.out hb)) (HX.out.below (below_trans HW4.out hb)) (Nat.le_refl _) hN hx100 HNN.out)
      have HDS : Hid (sumR (fun i => nthQ r.1 i * nthQ xs i) 0 xn = D) := Lib.hid (by rw [HD0.out]; unfold dotQ; rw [← HEQ.out.2.2.2])
      rw [HDS.out] at KPR
      have KC := Lib.hid (fun w' y (hb : Below w4.heap.size w4 w') (hy : FracV w' y D) => sign_f (w := w') (hy.inF (by have := HLD.out; omega)))
      rw [← HO.out] at KC
      have KH0 : Hid (∀ t, holdsB sn o = t → ∀ w', Calls Tryz.prog 67 #[.int .i64 sn, .int .i64 o] w' fun e w'' => e = .returned (.bool t) ∧ Below w'.heap.size w' w'') := Lib.hid (fun t ht w' => holds_w ht)
      go_wp2_with fail
      have hz0 : Below w4.heap.size w4 w4.drew := below_drewN hb5 1
      cases ht : holdsB sn o with
      | false =>
        have HE : Hid (leadsQ P xs = false) := Lib.hid (leads_row HRI.out (by rw [HROW.out]; exact ht))
        have KH := Lib.hid (KH0.out false ht)
        clear ht
        go_region_held3 (fun w' => w'.cell? ⟨wo.heap.size, 0, none⟩ = some (.slice a1 xn c1) ∧ w'.cell? ⟨wo.heap.size, 1, none⟩ = some (.int .i64 sn) ∧ w'.cell? ⟨wo.heap.size, 2, none⟩ = some (.bool b) ∧ w'.cell? ⟨wo.heap.size, 3, none⟩ = some (.slice a2 n2 c2) ∧ w'.cell? ⟨wo.heap.size, 4, none⟩ = some (.slice a3 n3 c3))
          (((try dsimp only); refine ⟨?_, ?_, ?_, ?_, ?_⟩ <;> (first | exact RY.out 0 _ rfl _ (by assumption) | exact RY.out 1 _ rfl _ (by assumption) | exact RY.out 2 _ rfl _ (by assumption) | exact RY.out 3 _ rfl _ (by assumption) | exact RY.out 4 _ rfl _ (by assumption))))
          (first | (go_at_call 44; refine (entries_w).mono ?_; rintro en5 w5 ⟨⟨g5, rfl, hg5⟩, hb5'⟩; have hz5 := below_trans hz0 hb5') | (go_at_call 25; refine (KPR.out _ _ hz5 hg5).mono ?_; rintro en6 w6 ⟨⟨v6, rfl, f6⟩, hb6⟩; obtain ⟨a6, n6, c6, i6, j6, k6, hq6⟩ := frac_form f6; subst hq6; have hz6 := below_trans hz5 hb6) | (go_at_call 29; refine (KC.out _ _ hz6 f6).mono ?_; rintro en7 w7 ⟨rfl, hb7⟩; have hz7 := below_trans hz6 hb7) | (go_at_call 67; refine (KH.out _).mono ?_; rintro en8 w8 ⟨rfl, hb8⟩; have hz9 := below_trans hz7 hb8))
        all_goals
          have HZ9 := Lib.hid (below_trans HB4.out hz9)
          go_wp2_with fail
          go_ret
          exact ⟨by rw [HE.out]; first | done | rfl, below_trans HB1.out HZ9.out⟩
      | true =>
        have HD : Hid (∀ x r', x < i + 1 → P.rows[x]? = some r' → row0B xs r' = true) := Lib.hid (fun x r' hx hr => by
          by_cases e : x = i
          · subst e
            rw [HRI.out] at hr
            cases hr
            rw [HROW.out]; exact ht
          · exact hd.out x r' (by omega) hr)
        have KH := Lib.hid (KH0.out true ht)
        clear ht
        go_region_held3 (fun w' => w'.cell? ⟨wo.heap.size, 0, none⟩ = some (.slice a1 xn c1) ∧ w'.cell? ⟨wo.heap.size, 1, none⟩ = some (.int .i64 sn) ∧ w'.cell? ⟨wo.heap.size, 2, none⟩ = some (.bool b) ∧ w'.cell? ⟨wo.heap.size, 3, none⟩ = some (.slice a2 n2 c2) ∧ w'.cell? ⟨wo.heap.size, 4, none⟩ = some (.slice a3 n3 c3))
          (((try dsimp only); refine ⟨?_, ?_, ?_, ?_, ?_⟩ <;> (first | exact RY.out 0 _ rfl _ (by assumption) | exact RY.out 1 _ rfl _ (by assumption) | exact RY.out 2 _ rfl _ (by assumption) | exact RY.out 3 _ rfl _ (by assumption) | exact RY.out 4 _ rfl _ (by assumption))))
          (first | (go_at_call 44; refine (entries_w).mono ?_; rintro en5 w5 ⟨⟨g5, rfl, hg5⟩, hb5'⟩; have hz5 := below_trans hz0 hb5') | (go_at_call 25; refine (KPR.out _ _ hz5 hg5).mono ?_; rintro en6 w6 ⟨⟨v6, rfl, f6⟩, hb6⟩; obtain ⟨a6, n6, c6, i6, j6, k6, hq6⟩ := frac_form f6; subst hq6; have hz6 := below_trans hz5 hb6) | (go_at_call 29; refine (KC.out _ _ hz6 f6).mono ?_; rintro en7 w7 ⟨rfl, hb7⟩; have hz7 := below_trans hz6 hb7) | (go_at_call 67; refine (KH.out _).mono ?_; rintro en8 w8 ⟨rfl, hb8⟩; have hz9 := below_trans hz7 hb8))
        all_goals
          have HZ9 := Lib.hid (below_trans HB4.out hz9)
          clear hz9
          go_wp2_with fail
          go_roundw
        all_goals first
          | exact ⟨i + 1, by omega, by go_num, HD, HZ9⟩
          | (simp [intOf]; omega)
    · have t6 : decide ((i : Int) < (rn : Int)) = false := by simp; omega
      have HRW : Hid (∀ i r, i < P.rows.length → P.rows[i]? = some r → row0B xs r = true) := Lib.hid (fun x r hx hr => hd.out x r (by have := HEQ.out; omega) hr)
      have x0 := RX.out 0 _ rfl _ hZ.out
      have x1 := RX.out 1 _ rfl _ hZ.out
      have x2 := RX.out 2 _ rfl _ hZ.out
      have x3 := RX.out 3 _ rfl _ hZ.out
      have KV := Lib.hid (pvalue_w (HP0.out.below (below_trans HB1.out hZ.out)) (HX0.out.below (below_trans HB1.out hZ.out)) HSZS.out)
      rw [← HEQ.out.1, ← HEQ.out.2.1, ← HEQ.out.2.2.1, ← HEQ.out.2.2.2, ← HGN.out] at KV
      obtain ⟨V, hV⟩ : ∃ V, V = valueQ P xs := ⟨_, rfl⟩
      have HVV := Lib.hid hV
      rw [← hV] at KV
      clear hV
      go_wp2_with fail
      refine KV.out.mono ?_
      rintro en5 w5 ⟨⟨v5, rfl, f5⟩, hb5⟩
      obtain ⟨a5, n5, c5, i5, j5, k5, hq5⟩ := frac_form f5
      subst hq5
      have K9 := Lib.hid (sign_f (f5.inF (by have h8 := HVL.out; rw [← HVV.out] at h8; omega)))
      have HZ5 := Lib.hid (below_trans hZ.out hb5)
      obtain ⟨o, ho⟩ : ∃ o, o = cmpQ V 0 := ⟨_, rfl⟩
      have HO := Lib.hid ho
      rw [← ho] at K9
      clear f5 hb5 ho x0 x1 x2 x3
      go_wp2_with fail
      refine K9.out.mono ?_
      rintro en6 w6 ⟨rfl, hb6⟩
      have HZ6 := Lib.hid (below_trans HZ5.out hb6)
      clear hb6
      by_cases h0 : 0 < o
      · have u : decide (0 < o) = true := by simpa using h0
        have HE : Hid (leadsQ P xs = true) := Lib.hid (leads_yes HLX.out HSG.out HRW.out (by rw [← HVV.out, ← HO.out]; exact h0))
        clear h0
        go_wp2_with fail
        go_ret
        exact ⟨by rw [HE.out]; first | done | rfl, below_trans HB1.out HZ6.out⟩
      · have u : decide (0 < o) = false := by simpa using h0
        have HE : Hid (leadsQ P xs = false) := Lib.hid (leads_no (Or.inr (Or.inr (by rw [← HVV.out, ← HO.out]; exact h0))))
        clear h0
        go_wp2_with fail
        go_ret
        exact ⟨by rw [HE.out]; first | done | rfl, below_trans HB1.out HZ6.out⟩

set_option maxRecDepth 100000 in
set_option maxHeartbeats 8000000 in
theorem rgoes_w {N : Nat} {w : World} {v x : Value} {P : Pm} {xs : List Rat} (h : ProgF N w v P) (hx : ListF N w x xs) (hfit : Fit P) (hrb : rightB2 P = true) (hv100 : P.vars ≤ 100) (hGn : N * P.goal.length ≤ 1000) (hN : N ≤ 50) (hx100 : xs.length ≤ 100) (hNn : N * xs.length ≤ 1000) :
    Calls Tryz.prog 40 #[v, x] w fun e w' => e = .returned (.bool (leadsQ P xs)) ∧ Below w.heap.size w w' := by
  have HP0 := Lib.hid h
  have HX0 := Lib.hid hx
  have HP := Lib.hid h
  have HX := Lib.hid hx
  obtain ⟨fa, fc, ga, gc, ra, rc, rfl, hz1, hz2, hB, hGL, hR⟩ := h
  have HGL := Lib.hid hGL
  have HBO := Lib.hid hB
  obtain ⟨xa, xc, rfl, -⟩ := hx
  have HR := Lib.hid hR
  have HFIT := Lib.hid hfit
  have HNN := Lib.hid hNn
  obtain ⟨z, hz⟩ : ∃ z, z = P.vars := ⟨_, rfl⟩
  obtain ⟨fn, hfn⟩ : ∃ n, n = P.free.length := ⟨_, rfl⟩
  obtain ⟨gn, hgn⟩ : ∃ n, n = P.goal.length := ⟨_, rfl⟩
  obtain ⟨rn, hrn⟩ : ∃ n, n = P.rows.length := ⟨_, rfl⟩
  obtain ⟨xn, hxn⟩ : ∃ n, n = xs.length := ⟨_, rfl⟩
  have h400 : rn ≤ 400 := by rw [hrn]; exact hfit.2.1
  rw [← hz] at hz1 hz2 HP ⊢
  rw [← hfn] at HP ⊢
  rw [← hgn] at HP ⊢
  rw [← hrn] at HP ⊢
  rw [← hxn] at HX hx100 HNN ⊢
  have HEQ := Lib.hid (And.intro hz (And.intro hfn (And.intro hrn hxn)))
  have HGN := Lib.hid hgn
  obtain ⟨w1, hw1⟩ : ∃ w1, w1 = w.alloc (Obj.cells #[Value.int .i64 z, Value.slice fa fn fc, Value.slice ga gn gc, Value.slice ra rn rc] 26) := ⟨_, rfl⟩
  have HB1 : Hid (Below w.heap.size w w1) := Lib.hid (by rw [hw1]; exact (Below.refl _ _).alloc (Nat.le_refl _) _)
  have HX1 : Hid (w1.heap[w.heap.size]? = some (.cells #[Value.int .i64 z, Value.slice fa fn fc, Value.slice ga gn gc, Value.slice ra rn rc] 26 (0, 0))) := Lib.hid (by rw [hw1]; exact heap_alloc_new w _)
  have HW1 := Lib.hid hw1.symm
  clear hGL hw1 hB hR hfit hNn hz hfn hgn hrn hxn
  have RX := Lib.hid (cells_later HX1.out)
  have hb1 := Below.refl w1.heap.size w1
  have x0 := RX.out 0 _ rfl _ hb1
  have x1 := RX.out 1 _ rfl _ hb1
  have x2 := RX.out 2 _ rfl _ hb1
  have x3 := RX.out 3 _ rfl _ hb1
  have HRB := Lib.hid hrb
  have HSZS : Hid (Sizes N P xs) := Lib.hid ⟨HFIT.out, hv100, hN, hGn, by have := HEQ.out; omega⟩
  have HVL : Hid (lenQ (valueQ P xs) ≤ 4002) := Lib.hid (len_value HP0.out HX0.out (by have := HEQ.out; omega) (by have h8 := HNN.out; rw [HEQ.out.2.2.2] at h8; exact h8))
  clear hrb hv100 hGn
  by_cases hl : (xn : Int) = z
  case neg =>
    have t0 : ((xn : Int) != z) = true := by simpa using hl
    have HE : Hid (leadsQ P xs = false) := Lib.hid (leads_no (Or.inl (fun h => hl (by rw [HEQ.out.1, HEQ.out.2.2.2]; exact h))))
    clear hl
    go_enter Tryz.func40, Tryz.ntmps40
    go_wp2_with fail
    rw [HW1.out]
    go_ret
    exact ⟨by rw [HE.out]; first | done | rfl, HB1.out⟩
  have t0 : ((xn : Int) != z) = false := by simpa using hl
  have HXZ := Lib.hid hl
  have HLX : Hid ((xs.length : Int) = P.vars) := Lib.hid (by rw [← HEQ.out.1, ← HEQ.out.2.2.2]; exact hl)
  have HFX : Hid (P.free.length = xn) := Lib.hid (by have h8 := (right_goal HRB.out).2.1; have h7 := HLX.out; have := HEQ.out; omega)
  clear hl
  go_enter Tryz.func40, Tryz.ntmps40
  go_wp2_with fail
  rw [HW1.out]
  have HZ2 := Lib.hid hb1
  go_loopw [16] (fun iv wr => ∃ i : Nat, i ≤ xn ∧ iv = .int .i64 i ∧ Hid (∀ j, j < i → P.free[j]? = some true ∨ 0 ≤ cmpQ (nthQ xs j) 0) ∧ Hid (Below w1.heap.size w1 wr)) (fun iv _ => xn - (intOf iv).toNat)
  case atStart => exact ⟨0, Nat.zero_le _, rfl, Lib.hid (fun j h => absurd h (Nat.not_lt_zero j)), HZ2⟩
  case round =>
    obtain ⟨i, hi, rfl, hd, hZ⟩ := hrel
    obtain ⟨wo, rfl⟩ : ∃ wo : World, wo = wr := ⟨_, rfl⟩
    by_cases hin : i < xn
    · have t1 : decide ((i : Int) < (xn : Int)) = true := by simp; omega
      obtain ⟨q, B, off, b, a1, n1, c1, a2, n2, c2, hq, ha, hc, hf⟩ := HX.out.at hin
      subst ha
      obtain ⟨k0, k1, k2⟩ := hc wo (below_trans HB1.out hZ.out)
      obtain ⟨fb, Bf, of, hfb, hfa, hcf⟩ := HBO.out.at (i := i) (by have := HFX.out; omega)
      subst hfa
      have hfnx : Hid (fn = xn) := Lib.hid (by have := HFX.out; have := HEQ.out; omega)
      have HFB := Lib.hid hfb
      have HQ := Lib.hid (nthQ_of hq)
      have HF := Lib.hid hf
      have HCF := Lib.hid hcf
      clear hc hf hq hfb hcf
      have hil : i < fn := by have := hfnx.out; omega
      go_wp2_with ((with_reducible refine at_store ?_); refine wpList_store_var rfl _ _ _ rfl wo.heap.size rfl _ rfl _ _ (heap_alloc_new _ _) ifrac rfl frac_one ?_; intro w4 h4 hon4; refine halt ?_)
      have hb4 : Below wo.heap.size wo w4 := below_only ((Below.refl _ _).alloc (Nat.le_refl _) _) hon4 (Nat.le_refl _)
      have HZ4 := Lib.hid (below_trans hZ.out hb4)
      have y0 := cells_later h4 0 _ rfl _ (Below.refl _ _)
      have y1 := cells_later h4 1 _ rfl _ (Below.refl _ _)
      have y2 := cells_later h4 2 _ rfl _ (Below.refl _ _)
      have x0 := RX.out 0 _ rfl _ HZ4.out
      have x1 := RX.out 1 _ rfl _ HZ4.out
      have f0 := HCF.out w4 (below_trans HB1.out HZ4.out)
      clear h4 hon4 hb4 k0 k1 k2
      refine go_on ?_
      cases fb with
      | true =>
        have HD : Hid (∀ j, j < i + 1 → P.free[j]? = some true ∨ 0 ≤ cmpQ (nthQ xs j) 0) := Lib.hid (fun j hj => by
          by_cases e : j = i
          · subst e; exact Or.inl HFB.out
          · exact hd.out j (by omega))
        go_wp2_with fail
        go_roundw
        case rel => exact ⟨i + 1, by omega, by go_num, HD, HZ4⟩
        case measure => simp [intOf]; omega
      | false =>
        have K := Lib.hid (rsign_f (HF.out.below (below_trans HB1.out HZ4.out)) (by omega))
        have hc9 := cmpQ_small q 0
        obtain ⟨o, ho⟩ : ∃ o, o = cmpQ q 0 := ⟨_, rfl⟩
        rw [← ho] at K hc9
        obtain ⟨ho1, ho2⟩ := hc9
        have HO := Lib.hid ho
        clear ho
        by_cases h0 : o < 0
        · have t2 : decide (o < 0) = true := by simpa using h0
          have HE : Hid (leadsQ P xs = false) := Lib.hid (leads_no (Or.inr (Or.inl (by
            unfold sgnB
            rw [decide_eq_false_iff_not]
            intro h
            rcases h i (by have := HEQ.out; omega) with e | e
            · rw [HFB.out] at e; cases e
            · rw [HQ.out, ← HO.out] at e; omega))))
          clear h0
          go_wp2_with fail
          refine K.out.mono ?_
          rintro en5 w5 ⟨rfl, hb5⟩
          go_wp2_with fail
          go_ret
          exact ⟨by rw [HE.out]; first | done | rfl, below_trans HB1.out (below_trans HZ4.out hb5)⟩
        · have t2 : decide (o < 0) = false := by simpa using h0
          have HD : Hid (∀ j, j < i + 1 → P.free[j]? = some true ∨ 0 ≤ cmpQ (nthQ xs j) 0) := Lib.hid (fun j hj => by
            by_cases e : j = i
            · subst e; right; rw [HQ.out, ← HO.out]; omega
            · exact hd.out j (by omega))
          clear h0
          go_wp2_with fail
          refine K.out.mono ?_
          rintro en5 w5 ⟨rfl, hb5⟩
          have HZ5 := Lib.hid (below_trans HZ4.out hb5)
          go_wp2_with fail
          go_roundw
          case rel => exact ⟨i + 1, by omega, by go_num, HD, HZ5⟩
          case measure => simp [intOf]; omega
    · have t1 : decide ((i : Int) < (xn : Int)) = false := by simp; omega
      have HSG : Hid (sgnB P.free xs = true) := Lib.hid (by
        unfold sgnB
        rw [decide_eq_true_eq]
        intro j hj
        exact hd.out j (by have := HEQ.out; omega))
      have x0 := RX.out 0 _ rfl _ hZ.out
      have x1 := RX.out 1 _ rfl _ hZ.out
      have x2 := RX.out 2 _ rfl _ hZ.out
      have x3 := RX.out 3 _ rfl _ hZ.out
      have HZ3 := hZ
      go_wp2_with fail
      go_loopw [36] (fun iv wr => ∃ i : Nat, i ≤ rn ∧ iv = .int .i64 i ∧ Hid (∀ x r, x < i → P.rows[x]? = some r → row0B xs r = true) ∧ Hid (Below w1.heap.size w1 wr)) (fun iv _ => rn - (intOf iv).toNat)
      case atStart => exact ⟨0, Nat.zero_le _, rfl, Lib.hid (fun x r h => absurd h (Nat.not_lt_zero x)), HZ3⟩
      case round =>
        obtain ⟨i, hi, rfl, hd, hZ⟩ := hrel
        obtain ⟨wo, rfl⟩ : ∃ wo : World, wo = wr := ⟨_, rfl⟩
        by_cases hin : i < rn
        · have t6 : decide ((i : Int) < (rn : Int)) = true := by simp; omega
          obtain ⟨r, B, off, a1, c1, b, a2, n2, c2, a3, n3, c3, hr, ha, hlr, hfr, hz3, hz4, hc⟩ := HR.out.at (i := i) (by have := HEQ.out; omega)
          subst ha
          obtain ⟨f0, f1, f2, f3, f4⟩ := hc wo (below_trans HB1.out hZ.out)
          have HRI := Lib.hid hr
          have hrl := row_len HRB.out hr
          have hn1 : r.1.length = xn := by have := HXZ.out; have := HEQ.out; omega
          rw [hn1] at f0 hlr
          have HRL := Lib.hid hn1
          have HLR := Lib.hid hlr
          have HFR := Lib.hid hfr
          obtain ⟨sn, hsn⟩ : ∃ n, n = r.2.1 := ⟨_, rfl⟩
          rw [← hsn] at f1 hz3 hz4
          obtain ⟨q, hq⟩ : ∃ n, n = r.2.2 := ⟨_, rfl⟩
          rw [← hq] at HFR
          obtain ⟨D, hD⟩ : ∃ D, D = dotQ r.1 xs := ⟨_, rfl⟩
          have HLD : Hid (lenQ D ≤ 4002) := Lib.hid (by rw [hD]; exact len_dotG hlr HX.out (by have := HEQ.out; omega) (by have := HEQ.out; omega) (by have h8 := HNN.out; have h7 := HEQ.out.2.2.2; rw [← h7]; exact h8))
          have HROW : Hid (row0B xs r = holdsB sn (cmpQ D 0)) := Lib.hid (by unfold row0B; rw [hsn, hD])
          have HD0 := Lib.hid hD
          have hc9 := cmpQ_small D 0
          obtain ⟨o, ho⟩ : ∃ o, o = cmpQ D 0 := ⟨_, rfl⟩
          rw [← ho] at HROW hc9
          obtain ⟨ho1, ho2⟩ := hc9
          have HO := Lib.hid ho
          clear hc hr hn1 hsn hq hD hlr hfr hrl ho
          go_wp2_with ((with_reducible refine at_store ?_); refine wpList_store_var rfl _ _ _ rfl wo.heap.size rfl _ rfl _ _ (heap_alloc_new _ _) irow rfl row_one ?_; intro w4 h4 hon4; refine halt ?_)
          have hb4 : Below wo.heap.size wo w4 := below_only ((Below.refl _ _).alloc (Nat.le_refl _) _) hon4 (Nat.le_refl _)
          have HB4 := Lib.hid (below_trans hZ.out hb4)
          have HW4 := Lib.hid (below_trans HB1.out HB4.out)
          have RY := Lib.hid (cells_later h4)
          have hb5 := Below.refl w4.heap.size w4
          have y0 := RY.out 0 _ rfl _ hb5
          have y1 := RY.out 1 _ rfl _ hb5
          have y2 := RY.out 2 _ rfl _ hb5
          have y3 := RY.out 3 _ rfl _ hb5
          have y4 := RY.out 4 _ rfl _ hb5
          clear h4 hon4 hb4 f0 f1 f2 f3 f4
          refine go_on ?_
          have KD := Lib.hid (fun w' (hb : Below w4.heap.size w4 w') => rdot_wG (w := w') ((by have h9 := HLR.out; exact h9 : ListF N w (.slice a1 xn c1) r.1).below (below_trans HW4.out hb)) (HX.out.below (below_trans HW4.out hb)) hN (by have := HRL.out; omega) (by have := HEQ.out; omega) (by rw [HRL.out]; exact HNN.out))
          have HDS : Hid (sumR (fun i => nthQ r.1 i * nthQ xs i) 0 (min r.1.length xs.length) = D) := Lib.hid (by rw [HD0.out]; unfold dotQ; rw [HRL.out, ← HEQ.out.2.2.2, Nat.min_self])
          rw [HDS.out] at KD
          have KW := Lib.hid (fun w' => whole0_w (w := w'))
          obtain ⟨U0, hU0⟩ : ∃ U0, U0 = (0 : Rat) := ⟨_, rfl⟩
          rw [← hU0] at KW
          have KH0 : Hid (∀ t, holdsB sn o = t → ∀ w' y y0, Below w4.heap.size w4 w' → FracV w' y D → FracV w' y0 U0 → Calls Tryz.prog 75 #[y, .int .i64 sn, y0] w' fun e w'' => e = .returned (.bool t) ∧ Below w'.heap.size w' w'') := Lib.hid (fun t ht w' y y0 hb hy hy0 => rholds_w (n := 4096) (m := 4096) (hy.sz (by have := HLD.out; omega) (by have := HLD.out; omega)) (hy0.sz (by rw [hU0]; exact len_zero9.2.2) (by rw [hU0]; exact len_zero9.2.2)) (by omega) (by omega) (by rw [hU0, ← HO.out]; exact ht))
          clear hU0
          go_wp2_with fail
          have hz0 : Below w4.heap.size w4 w4.drew := below_drewN hb5 1
          cases ht : holdsB sn o with
          | false =>
            have HE : Hid (leadsQ P xs = false) := Lib.hid (leads_row HRI.out (by rw [HROW.out]; exact ht))
            have KH := Lib.hid (KH0.out false ht)
            clear ht
            go_region_held3 (fun w' => w'.cell? ⟨wo.heap.size, 0, none⟩ = some (.slice a1 xn c1) ∧ w'.cell? ⟨wo.heap.size, 1, none⟩ = some (.int .i64 sn) ∧ w'.cell? ⟨wo.heap.size, 2, none⟩ = some (.bool b) ∧ w'.cell? ⟨wo.heap.size, 3, none⟩ = some (.slice a2 n2 c2) ∧ w'.cell? ⟨wo.heap.size, 4, none⟩ = some (.slice a3 n3 c3))
              (((try dsimp only); refine ⟨?_, ?_, ?_, ?_, ?_⟩ <;> (first | exact RY.out 0 _ rfl _ (by assumption) | exact RY.out 1 _ rfl _ (by assumption) | exact RY.out 2 _ rfl _ (by assumption) | exact RY.out 3 _ rfl _ (by assumption) | exact RY.out 4 _ rfl _ (by assumption))))
              (first | (go_at_call 76; refine (KD.out _ hz0).mono ?_; rintro en6 w6 ⟨⟨v6, rfl, f6⟩, hb6⟩; obtain ⟨a6, n6, c6, i6, j6, k6, hq6⟩ := frac_form f6; subst hq6; have hz6 := below_trans hz0 hb6) | (go_at_call 38; refine (KW.out _).mono ?_; rintro en7 w7 ⟨⟨v7, rfl, f7⟩, hb7⟩; obtain ⟨a7, n7, c7, i7, j7, k7, hq7⟩ := frac_form f7; subst hq7; have hz7 := below_trans hz6 hb7) | (go_at_call 75; refine (KH.out _ _ _ hz7 (f6.below hb7) f7).mono ?_; rintro en8 w8 ⟨rfl, hb8⟩; have hz9 := below_trans hz7 hb8))
            all_goals
              have HZ9 := Lib.hid (below_trans HB4.out hz9)
              go_wp2_with fail
              go_ret
              exact ⟨by rw [HE.out]; first | done | rfl, below_trans HB1.out HZ9.out⟩
          | true =>
            have HD : Hid (∀ x r', x < i + 1 → P.rows[x]? = some r' → row0B xs r' = true) := Lib.hid (fun x r' hx hr => by
              by_cases e : x = i
              · subst e
                rw [HRI.out] at hr
                cases hr
                rw [HROW.out]; exact ht
              · exact hd.out x r' (by omega) hr)
            have KH := Lib.hid (KH0.out true ht)
            clear ht
            go_region_held3 (fun w' => w'.cell? ⟨wo.heap.size, 0, none⟩ = some (.slice a1 xn c1) ∧ w'.cell? ⟨wo.heap.size, 1, none⟩ = some (.int .i64 sn) ∧ w'.cell? ⟨wo.heap.size, 2, none⟩ = some (.bool b) ∧ w'.cell? ⟨wo.heap.size, 3, none⟩ = some (.slice a2 n2 c2) ∧ w'.cell? ⟨wo.heap.size, 4, none⟩ = some (.slice a3 n3 c3))
              (((try dsimp only); refine ⟨?_, ?_, ?_, ?_, ?_⟩ <;> (first | exact RY.out 0 _ rfl _ (by assumption) | exact RY.out 1 _ rfl _ (by assumption) | exact RY.out 2 _ rfl _ (by assumption) | exact RY.out 3 _ rfl _ (by assumption) | exact RY.out 4 _ rfl _ (by assumption))))
              (first | (go_at_call 76; refine (KD.out _ hz0).mono ?_; rintro en6 w6 ⟨⟨v6, rfl, f6⟩, hb6⟩; obtain ⟨a6, n6, c6, i6, j6, k6, hq6⟩ := frac_form f6; subst hq6; have hz6 := below_trans hz0 hb6) | (go_at_call 38; refine (KW.out _).mono ?_; rintro en7 w7 ⟨⟨v7, rfl, f7⟩, hb7⟩; obtain ⟨a7, n7, c7, i7, j7, k7, hq7⟩ := frac_form f7; subst hq7; have hz7 := below_trans hz6 hb7) | (go_at_call 75; refine (KH.out _ _ _ hz7 (f6.below hb7) f7).mono ?_; rintro en8 w8 ⟨rfl, hb8⟩; have hz9 := below_trans hz7 hb8))
            all_goals
              have HZ9 := Lib.hid (below_trans HB4.out hz9)
              clear hz9
              go_wp2_with fail
              go_roundw
            all_goals first
              | exact ⟨i + 1, by omega, by go_num, HD, HZ9⟩
              | (simp [intOf]; omega)
        · have t6 : decide ((i : Int) < (rn : Int)) = false := by simp; omega
          have HRW : Hid (∀ i r, i < P.rows.length → P.rows[i]? = some r → row0B xs r = true) := Lib.hid (fun x r hx hr => hd.out x r (by have := HEQ.out; omega) hr)
          have x2 := RX.out 2 _ rfl _ hZ.out
          obtain ⟨V, hV⟩ : ∃ V, V = valueQ P xs := ⟨_, rfl⟩
          have HVV := Lib.hid hV
          have hgx : gn = xn := by have h7 := (right_goal HRB.out).1; have := HLX.out; have := HEQ.out; have := HGN.out; omega
          have HGX := Lib.hid hgx
          have KV : Hid (Calls Tryz.prog 76 #[.slice ga gn gc, .slice xa xn xc] wo (RTell wo V)) := Lib.hid (by
            rw [hV, value_of HRB.out HLX.out]
            have e0 := HEQ.out
            have h9 := rdot_wG (HGL.out.below (below_trans HB1.out hZ.out)) (HX0.out.below (below_trans HB1.out hZ.out)) hN (by have := HGN.out; omega) (by omega) (by rw [← HGN.out, hgx]; exact HNN.out)
            have e9 : dotQ P.goal xs = sumR (fun i => nthQ P.goal i * nthQ xs i) 0 (min P.goal.length xs.length) := by unfold dotQ; rw [← HGN.out, ← e0.2.2.2, hgx, Nat.min_self]
            rw [e9, ← HGN.out, ← e0.2.2.2]
            rw [← HGN.out, ← e0.2.2.2] at h9
            exact h9)
          clear hV hgx
          go_wp2_with fail
          refine KV.out.mono ?_
          rintro en5 w5 ⟨⟨v5, rfl, f5⟩, hb5⟩
          obtain ⟨a5, n5, c5, i5, j5, k5, hq5⟩ := frac_form f5
          subst hq5
          have K9 := Lib.hid (rsign_s (n := 4096) (f5.sz (by have h8 := HVL.out; rw [← HVV.out] at h8; omega) (by have h8 := HVL.out; rw [← HVV.out] at h8; omega)) (by omega))
          have HZ5 := Lib.hid (below_trans hZ.out hb5)
          obtain ⟨o, ho⟩ : ∃ o, o = cmpQ V 0 := ⟨_, rfl⟩
          have HO := Lib.hid ho
          rw [← ho] at K9
          clear f5 hb5 ho x2
          go_wp2_with fail
          refine K9.out.mono ?_
          rintro en6 w6 ⟨rfl, hb6⟩
          have HZ6 := Lib.hid (below_trans HZ5.out hb6)
          clear hb6
          by_cases h0 : 0 < o
          · have u : decide (0 < o) = true := by simpa using h0
            have HE : Hid (leadsQ P xs = true) := Lib.hid (leads_yes HLX.out HSG.out HRW.out (by rw [← HVV.out, ← HO.out]; exact h0))
            clear h0
            go_wp2_with fail
            go_ret
            exact ⟨by rw [HE.out]; first | done | rfl, below_trans HB1.out HZ6.out⟩
          · have u : decide (0 < o) = false := by simpa using h0
            have HE : Hid (leadsQ P xs = false) := Lib.hid (leads_no (Or.inr (Or.inr (by rw [← HVV.out, ← HO.out]; exact h0))))
            clear h0
            go_wp2_with fail
            go_ret
            exact ⟨by rw [HE.out]; first | done | rfl, below_trans HB1.out HZ6.out⟩
end Go.Proofs.YtlaphdlocchagaaGreat

/- Certificates: Judge of plane and of the reference. -/
namespace Go.Proofs.YtlaphdlocchagaaGreat
open Go.RowKit
attribute [local go_sem ↓] Go.wp_at_zero Go.wp_at_succ

/-- Is it a certificate? -/
def judgeQ (P : Pm) (k : Int) (xs ys zs : List Rat) : Bool :=
  rightB2 P && (if k = 1 then fitsQ P xs && boundsQ P ys P.goal && decide (cmpQ (sideQ P ys) (valueQ P xs) = 0)
    else if k = 2 then boundsQ P ys (List.replicate P.free.length 0) && decide (cmpQ (sideQ P ys) 0 < 0)
    else if k = 3 then fitsQ P xs && leadsQ P zs else false)
theorem bounds_len {P : Pm} {ys goal : List Rat} (h : boundsQ P ys goal = true) : ys.length = P.rows.length := by
  unfold boundsQ at h
  rw [Bool.and_eq_true, Bool.and_eq_true, decide_eq_true_eq] at h
  exact h.1.1
theorem signs_len {P : Pm} {ys : List Rat} (h : signsQ P ys = true) : ys.length = P.rows.length := by
  unfold signsQ at h
  rw [Bool.and_eq_true, decide_eq_true_eq] at h
  exact h.1
theorem bounds_two {P : Pm} {ys goal : List Rat} : boundsQ P ys goal = (signsQ P ys && coverB P ys goal) := rfl
/-- A certificate as read. -/
def CertF (N : Nat) (w : World) (v : Value) (k : Int) (xs ys zs : List Rat) : Prop :=
  ∃ xa xc ya yc za zc, v = .agg #[.int .i64 k, .slice xa xs.length xc, .slice ya ys.length yc, .slice za zs.length zc] ∧ ListF N w (.slice xa xs.length xc) xs ∧ ListF N w (.slice ya ys.length yc) ys ∧ ListF N w (.slice za zs.length zc) zs
theorem CertF.below {N : Nat} {w w' : World} {v : Value} {k : Int} {xs ys zs : List Rat} (h : CertF N w v k xs ys zs) (hb : Below w.heap.size w w') : CertF N w' v k xs ys zs := by
  obtain ⟨xa, xc, ya, yc, za, zc, hv, h1, h2, h3⟩ := h
  exact ⟨xa, xc, ya, yc, za, zc, hv, h1.below hb, h2.below hb, h3.below hb⟩
def SizesC (N : Nat) (P : Pm) (xs zs : List Rat) : Prop :=
  Fit P ∧ P.vars ≤ 100 ∧ P.rows.length ≤ 100 ∧ 1 ≤ N ∧ N ≤ 50 ∧ N * P.goal.length ≤ 1000 ∧ N * P.rows.length ≤ 1000 ∧ (xs.length ≤ 100 ∧ N * xs.length ≤ 1000) ∧ (zs.length ≤ 100 ∧ N * zs.length ≤ 1000)
theorem cert_one {k : Int} {xa ya za : Option Addr} {xn xc yn yc zn zc : Nat} : ∀ v ∈ (#[Value.int .i64 k, Value.slice xa xn xc, Value.slice ya yn yc, Value.slice za zn zc] : Array Value).toList, v.oneCell' = true := by
  intro v hv
  simp at hv
  rcases hv with rfl | rfl | rfl | rfl <;> rfl
theorem len_side {N : Nat} {w w' : World} {v y : Value} {P : Pm} {ys : List Rat} (h : ProgF N w v P) (hy : ListF N w' y ys) (hl : ys.length = P.rows.length) (_ : N ≤ 50) (hr : P.rows.length ≤ 100) (hNr : N * P.rows.length ≤ 1000) : lenQ (sideQ P ys) ≤ 4002 := by
  unfold sideQ
  refine len_sum9 (N := N) (fun i hi => ?_) (by omega) (by rw [hl]; exact hNr)
  exact sz_mul (sz_bQ h (by omega)) (sz_nth hy hi)

end Go.Proofs.YtlaphdlocchagaaGreat
