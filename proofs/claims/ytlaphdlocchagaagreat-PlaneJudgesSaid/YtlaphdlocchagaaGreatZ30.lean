/- Several texts in one: J7. -/
import Derived.Test.YtlaphdlocchagaaGreatZ29
import Derived.Deep.RegionHeld3
import Derived.Deep.DrawnRows
/- Fits, of the program and of the reference. -/
namespace Go.Proofs.YtlaphdlocchagaaGreat
open Go.RowKit
attribute [local go_sem ↓] Go.wp_at_zero Go.wp_at_succ

def rowB (xs : List Rat) (r : List Rat × Int × Rat) : Bool := holdsB r.2.1 (cmpQ (dotQ r.1 xs) r.2.2)
/-- Does a vector fit a program? -/
def fitsQ (P : Pm) (xs : List Rat) : Bool := rightB2 P && decide ((xs.length : Int) = P.vars) && sgnB P.free xs && P.rows.all (rowB xs)
theorem fits_no {P : Pm} {xs : List Rat} (h : rightB2 P = false ∨ ¬ (xs.length : Int) = P.vars ∨ sgnB P.free xs = false) : fitsQ P xs = false := by
  unfold fitsQ
  rcases h with h | h | h <;> simp [h]
theorem fits_row {P : Pm} {xs : List Rat} {i : Nat} {r : List Rat × Int × Rat} (hr : P.rows[i]? = some r) (h : rowB xs r = false) : fitsQ P xs = false := by
  unfold fitsQ
  have e : P.rows.all (rowB xs) = false := by
    rw [Bool.eq_false_iff]
    intro ha
    rw [List.all_eq_true] at ha
    rw [ha r (List.mem_of_getElem? hr)] at h
    cases h
  simp [e]
theorem fits_yes {P : Pm} {xs : List Rat} (h1 : rightB2 P = true) (h2 : (xs.length : Int) = P.vars) (h3 : sgnB P.free xs = true) (h4 : ∀ i r, i < P.rows.length → P.rows[i]? = some r → rowB xs r = true) : fitsQ P xs = true := by
  unfold fitsQ
  have e : P.rows.all (rowB xs) = true := by
    rw [List.all_eq_true]
    intro r hr
    obtain ⟨i, hi, rfl⟩ := List.mem_iff_getElem.1 hr
    exact h4 i _ hi (List.getElem?_eq_getElem hi)
  simp [h1, h2, h3, e]
theorem row_len {P : Pm} (h : rightB2 P = true) {i : Nat} {r : List Rat × Int × Rat} (hr : P.rows[i]? = some r) : (r.1.length : Int) = P.vars := by
  unfold rightB2 at h
  simp only [Bool.and_eq_true] at h
  have h9 := (List.all_eq_true.1 h.2) r (List.mem_of_getElem? hr)
  simp only [okRow, decide_eq_true_eq] at h9
  exact h9.1
theorem len_dotG {N : Nat} {w w' : World} {v v' : Value} {gs xs : List Rat} (h : ListF N w v gs) (h' : ListF N w' v' xs) (hl : gs.length = xs.length) (hn : xs.length ≤ 100) (hN : N * xs.length ≤ 1000) : lenQ (dotQ gs xs) ≤ 4002 := by
  have h1 := sz_len (sz_sum (g := fun i => nthQ gs i * nthQ xs i) (lo := 0) (n := xs.length) fun i _ hi => sz_mul (sz_nth h (i := i) (by omega)) (sz_nth h' (i := i) (by omega))) (by omega)
  have e : 2 * N * xs.length = 2 * (N * xs.length) := Nat.mul_assoc _ _ _
  unfold dotQ
  omega

set_option maxRecDepth 100000 in
set_option maxHeartbeats 8000000 in
theorem pfits_w {N : Nat} {w : World} {v x : Value} {P : Pm} {xs : List Rat} (h : ProgF N w v P) (hx : ListF N w x xs) (hfit : Fit P) (hN : N ≤ 50) (hx100 : xs.length ≤ 100) (hNn : N * xs.length ≤ 1000) :
    Calls Tryz.prog 22 #[v, x] w fun e w' => e = .returned (.bool (fitsQ P xs)) ∧ Below w.heap.size w w' := by
  have HP := Lib.hid h
  have HX := Lib.hid hx
  obtain ⟨fa, fc, ga, gc, ra, rc, rfl, hz1, hz2, hB, -, hR⟩ := h
  have HBO := Lib.hid hB
  obtain ⟨xa, xc, rfl, -⟩ := hx
  have HR := Lib.hid hR
  have HFIT := Lib.hid hfit
  have HNN := Lib.hid hNn
  obtain ⟨z, hz⟩ : ∃ z, z = P.vars := ⟨_, rfl⟩
  obtain ⟨fn, hfn⟩ : ∃ n, n = P.free.length := ⟨_, rfl⟩
  obtain ⟨gn, hgn⟩ : ∃ n, n = P.goal.length := ⟨_, rfl⟩
  obtain ⟨rn, hrn⟩ : ∃ n, n = P.rows.length := ⟨_, rfl⟩
  obtain ⟨xn, hxn⟩ : ∃ n, n = xs.length := ⟨_, rfl⟩
  have h400 : rn ≤ 400 := by rw [hrn]; exact hfit.2.1
  rw [← hz] at hz1 hz2 HP ⊢
  rw [← hfn] at HP ⊢
  rw [← hgn] at HP ⊢
  rw [← hrn] at HP ⊢
  rw [← hxn] at HX hx100 HNN ⊢
  have HEQ := Lib.hid (And.intro hz (And.intro hfn (And.intro hrn hxn)))
  obtain ⟨w1, hw1⟩ : ∃ w1, w1 = w.alloc (Obj.cells #[Value.int .i64 z, Value.slice fa fn fc, Value.slice ga gn gc, Value.slice ra rn rc] 26) := ⟨_, rfl⟩
  have HB1 : Hid (Below w.heap.size w w1) := Lib.hid (by rw [hw1]; exact (Below.refl _ _).alloc (Nat.le_refl _) _)
  have HX1 : Hid (w1.heap[w.heap.size]? = some (.cells #[Value.int .i64 z, Value.slice fa fn fc, Value.slice ga gn gc, Value.slice ra rn rc] 26 (0, 0))) := Lib.hid (by rw [hw1]; exact heap_alloc_new w _)
  have HW1 := Lib.hid hw1.symm
  clear hw1 hB hR hfit hNn hz hfn hgn hrn hxn
  have RX := Lib.hid (cells_later HX1.out)
  have hb1 := Below.refl w1.heap.size w1
  have x0 := RX.out 0 _ rfl _ hb1
  have x1 := RX.out 1 _ rfl _ hb1
  have x2 := RX.out 2 _ rfl _ hb1
  have x3 := RX.out 3 _ rfl _ hb1
  have KR := Lib.hid (fun w' (hb : Below w.heap.size w w') => pright_w (HP.out.below hb) HFIT.out)
  cases hb : rightB2 P with
  | false =>
    have HE : Hid (fitsQ P xs = false) := Lib.hid (fits_no (Or.inl hb))
    rw [right_20 hb] at KR
    clear hb
    go_enter Tryz.func22, Tryz.ntmps22
    go_wp2_with fail
    rw [HW1.out]
    refine (KR.out _ HB1.out).mono ?_
    rintro en2 w2 ⟨rfl, hb2⟩
    go_wp2_with fail
    go_ret
    exact ⟨by rw [HE.out]; first | done | rfl, below_trans HB1.out hb2⟩
  | true =>
  have HRB := Lib.hid hb
  rw [right_0 hb] at KR
  clear hb
  by_cases hl : (xn : Int) = z
  case neg =>
    have t0 : ((xn : Int) != z) = true := by simpa using hl
    have HE : Hid (fitsQ P xs = false) := Lib.hid (fits_no (Or.inr (Or.inl (fun h => hl (by rw [HEQ.out.1, HEQ.out.2.2.2]; exact h)))))
    clear hl
    go_enter Tryz.func22, Tryz.ntmps22
    go_wp2_with fail
    rw [HW1.out]
    refine (KR.out _ HB1.out).mono ?_
    rintro en2 w2 ⟨rfl, hb2⟩
    have x0 := RX.out 0 _ rfl _ hb2
    have x1 := RX.out 1 _ rfl _ hb2
    have x2 := RX.out 2 _ rfl _ hb2
    have x3 := RX.out 3 _ rfl _ hb2
    go_wp2_with fail
    go_ret
    exact ⟨by rw [HE.out]; first | done | rfl, below_trans HB1.out hb2⟩
  have t0 : ((xn : Int) != z) = false := by simpa using hl
  have HXZ := Lib.hid hl
  have HLX : Hid ((xs.length : Int) = P.vars) := Lib.hid (by rw [← HEQ.out.1, ← HEQ.out.2.2.2]; exact hl)
  have HFX : Hid (P.free.length = xn) := Lib.hid (by have h8 := (right_goal HRB.out).2.1; have h7 := HLX.out; have := HEQ.out; omega)
  clear hl
  go_enter Tryz.func22, Tryz.ntmps22
  go_wp2_with fail
  rw [HW1.out]
  refine (KR.out _ HB1.out).mono ?_
  rintro en2 w2 ⟨rfl, hb2⟩
  have x0 := RX.out 0 _ rfl _ hb2
  have x1 := RX.out 1 _ rfl _ hb2
  have x2 := RX.out 2 _ rfl _ hb2
  have x3 := RX.out 3 _ rfl _ hb2
  have HZ2 := Lib.hid hb2
  clear hb2
  have KS := Lib.hid (signedAs_w (HP.out.below (below_trans HB1.out HZ2.out)) (HX.out.below (below_trans HB1.out HZ2.out) |> fun h => (by have := HEQ.out.2.2.2; subst this; exact h : ListF N w2 (.slice xa xn xc) xs)) (right_goal HRB.out).2.1 HLX.out (by have := HEQ.out; omega))
  go_wp2_with fail
  refine KS.out.mono ?_
  rintro en3 w3 ⟨he3, hb3⟩
  have HZ3 := Lib.hid (below_trans HZ2.out hb3)
  clear hb3 x0 x1 x2 x3
  have x0 := RX.out 0 _ rfl _ HZ3.out
  have x1 := RX.out 1 _ rfl _ HZ3.out
  have x2 := RX.out 2 _ rfl _ HZ3.out
  have x3 := RX.out 3 _ rfl _ HZ3.out
  cases hs : sgnB P.free xs with
  | false =>
    rw [hs] at he3
    subst he3
    have HE : Hid (fitsQ P xs = false) := Lib.hid (fits_no (Or.inr (Or.inr hs)))
    clear hs
    go_wp2_with fail
    go_ret
    exact ⟨by rw [HE.out]; first | done | rfl, below_trans HB1.out HZ3.out⟩
  | true =>
  rw [hs] at he3
  subst he3
  have HSG := Lib.hid hs
  clear hs
  go_wp2_with fail
  go_loopw [26] (fun iv wr => ∃ i : Nat, i ≤ rn ∧ iv = .int .i64 i ∧ Hid (∀ x r, x < i → P.rows[x]? = some r → rowB xs r = true) ∧ Hid (Below w1.heap.size w1 wr)) (fun iv _ => rn - (intOf iv).toNat)
  case atStart => exact ⟨0, Nat.zero_le _, rfl, Lib.hid (fun x r h => absurd h (Nat.not_lt_zero x)), HZ3⟩
  case round =>
    obtain ⟨i, hi, rfl, hd, hZ⟩ := hrel
    obtain ⟨wo, rfl⟩ : ∃ wo : World, wo = wr := ⟨_, rfl⟩
    by_cases hin : i < rn
    · have t6 : decide ((i : Int) < (rn : Int)) = true := by simp; omega
      obtain ⟨r, B, off, a1, c1, b, a2, n2, c2, a3, n3, c3, hr, ha, hlr, hfr, hz3, hz4, hc⟩ := HR.out.at (i := i) (by have := HEQ.out; omega)
      subst ha
      obtain ⟨f0, f1, f2, f3, f4⟩ := hc wo (below_trans HB1.out hZ.out)
      have HRI := Lib.hid hr
      have hrl := row_len HRB.out hr
      have hn1 : r.1.length = xn := by have := HXZ.out; have := HEQ.out; omega
      rw [hn1] at f0 hlr
      have HRL := Lib.hid hn1
      have HLR := Lib.hid hlr
      have HFR := Lib.hid hfr
      obtain ⟨sn, hsn⟩ : ∃ n, n = r.2.1 := ⟨_, rfl⟩
      rw [← hsn] at f1 hz3 hz4
      obtain ⟨q, hq⟩ : ∃ n, n = r.2.2 := ⟨_, rfl⟩
      rw [← hq] at HFR
      obtain ⟨D, hD⟩ : ∃ D, D = dotQ r.1 xs := ⟨_, rfl⟩
      have HLD : Hid (lenQ D ≤ 4002) := Lib.hid (by rw [hD]; exact len_dotG hlr HX.out (by have := HEQ.out; omega) (by have := HEQ.out; omega) (by have h8 := HNN.out; have h7 := HEQ.out.2.2.2; rw [← h7]; exact h8))
      have HROW : Hid (rowB xs r = holdsB sn (cmpQ D q)) := Lib.hid (by unfold rowB; rw [hsn, hq, hD])
      have HD0 := Lib.hid hD
      have hc9 := cmpQ_small D q
      obtain ⟨o, ho⟩ : ∃ o, o = cmpQ D q := ⟨_, rfl⟩
      rw [← ho] at HROW hc9
      obtain ⟨ho1, ho2⟩ := hc9
      have HO := Lib.hid ho
      clear hc hr hn1 hsn hq hD hlr hfr hrl ho
      go_wp2_with ((with_reducible refine at_store ?_); refine wpList_store_var rfl _ _ _ rfl wo.heap.size rfl _ rfl _ _ (heap_alloc_new _ _) irow rfl row_one ?_; intro w4 h4 hon4; refine halt ?_)
      have hb4 : Below wo.heap.size wo w4 := below_only ((Below.refl _ _).alloc (Nat.le_refl _) _) hon4 (Nat.le_refl _)
      have HB4 := Lib.hid (below_trans hZ.out hb4)
      have HW4 := Lib.hid (below_trans HB1.out HB4.out)
      have RY := Lib.hid (cells_later h4)
      have hb5 := Below.refl w4.heap.size w4
      have y0 := RY.out 0 _ rfl _ hb5
      have y1 := RY.out 1 _ rfl _ hb5
      have y2 := RY.out 2 _ rfl _ hb5
      have y3 := RY.out 3 _ rfl _ hb5
      have y4 := RY.out 4 _ rfl _ hb5
      clear h4 hon4 hb4 f0 f1 f2 f3 f4
      refine go_on ?_
      have KPR := Lib.hid (fun w' g (hb : Below w4.heap.size w4 w') (hg : w'.cell? ⟨g, 0, none⟩ = some (.slice a1 xn c1)) => product_w (w := w') hg (HLR.out.below (below_trans HW4.out hb)) (HX.out.below (below_trans HW4.out hb)) (Nat.le_refl _) hN hx100 HNN.out)
      have HDS : Hid (sumR (fun i => nthQ r.1 i * nthQ xs i) 0 xn = D) := Lib.hid (by rw [HD0.out]; unfold dotQ; rw [← HEQ.out.2.2.2])
      rw [HDS.out] at KPR
      have KC := Lib.hid (fun w' y (hb : Below w4.heap.size w4 w') (hy : FracV w' y D) => cmp_f (w := w') (hy.inF (by have := HLD.out; omega)) (HFR.out.inF.below (below_trans HW4.out hb)))
      rw [← HO.out] at KC
      have KH0 : Hid (∀ t, holdsB sn o = t → ∀ w', Calls Tryz.prog 67 #[.int .i64 sn, .int .i64 o] w' fun e w'' => e = .returned (.bool t) ∧ Below w'.heap.size w' w'') := Lib.hid (fun t ht w' => holds_w ht)
      go_wp2_with fail
      have hz0 : Below w4.heap.size w4 w4.drew := below_drewN hb5 1
      cases ht : holdsB sn o with
      | false =>
        have HE : Hid (fitsQ P xs = false) := Lib.hid (fits_row HRI.out (by rw [HROW.out]; exact ht))
        have KH := Lib.hid (KH0.out false ht)
        clear ht
        go_region_held3 (fun w' => w'.cell? ⟨wo.heap.size, 0, none⟩ = some (.slice a1 xn c1) ∧ w'.cell? ⟨wo.heap.size, 1, none⟩ = some (.int .i64 sn) ∧ w'.cell? ⟨wo.heap.size, 2, none⟩ = some (.bool b) ∧ w'.cell? ⟨wo.heap.size, 3, none⟩ = some (.slice a2 n2 c2) ∧ w'.cell? ⟨wo.heap.size, 4, none⟩ = some (.slice a3 n3 c3))
          (((try dsimp only); refine ⟨?_, ?_, ?_, ?_, ?_⟩ <;> (first | exact RY.out 0 _ rfl _ (by assumption) | exact RY.out 1 _ rfl _ (by assumption) | exact RY.out 2 _ rfl _ (by assumption) | exact RY.out 3 _ rfl _ (by assumption) | exact RY.out 4 _ rfl _ (by assumption))))
          (first | (go_at_call 44; refine (entries_w).mono ?_; rintro en5 w5 ⟨⟨g5, rfl, hg5⟩, hb5'⟩; have hz5 := below_trans hz0 hb5') | (go_at_call 25; refine (KPR.out _ _ hz5 hg5).mono ?_; rintro en6 w6 ⟨⟨v6, rfl, f6⟩, hb6⟩; obtain ⟨a6, n6, c6, i6, j6, k6, hq6⟩ := frac_form f6; subst hq6; have hz6 := below_trans hz5 hb6) | (go_at_call 24; refine (KC.out _ _ hz6 f6).mono ?_; rintro en7 w7 ⟨rfl, hb7⟩; have hz7 := below_trans hz6 hb7) | (go_at_call 67; refine (KH.out _).mono ?_; rintro en8 w8 ⟨rfl, hb8⟩; have hz9 := below_trans hz7 hb8))
        all_goals
          have HZ9 := Lib.hid (below_trans HB4.out hz9)
          go_wp2_with fail
          go_ret
          exact ⟨by rw [HE.out]; first | done | rfl, below_trans HB1.out HZ9.out⟩
      | true =>
        have HD : Hid (∀ x r', x < i + 1 → P.rows[x]? = some r' → rowB xs r' = true) := Lib.hid (fun x r' hx hr => by
          by_cases e : x = i
          · subst e
            rw [HRI.out] at hr
            cases hr
            rw [HROW.out]; exact ht
          · exact hd.out x r' (by omega) hr)
        have KH := Lib.hid (KH0.out true ht)
        clear ht
        go_region_held3 (fun w' => w'.cell? ⟨wo.heap.size, 0, none⟩ = some (.slice a1 xn c1) ∧ w'.cell? ⟨wo.heap.size, 1, none⟩ = some (.int .i64 sn) ∧ w'.cell? ⟨wo.heap.size, 2, none⟩ = some (.bool b) ∧ w'.cell? ⟨wo.heap.size, 3, none⟩ = some (.slice a2 n2 c2) ∧ w'.cell? ⟨wo.heap.size, 4, none⟩ = some (.slice a3 n3 c3))
          (((try dsimp only); refine ⟨?_, ?_, ?_, ?_, ?_⟩ <;> (first | exact RY.out 0 _ rfl _ (by assumption) | exact RY.out 1 _ rfl _ (by assumption) | exact RY.out 2 _ rfl _ (by assumption) | exact RY.out 3 _ rfl _ (by assumption) | exact RY.out 4 _ rfl _ (by assumption))))
          (first | (go_at_call 44; refine (entries_w).mono ?_; rintro en5 w5 ⟨⟨g5, rfl, hg5⟩, hb5'⟩; have hz5 := below_trans hz0 hb5') | (go_at_call 25; refine (KPR.out _ _ hz5 hg5).mono ?_; rintro en6 w6 ⟨⟨v6, rfl, f6⟩, hb6⟩; obtain ⟨a6, n6, c6, i6, j6, k6, hq6⟩ := frac_form f6; subst hq6; have hz6 := below_trans hz5 hb6) | (go_at_call 24; refine (KC.out _ _ hz6 f6).mono ?_; rintro en7 w7 ⟨rfl, hb7⟩; have hz7 := below_trans hz6 hb7) | (go_at_call 67; refine (KH.out _).mono ?_; rintro en8 w8 ⟨rfl, hb8⟩; have hz9 := below_trans hz7 hb8))
        all_goals
          have HZ9 := Lib.hid (below_trans HB4.out hz9)
          clear hz9
          go_wp2_with fail
          go_roundw
        all_goals first
          | exact ⟨i + 1, by omega, by go_num, HD, HZ9⟩
          | (simp [intOf]; omega)
    · have t6 : decide ((i : Int) < (rn : Int)) = false := by simp; omega
      have HE : Hid (fitsQ P xs = true) := Lib.hid (fits_yes HRB.out HLX.out HSG.out (fun x r hx hr => hd.out x r (by have := HEQ.out; omega) hr))
      go_wp2_with fail
      go_ret
      exact ⟨by rw [HE.out]; first | done | rfl, below_trans HB1.out hZ.out⟩

set_option maxRecDepth 100000 in
set_option maxHeartbeats 8000000 in
theorem rfits_w {N : Nat} {w : World} {v x : Value} {P : Pm} {xs : List Rat} (h : ProgF N w v P) (hx : ListF N w x xs) (hfit : Fit P) (hN : N ≤ 50) (hx100 : xs.length ≤ 100) (hNn : N * xs.length ≤ 1000) :
    Calls Tryz.prog 32 #[v, x] w fun e w' => e = .returned (.bool (fitsQ P xs)) ∧ Below w.heap.size w w' := by
  have HP := Lib.hid h
  have HX := Lib.hid hx
  obtain ⟨fa, fc, ga, gc, ra, rc, rfl, hz1, hz2, hB, -, hR⟩ := h
  have HBO := Lib.hid hB
  obtain ⟨xa, xc, rfl, -⟩ := hx
  have HR := Lib.hid hR
  have HFIT := Lib.hid hfit
  have HNN := Lib.hid hNn
  obtain ⟨z, hz⟩ : ∃ z, z = P.vars := ⟨_, rfl⟩
  obtain ⟨fn, hfn⟩ : ∃ n, n = P.free.length := ⟨_, rfl⟩
  obtain ⟨gn, hgn⟩ : ∃ n, n = P.goal.length := ⟨_, rfl⟩
  obtain ⟨rn, hrn⟩ : ∃ n, n = P.rows.length := ⟨_, rfl⟩
  obtain ⟨xn, hxn⟩ : ∃ n, n = xs.length := ⟨_, rfl⟩
  have h400 : rn ≤ 400 := by rw [hrn]; exact hfit.2.1
  rw [← hz] at hz1 hz2 HP ⊢
  rw [← hfn] at HP ⊢
  rw [← hgn] at HP ⊢
  rw [← hrn] at HP ⊢
  rw [← hxn] at HX hx100 HNN ⊢
  have HEQ := Lib.hid (And.intro hz (And.intro hfn (And.intro hrn hxn)))
  obtain ⟨w1, hw1⟩ : ∃ w1, w1 = w.alloc (Obj.cells #[Value.int .i64 z, Value.slice fa fn fc, Value.slice ga gn gc, Value.slice ra rn rc] 26) := ⟨_, rfl⟩
  have HB1 : Hid (Below w.heap.size w w1) := Lib.hid (by rw [hw1]; exact (Below.refl _ _).alloc (Nat.le_refl _) _)
  have HX1 : Hid (w1.heap[w.heap.size]? = some (.cells #[Value.int .i64 z, Value.slice fa fn fc, Value.slice ga gn gc, Value.slice ra rn rc] 26 (0, 0))) := Lib.hid (by rw [hw1]; exact heap_alloc_new w _)
  have HW1 := Lib.hid hw1.symm
  clear hw1 hB hR hfit hNn hz hfn hgn hrn hxn
  have RX := Lib.hid (cells_later HX1.out)
  have hb1 := Below.refl w1.heap.size w1
  have x0 := RX.out 0 _ rfl _ hb1
  have x1 := RX.out 1 _ rfl _ hb1
  have x2 := RX.out 2 _ rfl _ hb1
  have x3 := RX.out 3 _ rfl _ hb1
  have KR := Lib.hid (fun w' (hb : Below w.heap.size w w') => rright2_w (HP.out.below hb) HFIT.out)
  cases hb : rightB2 P with
  | false =>
    have HE : Hid (fitsQ P xs = false) := Lib.hid (fits_no (Or.inl hb))
    rw [right_20 hb] at KR
    clear hb
    go_enter Tryz.func32, Tryz.ntmps32
    go_wp2_with fail
    rw [HW1.out]
    refine (KR.out _ HB1.out).mono ?_
    rintro en2 w2 ⟨rfl, hb2⟩
    go_wp2_with fail
    go_ret
    exact ⟨by rw [HE.out]; first | done | rfl, below_trans HB1.out hb2⟩
  | true =>
  have HRB := Lib.hid hb
  rw [right_0 hb] at KR
  clear hb
  by_cases hl : (xn : Int) = z
  case neg =>
    have t0 : ((xn : Int) != z) = true := by simpa using hl
    have HE : Hid (fitsQ P xs = false) := Lib.hid (fits_no (Or.inr (Or.inl (fun h => hl (by rw [HEQ.out.1, HEQ.out.2.2.2]; exact h)))))
    clear hl
    go_enter Tryz.func32, Tryz.ntmps32
    go_wp2_with fail
    rw [HW1.out]
    refine (KR.out _ HB1.out).mono ?_
    rintro en2 w2 ⟨rfl, hb2⟩
    have x0 := RX.out 0 _ rfl _ hb2
    have x1 := RX.out 1 _ rfl _ hb2
    have x2 := RX.out 2 _ rfl _ hb2
    have x3 := RX.out 3 _ rfl _ hb2
    go_wp2_with fail
    go_ret
    exact ⟨by rw [HE.out]; first | done | rfl, below_trans HB1.out hb2⟩
  have t0 : ((xn : Int) != z) = false := by simpa using hl
  have HXZ := Lib.hid hl
  have HLX : Hid ((xs.length : Int) = P.vars) := Lib.hid (by rw [← HEQ.out.1, ← HEQ.out.2.2.2]; exact hl)
  have HFX : Hid (P.free.length = xn) := Lib.hid (by have h8 := (right_goal HRB.out).2.1; have h7 := HLX.out; have := HEQ.out; omega)
  clear hl
  go_enter Tryz.func32, Tryz.ntmps32
  go_wp2_with fail
  rw [HW1.out]
  refine (KR.out _ HB1.out).mono ?_
  rintro en2 w2 ⟨rfl, hb2⟩
  have x0 := RX.out 0 _ rfl _ hb2
  have x1 := RX.out 1 _ rfl _ hb2
  have x2 := RX.out 2 _ rfl _ hb2
  have x3 := RX.out 3 _ rfl _ hb2
  have HZ2 := Lib.hid hb2
  clear hb2
  go_wp2_with fail
  go_loopw [21] (fun iv wr => ∃ i : Nat, i ≤ xn ∧ iv = .int .i64 i ∧ Hid (∀ j, j < i → P.free[j]? = some true ∨ 0 ≤ cmpQ (nthQ xs j) 0) ∧ Hid (Below w1.heap.size w1 wr)) (fun iv _ => xn - (intOf iv).toNat)
  case atStart => exact ⟨0, Nat.zero_le _, rfl, Lib.hid (fun j h => absurd h (Nat.not_lt_zero j)), HZ2⟩
  case round =>
    obtain ⟨i, hi, rfl, hd, hZ⟩ := hrel
    obtain ⟨wo, rfl⟩ : ∃ wo : World, wo = wr := ⟨_, rfl⟩
    by_cases hin : i < xn
    · have t1 : decide ((i : Int) < (xn : Int)) = true := by simp; omega
      obtain ⟨q, B, off, b, a1, n1, c1, a2, n2, c2, hq, ha, hc, hf⟩ := HX.out.at hin
      subst ha
      obtain ⟨k0, k1, k2⟩ := hc wo (below_trans HB1.out hZ.out)
      obtain ⟨fb, Bf, of, hfb, hfa, hcf⟩ := HBO.out.at (i := i) (by have := HFX.out; omega)
      subst hfa
      have hfnx : Hid (fn = xn) := Lib.hid (by have := HFX.out; have := HEQ.out; omega)
      have HFB := Lib.hid hfb
      have HQ := Lib.hid (nthQ_of hq)
      have HF := Lib.hid hf
      have HCF := Lib.hid hcf
      clear hc hf hq hfb hcf
      have hil : i < fn := by have := hfnx.out; omega
      go_wp2_with ((with_reducible refine at_store ?_); refine wpList_store_var rfl _ _ _ rfl wo.heap.size rfl _ rfl _ _ (heap_alloc_new _ _) ifrac rfl frac_one ?_; intro w4 h4 hon4; refine halt ?_)
      have hb4 : Below wo.heap.size wo w4 := below_only ((Below.refl _ _).alloc (Nat.le_refl _) _) hon4 (Nat.le_refl _)
      have HZ4 := Lib.hid (below_trans hZ.out hb4)
      have y0 := cells_later h4 0 _ rfl _ (Below.refl _ _)
      have y1 := cells_later h4 1 _ rfl _ (Below.refl _ _)
      have y2 := cells_later h4 2 _ rfl _ (Below.refl _ _)
      have x0 := RX.out 0 _ rfl _ HZ4.out
      have x1 := RX.out 1 _ rfl _ HZ4.out
      have f0 := HCF.out w4 (below_trans HB1.out HZ4.out)
      clear h4 hon4 hb4 k0 k1 k2
      refine go_on ?_
      cases fb with
      | true =>
        have HD : Hid (∀ j, j < i + 1 → P.free[j]? = some true ∨ 0 ≤ cmpQ (nthQ xs j) 0) := Lib.hid (fun j hj => by
          by_cases e : j = i
          · subst e; exact Or.inl HFB.out
          · exact hd.out j (by omega))
        go_wp2_with fail
        go_roundw
        case rel => exact ⟨i + 1, by omega, by go_num, HD, HZ4⟩
        case measure => simp [intOf]; omega
      | false =>
        have K := Lib.hid (rsign_f (HF.out.below (below_trans HB1.out HZ4.out)) (by omega))
        have hc9 := cmpQ_small q 0
        obtain ⟨o, ho⟩ : ∃ o, o = cmpQ q 0 := ⟨_, rfl⟩
        rw [← ho] at K hc9
        obtain ⟨ho1, ho2⟩ := hc9
        have HO := Lib.hid ho
        clear ho
        by_cases h0 : o < 0
        · have t2 : decide (o < 0) = true := by simpa using h0
          have HE : Hid (fitsQ P xs = false) := Lib.hid (fits_no (Or.inr (Or.inr (by
            unfold sgnB
            rw [decide_eq_false_iff_not]
            intro h
            rcases h i (by have := HEQ.out; omega) with e | e
            · rw [HFB.out] at e; cases e
            · rw [HQ.out, ← HO.out] at e; omega))))
          clear h0
          go_wp2_with fail
          refine K.out.mono ?_
          rintro en5 w5 ⟨rfl, hb5⟩
          go_wp2_with fail
          go_ret
          exact ⟨by rw [HE.out]; first | done | rfl, below_trans HB1.out (below_trans HZ4.out hb5)⟩
        · have t2 : decide (o < 0) = false := by simpa using h0
          have HD : Hid (∀ j, j < i + 1 → P.free[j]? = some true ∨ 0 ≤ cmpQ (nthQ xs j) 0) := Lib.hid (fun j hj => by
            by_cases e : j = i
            · subst e; right; rw [HQ.out, ← HO.out]; omega
            · exact hd.out j (by omega))
          clear h0
          go_wp2_with fail
          refine K.out.mono ?_
          rintro en5 w5 ⟨rfl, hb5⟩
          have HZ5 := Lib.hid (below_trans HZ4.out hb5)
          go_wp2_with fail
          go_roundw
          case rel => exact ⟨i + 1, by omega, by go_num, HD, HZ5⟩
          case measure => simp [intOf]; omega
    · have t1 : decide ((i : Int) < (xn : Int)) = false := by simp; omega
      have HSG : Hid (sgnB P.free xs = true) := Lib.hid (by
        unfold sgnB
        rw [decide_eq_true_eq]
        intro j hj
        exact hd.out j (by have := HEQ.out; omega))
      have x0 := RX.out 0 _ rfl _ hZ.out
      have x1 := RX.out 1 _ rfl _ hZ.out
      have x2 := RX.out 2 _ rfl _ hZ.out
      have x3 := RX.out 3 _ rfl _ hZ.out
      have HZ3 := hZ
      go_wp2_with fail
      go_loopw [41] (fun iv wr => ∃ i : Nat, i ≤ rn ∧ iv = .int .i64 i ∧ Hid (∀ x r, x < i → P.rows[x]? = some r → rowB xs r = true) ∧ Hid (Below w1.heap.size w1 wr)) (fun iv _ => rn - (intOf iv).toNat)
      case atStart => exact ⟨0, Nat.zero_le _, rfl, Lib.hid (fun x r h => absurd h (Nat.not_lt_zero x)), HZ3⟩
      case round =>
        obtain ⟨i, hi, rfl, hd, hZ⟩ := hrel
        obtain ⟨wo, rfl⟩ : ∃ wo : World, wo = wr := ⟨_, rfl⟩
        by_cases hin : i < rn
        · have t6 : decide ((i : Int) < (rn : Int)) = true := by simp; omega
          obtain ⟨r, B, off, a1, c1, b, a2, n2, c2, a3, n3, c3, hr, ha, hlr, hfr, hz3, hz4, hc⟩ := HR.out.at (i := i) (by have := HEQ.out; omega)
          subst ha
          obtain ⟨f0, f1, f2, f3, f4⟩ := hc wo (below_trans HB1.out hZ.out)
          have HRI := Lib.hid hr
          have hrl := row_len HRB.out hr
          have hn1 : r.1.length = xn := by have := HXZ.out; have := HEQ.out; omega
          rw [hn1] at f0 hlr
          have HRL := Lib.hid hn1
          have HLR := Lib.hid hlr
          have HFR := Lib.hid hfr
          obtain ⟨sn, hsn⟩ : ∃ n, n = r.2.1 := ⟨_, rfl⟩
          rw [← hsn] at f1 hz3 hz4
          obtain ⟨q, hq⟩ : ∃ n, n = r.2.2 := ⟨_, rfl⟩
          rw [← hq] at HFR
          obtain ⟨D, hD⟩ : ∃ D, D = dotQ r.1 xs := ⟨_, rfl⟩
          have HLD : Hid (lenQ D ≤ 4002) := Lib.hid (by rw [hD]; exact len_dotG hlr HX.out (by have := HEQ.out; omega) (by have := HEQ.out; omega) (by have h8 := HNN.out; have h7 := HEQ.out.2.2.2; rw [← h7]; exact h8))
          have HROW : Hid (rowB xs r = holdsB sn (cmpQ D q)) := Lib.hid (by unfold rowB; rw [hsn, hq, hD])
          have HD0 := Lib.hid hD
          have hc9 := cmpQ_small D q
          obtain ⟨o, ho⟩ : ∃ o, o = cmpQ D q := ⟨_, rfl⟩
          rw [← ho] at HROW hc9
          obtain ⟨ho1, ho2⟩ := hc9
          have HO := Lib.hid ho
          clear hc hr hn1 hsn hq hD hlr hfr hrl ho
          go_wp2_with ((with_reducible refine at_store ?_); refine wpList_store_var rfl _ _ _ rfl wo.heap.size rfl _ rfl _ _ (heap_alloc_new _ _) irow rfl row_one ?_; intro w4 h4 hon4; refine halt ?_)
          have hb4 : Below wo.heap.size wo w4 := below_only ((Below.refl _ _).alloc (Nat.le_refl _) _) hon4 (Nat.le_refl _)
          have HB4 := Lib.hid (below_trans hZ.out hb4)
          have HW4 := Lib.hid (below_trans HB1.out HB4.out)
          have RY := Lib.hid (cells_later h4)
          have hb5 := Below.refl w4.heap.size w4
          have y0 := RY.out 0 _ rfl _ hb5
          have y1 := RY.out 1 _ rfl _ hb5
          have y2 := RY.out 2 _ rfl _ hb5
          have y3 := RY.out 3 _ rfl _ hb5
          have y4 := RY.out 4 _ rfl _ hb5
          clear h4 hon4 hb4 f0 f1 f2 f3 f4
          refine go_on ?_
          have KD := Lib.hid (fun w' (hb : Below w4.heap.size w4 w') => rdot_wG (w := w') ((by have h9 := HLR.out; exact h9 : ListF N w (.slice a1 xn c1) r.1).below (below_trans HW4.out hb)) (HX.out.below (below_trans HW4.out hb)) hN (by have := HRL.out; omega) (by have := HEQ.out; omega) (by rw [HRL.out]; exact HNN.out))
          have HDS : Hid (sumR (fun i => nthQ r.1 i * nthQ xs i) 0 (min r.1.length xs.length) = D) := Lib.hid (by rw [HD0.out]; unfold dotQ; rw [HRL.out, ← HEQ.out.2.2.2, Nat.min_self])
          rw [HDS.out] at KD
          have KH0 : Hid (∀ t, holdsB sn o = t → ∀ w' y, Below w4.heap.size w4 w' → FracV w' y D → Calls Tryz.prog 75 #[y, .int .i64 sn, .agg #[.bool b, .slice a2 n2 c2, .slice a3 n3 c3]] w' fun e w'' => e = .returned (.bool t) ∧ Below w'.heap.size w' w'') := Lib.hid (fun t ht w' y hb hy => rholds_w (n := 4096) (m := 2 * N) (hy.sz (by have := HLD.out; omega) (by have := HLD.out; omega)) ((HFR.out.below (below_trans HW4.out hb)).sz) (by omega) (by omega) (by rw [← HO.out]; exact ht))
          go_wp2_with fail
          have hz0 : Below w4.heap.size w4 w4.drew := below_drewN hb5 1
          cases ht : holdsB sn o with
          | false =>
            have HE : Hid (fitsQ P xs = false) := Lib.hid (fits_row HRI.out (by rw [HROW.out]; exact ht))
            have KH := Lib.hid (KH0.out false ht)
            clear ht
            go_region_held3 (fun w' => w'.cell? ⟨wo.heap.size, 0, none⟩ = some (.slice a1 xn c1) ∧ w'.cell? ⟨wo.heap.size, 1, none⟩ = some (.int .i64 sn) ∧ w'.cell? ⟨wo.heap.size, 2, none⟩ = some (.bool b) ∧ w'.cell? ⟨wo.heap.size, 3, none⟩ = some (.slice a2 n2 c2) ∧ w'.cell? ⟨wo.heap.size, 4, none⟩ = some (.slice a3 n3 c3))
              (((try dsimp only); refine ⟨?_, ?_, ?_, ?_, ?_⟩ <;> (first | exact RY.out 0 _ rfl _ (by assumption) | exact RY.out 1 _ rfl _ (by assumption) | exact RY.out 2 _ rfl _ (by assumption) | exact RY.out 3 _ rfl _ (by assumption) | exact RY.out 4 _ rfl _ (by assumption))))
              (first | (go_at_call 76; refine (KD.out _ hz0).mono ?_; rintro en6 w6 ⟨⟨v6, rfl, f6⟩, hb6⟩; obtain ⟨a6, n6, c6, i6, j6, k6, hq6⟩ := frac_form f6; subst hq6; have hz6 := below_trans hz0 hb6) | (go_at_call 75; refine (KH.out _ _ hz6 f6).mono ?_; rintro en8 w8 ⟨rfl, hb8⟩; have hz9 := below_trans hz6 hb8))
            all_goals
              have HZ9 := Lib.hid (below_trans HB4.out hz9)
              go_wp2_with fail
              go_ret
              exact ⟨by rw [HE.out]; first | done | rfl, below_trans HB1.out HZ9.out⟩
          | true =>
            have HD : Hid (∀ x r', x < i + 1 → P.rows[x]? = some r' → rowB xs r' = true) := Lib.hid (fun x r' hx hr => by
              by_cases e : x = i
              · subst e
                rw [HRI.out] at hr
                cases hr
                rw [HROW.out]; exact ht
              · exact hd.out x r' (by omega) hr)
            have KH := Lib.hid (KH0.out true ht)
            clear ht
            go_region_held3 (fun w' => w'.cell? ⟨wo.heap.size, 0, none⟩ = some (.slice a1 xn c1) ∧ w'.cell? ⟨wo.heap.size, 1, none⟩ = some (.int .i64 sn) ∧ w'.cell? ⟨wo.heap.size, 2, none⟩ = some (.bool b) ∧ w'.cell? ⟨wo.heap.size, 3, none⟩ = some (.slice a2 n2 c2) ∧ w'.cell? ⟨wo.heap.size, 4, none⟩ = some (.slice a3 n3 c3))
              (((try dsimp only); refine ⟨?_, ?_, ?_, ?_, ?_⟩ <;> (first | exact RY.out 0 _ rfl _ (by assumption) | exact RY.out 1 _ rfl _ (by assumption) | exact RY.out 2 _ rfl _ (by assumption) | exact RY.out 3 _ rfl _ (by assumption) | exact RY.out 4 _ rfl _ (by assumption))))
              (first | (go_at_call 76; refine (KD.out _ hz0).mono ?_; rintro en6 w6 ⟨⟨v6, rfl, f6⟩, hb6⟩; obtain ⟨a6, n6, c6, i6, j6, k6, hq6⟩ := frac_form f6; subst hq6; have hz6 := below_trans hz0 hb6) | (go_at_call 75; refine (KH.out _ _ hz6 f6).mono ?_; rintro en8 w8 ⟨rfl, hb8⟩; have hz9 := below_trans hz6 hb8))
            all_goals
              have HZ9 := Lib.hid (below_trans HB4.out hz9)
              clear hz9
              go_wp2_with fail
              go_roundw
            all_goals first
              | exact ⟨i + 1, by omega, by go_num, HD, HZ9⟩
              | (simp [intOf]; omega)
        · have t6 : decide ((i : Int) < (rn : Int)) = false := by simp; omega
          have HE : Hid (fitsQ P xs = true) := Lib.hid (fits_yes HRB.out HLX.out HSG.out (fun x r hx hr => hd.out x r (by have := HEQ.out; omega) hr))
          go_wp2_with fail
          go_ret
          exact ⟨by rw [HE.out]; first | done | rfl, below_trans HB1.out hZ.out⟩
end Go.Proofs.YtlaphdlocchagaaGreat
