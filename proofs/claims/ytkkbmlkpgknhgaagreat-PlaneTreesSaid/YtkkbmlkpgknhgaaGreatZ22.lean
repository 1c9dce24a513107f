import Derived.Test.YtkkbmlkpgknhgaaGreatZ21
import Derived.Test.YtkkbmlkpgknhgaaGreatZ17
import Derived.Deep.RegionHeld3
import Derived.Deep.DrawnRows
set_option maxRecDepth 100000
set_option maxHeartbeats 16000000
namespace Go.Proofs.YtkkbmlkpgknhgaaGreat
open Go.RowKit
attribute [local go_sem ↓] Go.wp_at_zero Go.wp_at_succ
variable {N : Nat} {P : Pm} {c v x : Value} {goal xs ys zs : List Rat} {w w' : World}
def l3q (xs : List Rat) (r : List Rat × Int × Rat) : Bool := h7q r.2.1 (z7q (m9q r.1 xs) 0)
def u5q (P : Pm) (xs : List Rat) : Bool := decide ((xs.length : Int) = P.vars) && l4q P.free xs && P.rows.all (l3q xs) && decide (0 < z7q (y5q P xs) 0)
theorem o6q (h : ¬ (xs.length : Int) = P.vars ∨ l4q P.free xs = false ∨ ¬ 0 < z7q (y5q P xs) 0) : u5q P xs = false := by
 unfold u5q
 rcases h with h | h | h <;> simp [h]
theorem y0w {i : Nat} {r : List Rat × Int × Rat} (hr : P.rows[i]? = some r) (h : l3q xs r = false) : u5q P xs = false := by
 unfold u5q
 have e : P.rows.all (l3q xs) = false := by
  rw [Bool.eq_false_iff]
  intro ha
  rw [List.all_eq_true] at ha
  rw [ha r (List.mem_of_getElem? hr)] at h
  cases h
 simp [e]
theorem y0h (h2 : (xs.length : Int) = P.vars) (h3 : l4q P.free xs = true) (h4 : ∀ i r, i < P.rows.length → P.rows[i]? = some r → l3q xs r = true) (h5 : 0 < z7q (y5q P xs) 0) : u5q P xs = true := by
 unfold u5q
 have e : P.rows.all (l3q xs) = true := by
  rw [List.all_eq_true]
  intro r hr
  obtain ⟨i, hi, rfl⟩ := List.mem_iff_getElem.1 hr
  exact h4 i _ hi (List.getElem?_eq_getElem hi)
 simp [h2, h3, e, h5]
theorem x8w (h1 : j7q P = true) (h2 : (xs.length : Int) = P.vars) : y5q P xs = m9q P.goal xs := by
 unfold y5q; rw [if_pos ⟨h1, h2⟩]
theorem z8w {n : Nat} {P : Rat} (hx : SzF n w x P) (hn : n ≤ 4096) : Calls Tryz.prog 48 #[x] w fun e w' => e = .returned (.int .i64 (z7q P 0)) ∧ Below w.heap.size w w' := by
 obtain ⟨b, l, m, h1, rfl, hl1⟩ := hx
 exact v7v h1 (by omega)
theorem h8q (h : y9q N w v P) (hx : z1q N w x xs) (hn : xs.length ≤ 100) (hN : N * xs.length ≤ 1000) : j5q (y5q P xs) ≤ 4002 := by
 unfold y5q
 split
 ·
  rename_i hc
  obtain ⟨fa, fc, ga, gc, ra, rc, rfl, -, -, -, hG, -⟩ := h
  exact q6z hG hx (by have := (j2q hc.1).1; omega) hn hN
 ·
  rw [z2j]; omega

theorem y7y (h : y9q N w v P) (hx : z1q N w x xs) (hfit : Fit P) (hrb : j7q P = true) (hv100 : P.vars ≤ 100) (hGn : N * P.goal.length ≤ 1000) (hN : N ≤ 50) (hx100 : xs.length ≤ 100) (hNn : N * xs.length ≤ 1000) :
  Calls Tryz.prog 42 #[v, x] w fun e w' => e = .returned (.bool (u5q P xs)) ∧ Below w.heap.size w w' := by
 have HP0 := hdd h
 have HX0 := hdd hx
 have HP := hdd h
 have HX := hdd hx
 obtain ⟨fa, fc, ga, gc, ra, rc, rfl, hz1, hz2, hB, -, hR⟩ := h
 have HBO := hdd hB
 obtain ⟨xa, xc, rfl, -⟩ := hx
 have HR := hdd hR
 have HFIT := hdd hfit
 have HNN := hdd hNn
 obtain ⟨z, hz⟩ := qx (P.vars)
 obtain ⟨fn, hfn⟩ := qx (P.free.length)
 obtain ⟨gn, hgn⟩ := qx (P.goal.length)
 obtain ⟨rn, hrn⟩ := qx (P.rows.length)
 obtain ⟨xn, hxn⟩ := qx (xs.length)
 have h400 : rn ≤ 400 := by rw [hrn]; exact hfit.2.1
 rw [← hz] at hz1 hz2 HP ⊢
 rw [← hfn] at HP ⊢
 rw [← hgn] at HP ⊢
 rw [← hrn] at HP ⊢
 rw [← hxn] at HX hx100 HNN ⊢
 have HEQ := hdd (And.intro hz (And.intro hfn (And.intro hrn hxn)))
 have HGN := hdd hgn
 obtain ⟨w1, hw1, HB1, HX1⟩ := al1 w #[.int .i64 z, .slice fa fn fc, .slice ga gn gc, .slice ra rn rc] 26
 have HW1 := hdd hw1.symm
 clear hw1 hB hR hfit hNn hz hfn hgn hrn hxn
 have RX := hdd (q1q HX1.o)
 have hb1 := Below.refl w1.heap.size w1
 obtain ⟨x0, x1, x2, x3⟩ := qz RX.o hb1
 have HRB := hdd hrb
 have HSZS : Hi (w9q N P xs) := hdd ⟨HFIT.o, hv100, hN, hGn, by have := HEQ.o; omega⟩
 have HVL : Hi (j5q (y5q P xs) ≤ 4002) := hdd (h8q HP0.o HX0.o (by have := HEQ.o; omega) (by have h8 := HNN.o; rw [HEQ.o.2.2.2] at h8; exact h8))
 clear hrb hv100 hGn
 by_cases hl : (xn : Int) = z
 case neg =>
  have t0 : ((xn : Int) != z) = true := by simpa using hl
  have HE : Hi (u5q P xs = false) := hdd (o6q (Or.inl (fun h => hl (by rw [HEQ.o.1, HEQ.o.2.2.2]; exact h))))
  clear hl
  go_enter Tryz.func42, Tryz.ntmps42
  go_wp2_with fail
  rw [HW1.o]
  go_ret
  exact ⟨by rw [HE.o]; first | done | rfl, HB1.o⟩
 have t0 : ((xn : Int) != z) = false := by simpa using hl
 have HXZ := hdd hl
 have HLX : Hi ((xs.length : Int) = P.vars) := hdd (by rw [← HEQ.o.1, ← HEQ.o.2.2.2]; exact hl)
 have HFX : Hi (P.free.length = xn) := hdd (by have h8 := (j2q HRB.o).2.1; have h7 := HLX.o; have := HEQ.o; omega)
 clear hl
 go_enter Tryz.func42, Tryz.ntmps42
 go_wp2_with fail
 rw [HW1.o]
 have HZ2 := hdd hb1
 have KS := hdd (z6x (HP.o.below HB1.o) (HX.o.below HB1.o |> fun h => (by have := HEQ.o.2.2.2; subst this; exact h : z1q N w1 (.slice xa xn xc) xs)) (j2q HRB.o).2.1 HLX.o (by have := HEQ.o; omega))
 refine KS.o.mono ?_
 rintro en3 w3 ⟨he3, hb3⟩
 have HZ3 := hdd (q0q HZ2.o hb3)
 clear hb3 x0 x1 x2 x3
 obtain ⟨x0, x1, x2, x3⟩ := qz RX.o HZ3.o
 cases hs : l4q P.free xs with
 | false =>
  rw [hs] at he3
  subst he3
  have HE : Hi (u5q P xs = false) := hdd (o6q (Or.inr (Or.inl hs)))
  clear hs
  go_wp2_with fail
  go_ret
  exact ⟨by rw [HE.o]; first | done | rfl, q0q HB1.o HZ3.o⟩
 | true =>
 rw [hs] at he3
 subst he3
 have HSG := hdd hs
 clear hs
 go_wp2_with fail
 go_loopw [21] (fun iv wr => ∃ i : Nat, i ≤ rn ∧ iv = .int .i64 i ∧ Hi (∀ x r, x < i → P.rows[x]? = some r → l3q xs r = true) ∧ Hi (Below w1.heap.size w1 wr)) (fun iv _ => rn - (intOf iv).toNat)
 case atStart => exact ⟨0, Nat.zero_le _, rfl, hdd (fun x r h => absurd h (Nat.not_lt_zero x)), HZ3⟩
 case round =>
  obtain ⟨i, hi, rfl, hd, hZ⟩ := hrel
  obtain ⟨wo, rfl⟩ : ∃ wo : World, wo = wr := ⟨_, rfl⟩
  by_cases hin : i < rn
  ·
   have t6 : decide ((i : Int) < (rn : Int)) = true := by simp; omega
   obtain ⟨r, B, off, a1, c1, b, a2, n2, c2, a3, n3, c3, hr, ha, hlr, hfr, hz3, hz4, hc⟩ := HR.o.at (i := i) (by have := HEQ.o; omega)
   subst ha
   obtain ⟨f0, f1, f2, f3, f4⟩ := hc wo (q0q HB1.o hZ.o)
   have HRI := hdd hr
   have hrl := r2q HRB.o hr
   have hn1 : r.1.length = xn := by have := HXZ.o; have := HEQ.o; omega
   rw [hn1] at f0 hlr
   have HRL := hdd hn1
   have HLR := hdd hlr
   have HFR := hdd hfr
   obtain ⟨sn, hsn⟩ := qx (r.2.1)
   rw [← hsn] at f1 hz3 hz4
   obtain ⟨q, hq⟩ := qx (r.2.2)
   rw [← hq] at HFR
   obtain ⟨D, hD⟩ := qx (m9q r.1 xs)
   have HLD : Hi (j5q D ≤ 4002) := hdd (by rw [hD]; exact q6z hlr HX.o (by have := HEQ.o; omega) (by have := HEQ.o; omega) (by have h8 := HNN.o; have h7 := HEQ.o.2.2.2; rw [← h7]; exact h8))
   have HROW : Hi (l3q xs r = h7q sn (z7q D 0)) := hdd (by unfold l3q; rw [hsn, hD])
   have HD0 := hdd hD
   have hc9 := m8q D 0
   obtain ⟨o, ho⟩ := qx (z7q D 0)
   rw [← ho] at HROW hc9
   obtain ⟨ho1, ho2⟩ := hc9
   have HO := hdd ho
   clear hc hr hn1 hsn hq hD hlr hfr hrl ho
   go_wp2_with ((with_reducible refine j9q ?_); refine q6q rfl _ _ _ rfl wo.heap.size rfl _ rfl _ _ (heap_alloc_new _ _) w0q rfl f0q ?_; intro w4 h4 hon4; refine y0q ?_)
   have hb4 : Below wo.heap.size wo w4 := q4q ((qb).alloc qm _) hon4 qm
   have HB4 := hdd (q0q hZ.o hb4)
   have HW4 := hdd (q0q HB1.o HB4.o)
   have RY := hdd (q1q h4)
   have hb5 := Below.refl w4.heap.size w4
   have y0 := RY.o 0 _ rfl _ hb5
   have y1 := RY.o 1 _ rfl _ hb5
   have y2 := RY.o 2 _ rfl _ hb5
   have y3 := RY.o 3 _ rfl _ hb5
   have y4 := RY.o 4 _ rfl _ hb5
   clear h4 hon4 hb4 f0 f1 f2 f3 f4
   refine z2q ?_
   have KPR := hdd (fun w' g (hb : Below w4.heap.size w4 w') (hg : w'.cell? ⟨g, 0, none⟩ = some (.slice a1 xn c1)) => j7x (w := w') hg (HLR.o.below (q0q HW4.o hb)) (HX.o.below (q0q HW4.o hb)) qm hN hx100 HNN.o)
   have HDS : Hi (j8q (fun i => q9q r.1 i * q9q xs i) 0 xn = D) := hdd (by rw [HD0.o]; unfold m9q; rw [← HEQ.o.2.2.2])
   rw [HDS.o] at KPR
   have KC := hdd (fun w' y (hb : Below w4.heap.size w4 w') (hy : j3q w' y D) => j1k (w := w') (hy.inF (by have := HLD.o; omega)))
   rw [← HO.o] at KC
   have KH0 : Hi (∀ t, h7q sn o = t → ∀ w', Calls Tryz.prog 76 #[.int .i64 sn, .int .i64 o] w' fun e w'' => e = .returned (.bool t) ∧ Below w'.heap.size w' w'') := hdd (fun t ht w' => v5w ht)
   go_wp2_with fail
   have hz0 : Below w4.heap.size w4 w4.drew := q5q hb5 1
   cases ht : h7q sn o with
   | false =>
    have HE : Hi (u5q P xs = false) := hdd (y0w HRI.o (by rw [HROW.o]; exact ht))
    have KH := hdd (KH0.o false ht)
    clear ht
    go_region_held3 (fun w' => w'.cell? ⟨wo.heap.size, 0, none⟩ = some (.slice a1 xn c1) ∧ w'.cell? ⟨wo.heap.size, 1, none⟩ = some (.int .i64 sn) ∧ w'.cell? ⟨wo.heap.size, 2, none⟩ = some (.bool b) ∧ w'.cell? ⟨wo.heap.size, 3, none⟩ = some (.slice a2 n2 c2) ∧ w'.cell? ⟨wo.heap.size, 4, none⟩ = some (.slice a3 n3 c3))
     (((try dsimp only); refine ⟨?_, ?_, ?_, ?_, ?_⟩ <;> (first | exact RY.o _ _ rfl _ (by assumption))))
     (first | (go_at_call 21; refine (q1k).mono ?_; rintro en5 w5 ⟨⟨g5, rfl, hg5⟩, hb5'⟩; have hz5 := q0q hz0 hb5') | (go_at_call 70; refine (KPR.o _ _ hz5 hg5).mono ?_; rintro en6 w6 ⟨⟨v6, rfl, f6⟩, hb6⟩; obtain ⟨a6, n6, c6, i6, j6, k6, hq6⟩ := q8q f6; subst hq6; have hz6 := q0q hz5 hb6) | (go_at_call 77; refine (KC.o _ _ hz6 f6).mono ?_; rintro en7 w7 ⟨rfl, hb7⟩; have hz7 := q0q hz6 hb7) | (go_at_call 76; refine (KH.o _).mono ?_; rintro en8 w8 ⟨rfl, hb8⟩; have hz9 := q0q hz7 hb8))
    all_goals
     have HZ9 := hdd (q0q HB4.o hz9)
     go_wp2_with fail
     go_ret
     exact ⟨by rw [HE.o]; first | done | rfl, q0q HB1.o HZ9.o⟩
   | true =>
    have HD : Hi (∀ x r', x < i + 1 → P.rows[x]? = some r' → l3q xs r' = true) := hdd (fun x r' hx hr => by
     by_cases e : x = i
     ·
      subst e
      rw [HRI.o] at hr
      cases hr
      rw [HROW.o]; exact ht
     ·
      exact hd.o x r' (by omega) hr)
    have KH := hdd (KH0.o true ht)
    clear ht
    go_region_held3 (fun w' => w'.cell? ⟨wo.heap.size, 0, none⟩ = some (.slice a1 xn c1) ∧ w'.cell? ⟨wo.heap.size, 1, none⟩ = some (.int .i64 sn) ∧ w'.cell? ⟨wo.heap.size, 2, none⟩ = some (.bool b) ∧ w'.cell? ⟨wo.heap.size, 3, none⟩ = some (.slice a2 n2 c2) ∧ w'.cell? ⟨wo.heap.size, 4, none⟩ = some (.slice a3 n3 c3))
     (((try dsimp only); refine ⟨?_, ?_, ?_, ?_, ?_⟩ <;> (first | exact RY.o _ _ rfl _ (by assumption))))
     (first | (go_at_call 21; refine (q1k).mono ?_; rintro en5 w5 ⟨⟨g5, rfl, hg5⟩, hb5'⟩; have hz5 := q0q hz0 hb5') | (go_at_call 70; refine (KPR.o _ _ hz5 hg5).mono ?_; rintro en6 w6 ⟨⟨v6, rfl, f6⟩, hb6⟩; obtain ⟨a6, n6, c6, i6, j6, k6, hq6⟩ := q8q f6; subst hq6; have hz6 := q0q hz5 hb6) | (go_at_call 77; refine (KC.o _ _ hz6 f6).mono ?_; rintro en7 w7 ⟨rfl, hb7⟩; have hz7 := q0q hz6 hb7) | (go_at_call 76; refine (KH.o _).mono ?_; rintro en8 w8 ⟨rfl, hb8⟩; have hz9 := q0q hz7 hb8))
    all_goals
     have HZ9 := hdd (q0q HB4.o hz9)
     clear hz9
     go_wp2_with fail
     go_roundw
    all_goals first
     | exact ⟨i + 1, by omega, by go_num, HD, HZ9⟩
     | (simp [intOf]; omega)
  ·
   have t6 : decide ((i : Int) < (rn : Int)) = false := by simp; omega
   have HRW : Hi (∀ i r, i < P.rows.length → P.rows[i]? = some r → l3q xs r = true) := hdd (fun x r hx hr => hd.o x r (by have := HEQ.o; omega) hr)
   obtain ⟨x0, x1, x2, x3⟩ := qz RX.o hZ.o
   have KV := hdd (j4v (HP0.o.below (q0q HB1.o hZ.o)) (HX0.o.below (q0q HB1.o hZ.o)) HSZS.o)
   rw [← HEQ.o.1, ← HEQ.o.2.1, ← HEQ.o.2.2.1, ← HEQ.o.2.2.2, ← HGN.o] at KV
   obtain ⟨V, hV⟩ := qx (y5q P xs)
   have HVV := hdd hV
   rw [← hV] at KV
   clear hV
   go_wp2_with fail
   refine KV.o.mono ?_
   rintro en5 w5 ⟨⟨v5, rfl, f5⟩, hb5⟩
   obtain ⟨a5, n5, c5, i5, j5, k5, hq5⟩ := q8q f5
   subst hq5
   have K9 := hdd (j1k (f5.inF (by have h8 := HVL.o; rw [← HVV.o] at h8; omega)))
   have HZ5 := hdd (q0q hZ.o hb5)
   obtain ⟨o, ho⟩ := qx (z7q V 0)
   have HO := hdd ho
   rw [← ho] at K9
   clear f5 hb5 ho x0 x1 x2 x3
   go_wp2_with fail
   refine K9.o.mono ?_
   rintro en6 w6 ⟨rfl, hb6⟩
   have HZ6 := hdd (q0q HZ5.o hb6)
   clear hb6
   by_cases h0 : 0 < o
   ·
    have u : decide (0 < o) = true := by simpa using h0
    have HE : Hi (u5q P xs = true) := hdd (y0h HLX.o HSG.o HRW.o (by rw [← HVV.o, ← HO.o]; exact h0))
    clear h0
    go_wp2_with fail
    go_ret
    exact ⟨by rw [HE.o]; first | done | rfl, q0q HB1.o HZ6.o⟩
   ·
    have u : decide (0 < o) = false := by simpa using h0
    have HE : Hi (u5q P xs = false) := hdd (o6q (Or.inr (Or.inr (by rw [← HVV.o, ← HO.o]; exact h0))))
    clear h0
    go_wp2_with fail
    go_ret
    exact ⟨by rw [HE.o]; first | done | rfl, q0q HB1.o HZ6.o⟩

theorem v6h (h : y9q N w v P) (hx : z1q N w x xs) (hfit : Fit P) (hrb : j7q P = true) (hv100 : P.vars ≤ 100) (hGn : N * P.goal.length ≤ 1000) (hN : N ≤ 50) (hx100 : xs.length ≤ 100) (hNn : N * xs.length ≤ 1000) :
  Calls Tryz.prog 49 #[v, x] w fun e w' => e = .returned (.bool (u5q P xs)) ∧ Below w.heap.size w w' := by
 have HP0 := hdd h
 have HX0 := hdd hx
 have HP := hdd h
 have HX := hdd hx
 obtain ⟨fa, fc, ga, gc, ra, rc, rfl, hz1, hz2, hB, hGL, hR⟩ := h
 have HGL := hdd hGL
 have HBO := hdd hB
 obtain ⟨xa, xc, rfl, -⟩ := hx
 have HR := hdd hR
 have HFIT := hdd hfit
 have HNN := hdd hNn
 obtain ⟨z, hz⟩ := qx (P.vars)
 obtain ⟨fn, hfn⟩ := qx (P.free.length)
 obtain ⟨gn, hgn⟩ := qx (P.goal.length)
 obtain ⟨rn, hrn⟩ := qx (P.rows.length)
 obtain ⟨xn, hxn⟩ := qx (xs.length)
 have h400 : rn ≤ 400 := by rw [hrn]; exact hfit.2.1
 rw [← hz] at hz1 hz2 HP ⊢
 rw [← hfn] at HP ⊢
 rw [← hgn] at HP ⊢
 rw [← hrn] at HP ⊢
 rw [← hxn] at HX hx100 HNN ⊢
 have HEQ := hdd (And.intro hz (And.intro hfn (And.intro hrn hxn)))
 have HGN := hdd hgn
 obtain ⟨w1, hw1, HB1, HX1⟩ := al1 w #[.int .i64 z, .slice fa fn fc, .slice ga gn gc, .slice ra rn rc] 26
 have HW1 := hdd hw1.symm
 clear hGL hw1 hB hR hfit hNn hz hfn hgn hrn hxn
 have RX := hdd (q1q HX1.o)
 have hb1 := Below.refl w1.heap.size w1
 obtain ⟨x0, x1, x2, x3⟩ := qz RX.o hb1
 have HRB := hdd hrb
 have HSZS : Hi (w9q N P xs) := hdd ⟨HFIT.o, hv100, hN, hGn, by have := HEQ.o; omega⟩
 have HVL : Hi (j5q (y5q P xs) ≤ 4002) := hdd (h8q HP0.o HX0.o (by have := HEQ.o; omega) (by have h8 := HNN.o; rw [HEQ.o.2.2.2] at h8; exact h8))
 clear hrb hv100 hGn
 by_cases hl : (xn : Int) = z
 case neg =>
  have t0 : ((xn : Int) != z) = true := by simpa using hl
  have HE : Hi (u5q P xs = false) := hdd (o6q (Or.inl (fun h => hl (by rw [HEQ.o.1, HEQ.o.2.2.2]; exact h))))
  clear hl
  go_enter Tryz.func49, Tryz.ntmps49
  go_wp2_with fail
  rw [HW1.o]
  go_ret
  exact ⟨by rw [HE.o]; first | done | rfl, HB1.o⟩
 have t0 : ((xn : Int) != z) = false := by simpa using hl
 have HXZ := hdd hl
 have HLX : Hi ((xs.length : Int) = P.vars) := hdd (by rw [← HEQ.o.1, ← HEQ.o.2.2.2]; exact hl)
 have HFX : Hi (P.free.length = xn) := hdd (by have h8 := (j2q HRB.o).2.1; have h7 := HLX.o; have := HEQ.o; omega)
 clear hl
 go_enter Tryz.func49, Tryz.ntmps49
 go_wp2_with fail
 rw [HW1.o]
 have HZ2 := hdd hb1
 go_loopw [16] (fun iv wr => ∃ i : Nat, i ≤ xn ∧ iv = .int .i64 i ∧ Hi (∀ j, j < i → P.free[j]? = some true ∨ 0 ≤ z7q (q9q xs j) 0) ∧ Hi (Below w1.heap.size w1 wr)) (fun iv _ => xn - (intOf iv).toNat)
 case atStart => exact ⟨0, Nat.zero_le _, rfl, hdd (fun j h => absurd h (Nat.not_lt_zero j)), HZ2⟩
 case round =>
  obtain ⟨i, hi, rfl, hd, hZ⟩ := hrel
  obtain ⟨wo, rfl⟩ : ∃ wo : World, wo = wr := ⟨_, rfl⟩
  by_cases hin : i < xn
  ·
   have t1 : decide ((i : Int) < (xn : Int)) = true := by simp; omega
   obtain ⟨q, B, off, b, a1, n1, c1, a2, n2, c2, hq, ha, hc, hf⟩ := HX.o.at hin
   subst ha
   obtain ⟨k0, k1, k2⟩ := hc wo (q0q HB1.o hZ.o)
   obtain ⟨fb, Bf, of, hfb, hfa, hcf⟩ := HBO.o.at (i := i) (by have := HFX.o; omega)
   subst hfa
   have hfnx : Hi (fn = xn) := hdd (by have := HFX.o; have := HEQ.o; omega)
   have HFB := hdd hfb
   have HQ := hdd (v9q hq)
   have HF := hdd hf
   have HCF := hdd hcf
   clear hc hf hq hfb hcf
   have hil : i < fn := by have := hfnx.o; omega
   go_wp2_with ((with_reducible refine j9q ?_); refine q6q rfl _ _ _ rfl wo.heap.size rfl _ rfl _ _ (heap_alloc_new _ _) v0q rfl x3q ?_; intro w4 h4 hon4; refine y0q ?_)
   have hb4 : Below wo.heap.size wo w4 := q4q ((qb).alloc qm _) hon4 qm
   have HZ4 := hdd (q0q hZ.o hb4)
   have y0 := q1q h4 0 _ rfl _ qb
   have y1 := q1q h4 1 _ rfl _ qb
   have y2 := q1q h4 2 _ rfl _ qb
   have x0 := RX.o 0 _ rfl _ HZ4.o
   have x1 := RX.o 1 _ rfl _ HZ4.o
   have f0 := HCF.o w4 (q0q HB1.o HZ4.o)
   clear h4 hon4 hb4 k0 k1 k2
   refine z2q ?_
   cases fb with
   | true =>
    have HD : Hi (∀ j, j < i + 1 → P.free[j]? = some true ∨ 0 ≤ z7q (q9q xs j) 0) := hdd (fun j hj => by
     by_cases e : j = i
     ·
      subst e; exact Or.inl HFB.o
     ·
      exact hd.o j (by omega))
    go_wp2_with fail
    go_roundw
    case rel => exact ⟨i + 1, by omega, by go_num, HD, HZ4⟩
    case measure => simp [intOf]; omega
   | false =>
    have K := hdd (z8k (HF.o.below (q0q HB1.o HZ4.o)) (by omega))
    have hc9 := m8q q 0
    obtain ⟨o, ho⟩ := qx (z7q q 0)
    rw [← ho] at K hc9
    obtain ⟨ho1, ho2⟩ := hc9
    have HO := hdd ho
    clear ho
    by_cases h0 : o < 0
    ·
     have t2 : decide (o < 0) = true := by simpa using h0
     have HE : Hi (u5q P xs = false) := hdd (o6q (Or.inr (Or.inl (by
      unfold l4q
      rw [decide_eq_false_iff_not]
      intro h
      rcases h i (by have := HEQ.o; omega) with e | e
      ·
       rw [HFB.o] at e; cases e
      ·
       rw [HQ.o, ← HO.o] at e; omega))))
     clear h0
     go_wp2_with fail
     refine K.o.mono ?_
     rintro en5 w5 ⟨rfl, hb5⟩
     go_wp2_with fail
     go_ret
     exact ⟨by rw [HE.o]; first | done | rfl, q0q HB1.o (q0q HZ4.o hb5)⟩
    ·
     have t2 : decide (o < 0) = false := by simpa using h0
     have HD : Hi (∀ j, j < i + 1 → P.free[j]? = some true ∨ 0 ≤ z7q (q9q xs j) 0) := hdd (fun j hj => by
      by_cases e : j = i
      ·
       subst e; right; rw [HQ.o, ← HO.o]; omega
      ·
       exact hd.o j (by omega))
     clear h0
     go_wp2_with fail
     refine K.o.mono ?_
     rintro en5 w5 ⟨rfl, hb5⟩
     have HZ5 := hdd (q0q HZ4.o hb5)
     go_wp2_with fail
     go_roundw
     case rel => exact ⟨i + 1, by omega, by go_num, HD, HZ5⟩
     case measure => simp [intOf]; omega
  ·
   have t1 : decide ((i : Int) < (xn : Int)) = false := by simp; omega
   have HSG : Hi (l4q P.free xs = true) := hdd (by
    unfold l4q
    rw [decide_eq_true_eq]
    intro j hj
    exact hd.o j (by have := HEQ.o; omega))
   obtain ⟨x0, x1, x2, x3⟩ := qz RX.o hZ.o
   have HZ3 := hZ
   go_wp2_with fail
   go_loopw [36] (fun iv wr => ∃ i : Nat, i ≤ rn ∧ iv = .int .i64 i ∧ Hi (∀ x r, x < i → P.rows[x]? = some r → l3q xs r = true) ∧ Hi (Below w1.heap.size w1 wr)) (fun iv _ => rn - (intOf iv).toNat)
   case atStart => exact ⟨0, Nat.zero_le _, rfl, hdd (fun x r h => absurd h (Nat.not_lt_zero x)), HZ3⟩
   case round =>
    obtain ⟨i, hi, rfl, hd, hZ⟩ := hrel
    obtain ⟨wo, rfl⟩ : ∃ wo : World, wo = wr := ⟨_, rfl⟩
    by_cases hin : i < rn
    ·
     have t6 : decide ((i : Int) < (rn : Int)) = true := by simp; omega
     obtain ⟨r, B, off, a1, c1, b, a2, n2, c2, a3, n3, c3, hr, ha, hlr, hfr, hz3, hz4, hc⟩ := HR.o.at (i := i) (by have := HEQ.o; omega)
     subst ha
     obtain ⟨f0, f1, f2, f3, f4⟩ := hc wo (q0q HB1.o hZ.o)
     have HRI := hdd hr
     have hrl := r2q HRB.o hr
     have hn1 : r.1.length = xn := by have := HXZ.o; have := HEQ.o; omega
     rw [hn1] at f0 hlr
     have HRL := hdd hn1
     have HLR := hdd hlr
     have HFR := hdd hfr
     obtain ⟨sn, hsn⟩ := qx (r.2.1)
     rw [← hsn] at f1 hz3 hz4
     obtain ⟨q, hq⟩ := qx (r.2.2)
     rw [← hq] at HFR
     obtain ⟨D, hD⟩ := qx (m9q r.1 xs)
     have HLD : Hi (j5q D ≤ 4002) := hdd (by rw [hD]; exact q6z hlr HX.o (by have := HEQ.o; omega) (by have := HEQ.o; omega) (by have h8 := HNN.o; have h7 := HEQ.o.2.2.2; rw [← h7]; exact h8))
     have HROW : Hi (l3q xs r = h7q sn (z7q D 0)) := hdd (by unfold l3q; rw [hsn, hD])
     have HD0 := hdd hD
     have hc9 := m8q D 0
     obtain ⟨o, ho⟩ := qx (z7q D 0)
     rw [← ho] at HROW hc9
     obtain ⟨ho1, ho2⟩ := hc9
     have HO := hdd ho
     clear hc hr hn1 hsn hq hD hlr hfr hrl ho
     go_wp2_with ((with_reducible refine j9q ?_); refine q6q rfl _ _ _ rfl wo.heap.size rfl _ rfl _ _ (heap_alloc_new _ _) w0q rfl f0q ?_; intro w4 h4 hon4; refine y0q ?_)
     have hb4 : Below wo.heap.size wo w4 := q4q ((qb).alloc qm _) hon4 qm
     have HB4 := hdd (q0q hZ.o hb4)
     have HW4 := hdd (q0q HB1.o HB4.o)
     have RY := hdd (q1q h4)
     have hb5 := Below.refl w4.heap.size w4
     have y0 := RY.o 0 _ rfl _ hb5
     have y1 := RY.o 1 _ rfl _ hb5
     have y2 := RY.o 2 _ rfl _ hb5
     have y3 := RY.o 3 _ rfl _ hb5
     have y4 := RY.o 4 _ rfl _ hb5
     clear h4 hon4 hb4 f0 f1 f2 f3 f4
     refine z2q ?_
     have KD := hdd (fun w' (hb : Below w4.heap.size w4 w') => j9h (w := w') ((by have h9 := HLR.o; exact h9 : z1q N w (.slice a1 xn c1) r.1).below (q0q HW4.o hb)) (HX.o.below (q0q HW4.o hb)) hN (by have := HRL.o; omega) (by have := HEQ.o; omega) (by rw [HRL.o]; exact HNN.o))
     have HDS : Hi (j8q (fun i => q9q r.1 i * q9q xs i) 0 (min r.1.length xs.length) = D) := hdd (by rw [HD0.o]; unfold m9q; rw [HRL.o, ← HEQ.o.2.2.2, Nat.min_self])
     rw [HDS.o] at KD
     have KW := hdd (fun w' => q0v (w := w'))
     obtain ⟨U0, hU0⟩ := qx ((0 : Rat))
     rw [← hU0] at KW
     have KH0 : Hi (∀ t, h7q sn o = t → ∀ w' y y0, Below w4.heap.size w4 w' → j3q w' y D → j3q w' y0 U0 → Calls Tryz.prog 79 #[y, .int .i64 sn, y0] w' fun e w'' => e = .returned (.bool t) ∧ Below w'.heap.size w' w'') := hdd (fun t ht w' y y0 hb hy hy0 => y7h (n := 4096) (m := 4096) (hy.sz (by have := HLD.o; omega) (by have := HLD.o; omega)) (hy0.sz (by rw [hU0]; exact q8y.2.2) (by rw [hU0]; exact q8y.2.2)) (by omega) (by omega) (by rw [hU0, ← HO.o]; exact ht))
     clear hU0
     go_wp2_with fail
     have hz0 : Below w4.heap.size w4 w4.drew := q5q hb5 1
     cases ht : h7q sn o with
     | false =>
      have HE : Hi (u5q P xs = false) := hdd (y0w HRI.o (by rw [HROW.o]; exact ht))
      have KH := hdd (KH0.o false ht)
      clear ht
      go_region_held3 (fun w' => w'.cell? ⟨wo.heap.size, 0, none⟩ = some (.slice a1 xn c1) ∧ w'.cell? ⟨wo.heap.size, 1, none⟩ = some (.int .i64 sn) ∧ w'.cell? ⟨wo.heap.size, 2, none⟩ = some (.bool b) ∧ w'.cell? ⟨wo.heap.size, 3, none⟩ = some (.slice a2 n2 c2) ∧ w'.cell? ⟨wo.heap.size, 4, none⟩ = some (.slice a3 n3 c3))
       (((try dsimp only); refine ⟨?_, ?_, ?_, ?_, ?_⟩ <;> (first | exact RY.o _ _ rfl _ (by assumption))))
       (first | (go_at_call 80; refine (KD.o _ hz0).mono ?_; rintro en6 w6 ⟨⟨v6, rfl, f6⟩, hb6⟩; obtain ⟨a6, n6, c6, i6, j6, k6, hq6⟩ := q8q f6; subst hq6; have hz6 := q0q hz0 hb6) | (go_at_call 65; refine (KW.o _).mono ?_; rintro en7 w7 ⟨⟨v7, rfl, f7⟩, hb7⟩; obtain ⟨a7, n7, c7, i7, j7, k7, hq7⟩ := q8q f7; subst hq7; have hz7 := q0q hz6 hb7) | (go_at_call 79; refine (KH.o _ _ _ hz7 (f6.below hb7) f7).mono ?_; rintro en8 w8 ⟨rfl, hb8⟩; have hz9 := q0q hz7 hb8))
      all_goals
       have HZ9 := hdd (q0q HB4.o hz9)
       go_wp2_with fail
       go_ret
       exact ⟨by rw [HE.o]; first | done | rfl, q0q HB1.o HZ9.o⟩
     | true =>
      have HD : Hi (∀ x r', x < i + 1 → P.rows[x]? = some r' → l3q xs r' = true) := hdd (fun x r' hx hr => by
       by_cases e : x = i
       ·
        subst e
        rw [HRI.o] at hr
        cases hr
        rw [HROW.o]; exact ht
       ·
        exact hd.o x r' (by omega) hr)
      have KH := hdd (KH0.o true ht)
      clear ht
      go_region_held3 (fun w' => w'.cell? ⟨wo.heap.size, 0, none⟩ = some (.slice a1 xn c1) ∧ w'.cell? ⟨wo.heap.size, 1, none⟩ = some (.int .i64 sn) ∧ w'.cell? ⟨wo.heap.size, 2, none⟩ = some (.bool b) ∧ w'.cell? ⟨wo.heap.size, 3, none⟩ = some (.slice a2 n2 c2) ∧ w'.cell? ⟨wo.heap.size, 4, none⟩ = some (.slice a3 n3 c3))
       (((try dsimp only); refine ⟨?_, ?_, ?_, ?_, ?_⟩ <;> (first | exact RY.o _ _ rfl _ (by assumption))))
       (first | (go_at_call 80; refine (KD.o _ hz0).mono ?_; rintro en6 w6 ⟨⟨v6, rfl, f6⟩, hb6⟩; obtain ⟨a6, n6, c6, i6, j6, k6, hq6⟩ := q8q f6; subst hq6; have hz6 := q0q hz0 hb6) | (go_at_call 65; refine (KW.o _).mono ?_; rintro en7 w7 ⟨⟨v7, rfl, f7⟩, hb7⟩; obtain ⟨a7, n7, c7, i7, j7, k7, hq7⟩ := q8q f7; subst hq7; have hz7 := q0q hz6 hb7) | (go_at_call 79; refine (KH.o _ _ _ hz7 (f6.below hb7) f7).mono ?_; rintro en8 w8 ⟨rfl, hb8⟩; have hz9 := q0q hz7 hb8))
      all_goals
       have HZ9 := hdd (q0q HB4.o hz9)
       clear hz9
       go_wp2_with fail
       go_roundw
      all_goals first
       | exact ⟨i + 1, by omega, by go_num, HD, HZ9⟩
       | (simp [intOf]; omega)
    ·
     have t6 : decide ((i : Int) < (rn : Int)) = false := by simp; omega
     have HRW : Hi (∀ i r, i < P.rows.length → P.rows[i]? = some r → l3q xs r = true) := hdd (fun x r hx hr => hd.o x r (by have := HEQ.o; omega) hr)
     have x2 := RX.o 2 _ rfl _ hZ.o
     obtain ⟨V, hV⟩ := qx (y5q P xs)
     have HVV := hdd hV
     have hgx : gn = xn := by have h7 := (j2q HRB.o).1; have := HLX.o; have := HEQ.o; have := HGN.o; omega
     have HGX := hdd hgx
     have KV : Hi (Calls Tryz.prog 80 #[.slice ga gn gc, .slice xa xn xc] wo (h0q wo V)) := hdd (by
      rw [hV, x8w HRB.o HLX.o]
      have e0 := HEQ.o
      have h9 := j9h (HGL.o.below (q0q HB1.o hZ.o)) (HX0.o.below (q0q HB1.o hZ.o)) hN (by have := HGN.o; omega) (by omega) (by rw [← HGN.o, hgx]; exact HNN.o)
      have e9 : m9q P.goal xs = j8q (fun i => q9q P.goal i * q9q xs i) 0 (min P.goal.length xs.length) := by unfold m9q; rw [← HGN.o, ← e0.2.2.2, hgx, Nat.min_self]
      rw [e9, ← HGN.o, ← e0.2.2.2]
      rw [← HGN.o, ← e0.2.2.2] at h9
      exact h9)
     clear hV hgx
     go_wp2_with fail
     refine KV.o.mono ?_
     rintro en5 w5 ⟨⟨v5, rfl, f5⟩, hb5⟩
     obtain ⟨a5, n5, c5, i5, j5, k5, hq5⟩ := q8q f5
     subst hq5
     have K9 := hdd (z8w (n := 4096) (f5.sz (by have h8 := HVL.o; rw [← HVV.o] at h8; omega) (by have h8 := HVL.o; rw [← HVV.o] at h8; omega)) (by omega))
     have HZ5 := hdd (q0q hZ.o hb5)
     obtain ⟨o, ho⟩ := qx (z7q V 0)
     have HO := hdd ho
     rw [← ho] at K9
     clear f5 hb5 ho x2
     go_wp2_with fail
     refine K9.o.mono ?_
     rintro en6 w6 ⟨rfl, hb6⟩
     have HZ6 := hdd (q0q HZ5.o hb6)
     clear hb6
     by_cases h0 : 0 < o
     ·
      have u : decide (0 < o) = true := by simpa using h0
      have HE : Hi (u5q P xs = true) := hdd (y0h HLX.o HSG.o HRW.o (by rw [← HVV.o, ← HO.o]; exact h0))
      clear h0
      go_wp2_with fail
      go_ret
      exact ⟨by rw [HE.o]; first | done | rfl, q0q HB1.o HZ6.o⟩
     ·
      have u : decide (0 < o) = false := by simpa using h0
      have HE : Hi (u5q P xs = false) := hdd (o6q (Or.inr (Or.inr (by rw [← HVV.o, ← HO.o]; exact h0))))
      clear h0
      go_wp2_with fail
      go_ret
      exact ⟨by rw [HE.o]; first | done | rfl, q0q HB1.o HZ6.o⟩
def j4q (P : Pm) (k : Int) (xs ys zs : List Rat) : Bool :=
 j7q P && (if k = 1 then v5q P xs && x1q P ys P.goal && decide (z7q (n1q P ys) (y5q P xs) = 0)
  else if k = 2 then x1q P ys (List.replicate P.free.length 0) && decide (z7q (n1q P ys) 0 < 0)
  else if k = 3 then v5q P xs && u5q P zs else false)
theorem q3y (h : x1q P ys goal = true) : ys.length = P.rows.length := by
 unfold x1q at h
 rw [Bool.and_eq_true, Bool.and_eq_true, decide_eq_true_eq] at h
 exact h.1.1
theorem n2q (h : b4q P ys = true) : ys.length = P.rows.length := by
 unfold b4q at h
 rw [Bool.and_eq_true, decide_eq_true_eq] at h
 exact h.1
theorem t3q : x1q P ys goal = (b4q P ys && f6q P ys goal) := rfl
def b7q (N : Nat) (w : World) (v : Value) (k : Int) (xs ys zs : List Rat) : Prop :=
 ∃ xa xc ya yc za zc, v = .agg #[.int .i64 k, .slice xa xs.length xc, .slice ya ys.length yc, .slice za zs.length zc] ∧ z1q N w (.slice xa xs.length xc) xs ∧ z1q N w (.slice ya ys.length yc) ys ∧ z1q N w (.slice za zs.length zc) zs
theorem b7q.below {k : Int} (h : b7q N w v k xs ys zs) (hb : Below w.heap.size w w') : b7q N w' v k xs ys zs := by
 obtain ⟨xa, xc, ya, yc, za, zc, hv, h1, h2, h3⟩ := h
 exact ⟨xa, xc, ya, yc, za, zc, hv, h1.below hb, h2.below hb, h3.below hb⟩
def f4q (N : Nat) (P : Pm) (xs zs : List Rat) : Prop :=
 Fit P ∧ P.vars ≤ 100 ∧ P.rows.length ≤ 100 ∧ 1 ≤ N ∧ N ≤ 50 ∧ N * P.goal.length ≤ 1000 ∧ N * P.rows.length ≤ 1000 ∧ (xs.length ≤ 100 ∧ N * xs.length ≤ 1000) ∧ (zs.length ≤ 100 ∧ N * zs.length ≤ 1000)
theorem j3k {y : Value} (h : y9q N w v P) (hy : z1q N w' y ys) (hl : ys.length = P.rows.length) (_ : N ≤ 50) (hr : P.rows.length ≤ 100) (hNr : N * P.rows.length ≤ 1000) : j5q (n1q P ys) ≤ 4002 := by
 unfold n1q
 refine j3w (N := N) (fun i hi => ?_) (by omega) (by rw [hl]; exact hNr)
 exact q7j (x9h h (by omega)) (q7z hy hi)

theorem g7x (h : y9q N w v P) (hc : b7q N w c 1 xs ys zs) (hs : f4q N P xs zs) (hfb0 : v5q P xs = false) :
  Calls Tryz.prog 135 #[v, c] w fun e w' => e = .returned (.bool (j4q P 1 xs ys zs)) ∧ Below w.heap.size w w' := by
 have HS := hdd hs
 have HP0 := hdd h
 have HP := hdd h
 obtain ⟨fa, fc, ga, gc, ra, rc, rfl, -, -, -, hG, hR⟩ := h
 obtain ⟨xa, xc, ya, yc, za, zc, rfl, hX, hY, hZ⟩ := hc
 have HX0 := hdd hX
 have HY0 := hdd hY
 have HR := hdd hR
 obtain ⟨z, hz⟩ := qx (P.vars)
 obtain ⟨fn, hfn⟩ := qx (P.free.length)
 obtain ⟨gn, hgn⟩ := qx (P.goal.length)
 obtain ⟨rn, hrn⟩ := qx (P.rows.length)
 obtain ⟨xn, hxn⟩ := qx (xs.length)
 obtain ⟨yn, hyn⟩ := qx (ys.length)
 obtain ⟨zn, hzn⟩ := qx (zs.length)
 rw [← hz] at HP ⊢
 rw [← hfn] at HP ⊢
 rw [← hgn] at HP hG ⊢
 rw [← hrn] at HP ⊢
 rw [← hxn] at hX ⊢
 rw [← hyn] at hY ⊢
 rw [← hzn] at hZ ⊢
 have HG := hdd hG
 have HX := hdd hX
 have HY := hdd hY
 have HZ := hdd hZ
 have HEQ := hdd (And.intro hz (And.intro hfn (And.intro hgn (And.intro hrn (And.intro hxn (And.intro hyn hzn))))))
 obtain ⟨w1, hw1, HB1, HX1, HC1⟩ := al2 w #[.int .i64 z, .slice fa fn fc, .slice ga gn gc, .slice ra rn rc] 26 #[.int .i64 1, .slice xa xn xc, .slice ya yn yc, .slice za zn zc] 66
 have HW1 := hdd hw1.symm
 clear hw1 hG hR hX hY hZ hz hfn hgn hrn hxn hyn hzn hs
 have RX := hdd (q1q HX1.o)
 have RC := hdd (q1q HC1.o)
 have hb1 := Below.refl w1.heap.size w1
 obtain ⟨x0, x1, x2, x3⟩ := qz RX.o hb1
 have KR := hdd (fun w' (hb : Below w.heap.size w w') => n7q (HP.o.below hb) HS.o.1)
 cases hb : j7q P with
 | false =>
  have HE : Hi (j4q P 1 xs ys zs = false) := hdd (by unfold j4q; rw [hb]; rfl)
  rw [x6q hb] at KR
  clear hb
  go_enter Tryz.func135, Tryz.ntmps135
  go_wp2_with fail
  rw [HW1.o]
  refine (KR.o _ HB1.o).mono ?_
  rintro en2 w2 ⟨rfl, hb2⟩
  go_wp2_with fail
  go_ret
  exact ⟨by rw [HE.o]; first | done | rfl, q0q HB1.o hb2⟩
 | true =>
 have HRB := hdd hb
 rw [g5q hb] at KR
 have HFN : Hi (z = (fn : Int)) := hdd (by have h8 := (j2q hb).2.1; have := HEQ.o; omega)
 clear hb
 go_enter Tryz.func135, Tryz.ntmps135
 go_wp2_with fail
 rw [HW1.o]
 refine (KR.o _ HB1.o).mono ?_
 rintro en2 w2 ⟨rfl, hb2⟩
 have HZ2 := hdd hb2
 obtain ⟨x0, x1, x2, x3⟩ := qz RX.o hb2
 obtain ⟨c0, c1, c2, c3⟩ := qz RC.o hb2
 have hz0 : Below w1.heap.size w1 w2.drew := q5q hb2 1
 have HSZ : Hi (w9q N P xs) := hdd ⟨HS.o.1, HS.o.2.1, HS.o.2.2.2.2.1, HS.o.2.2.2.2.2.1, HS.o.2.2.2.2.2.2.2.1.1⟩
 have HVL : Hi (j5q (y5q P xs) ≤ 4002) := hdd (h8q HP0.o HX0.o HS.o.2.2.2.2.2.2.2.1.1 HS.o.2.2.2.2.2.2.2.1.2)
 have KF := hdd (fun w' (hb : Below w.heap.size w w') => j1v (HP.o.below hb) (HX.o.below hb) HS.o.1 HS.o.2.2.2.2.1 HS.o.2.2.2.2.2.2.2.1.1 HS.o.2.2.2.2.2.2.2.1.2)
 obtain ⟨fb, hfb⟩ := qx (v5q P xs)
 rw [← hfb] at KF
 have HFB := hdd hfb
 clear hfb
 obtain ⟨bb, hbb⟩ := qx (x1q P ys P.goal)
 have HBB := hdd hbb
 have KB := hdd (fun w' (hb : Below w.heap.size w w') => q5x (HP.o.below hb) (HY.o.below hb) (HG.o.below hb) HRB.o (j2q HRB.o).1 HS.o.2.2.2.2.1 HS.o.2.2.1 HS.o.2.1 HS.o.2.2.2.2.2.2.1)
 rw [← hbb] at KB
 clear hbb
 have efb : fb = false := HFB.o.trans hfb0
 subst efb
 have HE : Hi (j4q P 1 xs ys zs = false) := hdd (by unfold j4q; rw [← HFB.o]; simp)
 go_wp2_with fail
 refine wp_region_held_drew (S := (fun w' => w'.cell? ⟨w.heap.size, 0, none⟩ = some (.int .i64 z) ∧ w'.cell? ⟨w.heap.size, 1, none⟩ = some (.slice fa fn fc) ∧ w'.cell? ⟨w.heap.size, 2, none⟩ = some (.slice ga gn gc) ∧ w'.cell? ⟨w.heap.size, 3, none⟩ = some (.slice ra rn rc) ∧ w'.cell? ⟨w.heap.size + 1, 1, none⟩ = some (.slice xa xn xc) ∧ w'.cell? ⟨w.heap.size + 1, 2, none⟩ = some (.slice ya yn yc))) (by kernel_rfl) ?_ (fun hHeld => ?_)
 ·
  (((try dsimp only); refine ⟨?_, ?_, ?_, ?_, ?_, ?_⟩ <;> (first | exact RX.o _ _ rfl _ (by assumption) | exact RC.o _ _ rfl _ (by assumption))))
 refine jq 0 ?_
 refine jq 1 ?_
 refine jq 2 ?_
 refine wpAnyH_ready (rs := [3]) (by kernel_rfl) (by simp) (AllReadyH.cons (o := _) rfl (fun K hK => ?_) AllReadyH.nil)
 go_simp
 (go_at_call 71; refine (KF.o _ (q0q HB1.o hz0)).mono ?_; rintro en4 w4 ⟨rfl, hb4⟩; have hz4 := q0q hz0 hb4)
 try go_wp2_with fail
 refine hK.out _ _ ?_ (fun hHeld => ?_)
 ·
  (((try dsimp only); refine ⟨?_, ?_, ?_, ?_, ?_, ?_⟩ <;> (first | exact RX.o _ _ rfl _ (by assumption) | exact RC.o _ _ rfl _ (by assumption))))
 clear hK K
 try refine lyh ?_
 refine jq 4 ?_
 refine qj 5 ?_
 refine qj 6 ?_
 refine qj 7 ?_
 refine qj 8 ?_
 refine qj 9 ?_
 refine qj 10 ?_
 refine jq 11 ?_
 refine jq 12 ?_
 refine qj 13 ?_
 refine qj 14 ?_
 refine qj 15 ?_
 refine qj 16 ?_
 refine qj 17 ?_
 refine qj 18 ?_
 refine qj 19 ?_
 refine qj 20 ?_
 refine qj 21 ?_
 refine qj 22 ?_
 refine qj 23 ?_
 refine jq 24 ?_
 refine jq 25 ?_
 refine wpAnyH_done (by kernel_rfl) ?_ _
 have HZ9 := hdd hz4
 clear hz0 hz4
 go_wp2_with fail
 go_ret
 exact ⟨by rw [HE.o]; first | done | rfl, q0q HB1.o HZ9.o⟩
theorem g7k (h : y9q N w v P) (hc : b7q N w c 1 xs ys zs) (hs : f4q N P xs zs) (hfb0 : v5q P xs = true) (hbb0 : x1q P ys P.goal = false) :
  Calls Tryz.prog 135 #[v, c] w fun e w' => e = .returned (.bool (j4q P 1 xs ys zs)) ∧ Below w.heap.size w w' := by
 have HS := hdd hs
 have HP0 := hdd h
 have HP := hdd h
 obtain ⟨fa, fc, ga, gc, ra, rc, rfl, -, -, -, hG, hR⟩ := h
 obtain ⟨xa, xc, ya, yc, za, zc, rfl, hX, hY, hZ⟩ := hc
 have HX0 := hdd hX
 have HY0 := hdd hY
 have HR := hdd hR
 obtain ⟨z, hz⟩ := qx (P.vars)
 obtain ⟨fn, hfn⟩ := qx (P.free.length)
 obtain ⟨gn, hgn⟩ := qx (P.goal.length)
 obtain ⟨rn, hrn⟩ := qx (P.rows.length)
 obtain ⟨xn, hxn⟩ := qx (xs.length)
 obtain ⟨yn, hyn⟩ := qx (ys.length)
 obtain ⟨zn, hzn⟩ := qx (zs.length)
 rw [← hz] at HP ⊢
 rw [← hfn] at HP ⊢
 rw [← hgn] at HP hG ⊢
 rw [← hrn] at HP ⊢
 rw [← hxn] at hX ⊢
 rw [← hyn] at hY ⊢
 rw [← hzn] at hZ ⊢
 have HG := hdd hG
 have HX := hdd hX
 have HY := hdd hY
 have HZ := hdd hZ
 have HEQ := hdd (And.intro hz (And.intro hfn (And.intro hgn (And.intro hrn (And.intro hxn (And.intro hyn hzn))))))
 obtain ⟨w1, hw1, HB1, HX1, HC1⟩ := al2 w #[.int .i64 z, .slice fa fn fc, .slice ga gn gc, .slice ra rn rc] 26 #[.int .i64 1, .slice xa xn xc, .slice ya yn yc, .slice za zn zc] 66
 have HW1 := hdd hw1.symm
 clear hw1 hG hR hX hY hZ hz hfn hgn hrn hxn hyn hzn hs
 have RX := hdd (q1q HX1.o)
 have RC := hdd (q1q HC1.o)
 have hb1 := Below.refl w1.heap.size w1
 obtain ⟨x0, x1, x2, x3⟩ := qz RX.o hb1
 have KR := hdd (fun w' (hb : Below w.heap.size w w') => n7q (HP.o.below hb) HS.o.1)
 cases hb : j7q P with
 | false =>
  have HE : Hi (j4q P 1 xs ys zs = false) := hdd (by unfold j4q; rw [hb]; rfl)
  rw [x6q hb] at KR
  clear hb
  go_enter Tryz.func135, Tryz.ntmps135
  go_wp2_with fail
  rw [HW1.o]
  refine (KR.o _ HB1.o).mono ?_
  rintro en2 w2 ⟨rfl, hb2⟩
  go_wp2_with fail
  go_ret
  exact ⟨by rw [HE.o]; first | done | rfl, q0q HB1.o hb2⟩
 | true =>
 have HRB := hdd hb
 rw [g5q hb] at KR
 have HFN : Hi (z = (fn : Int)) := hdd (by have h8 := (j2q hb).2.1; have := HEQ.o; omega)
 clear hb
 go_enter Tryz.func135, Tryz.ntmps135
 go_wp2_with fail
 rw [HW1.o]
 refine (KR.o _ HB1.o).mono ?_
 rintro en2 w2 ⟨rfl, hb2⟩
 have HZ2 := hdd hb2
 obtain ⟨x0, x1, x2, x3⟩ := qz RX.o hb2
 obtain ⟨c0, c1, c2, c3⟩ := qz RC.o hb2
 have hz0 : Below w1.heap.size w1 w2.drew := q5q hb2 1
 have HSZ : Hi (w9q N P xs) := hdd ⟨HS.o.1, HS.o.2.1, HS.o.2.2.2.2.1, HS.o.2.2.2.2.2.1, HS.o.2.2.2.2.2.2.2.1.1⟩
 have HVL : Hi (j5q (y5q P xs) ≤ 4002) := hdd (h8q HP0.o HX0.o HS.o.2.2.2.2.2.2.2.1.1 HS.o.2.2.2.2.2.2.2.1.2)
 have KF := hdd (fun w' (hb : Below w.heap.size w w') => j1v (HP.o.below hb) (HX.o.below hb) HS.o.1 HS.o.2.2.2.2.1 HS.o.2.2.2.2.2.2.2.1.1 HS.o.2.2.2.2.2.2.2.1.2)
 obtain ⟨fb, hfb⟩ := qx (v5q P xs)
 rw [← hfb] at KF
 have HFB := hdd hfb
 clear hfb
 obtain ⟨bb, hbb⟩ := qx (x1q P ys P.goal)
 have HBB := hdd hbb
 have KB := hdd (fun w' (hb : Below w.heap.size w w') => q5x (HP.o.below hb) (HY.o.below hb) (HG.o.below hb) HRB.o (j2q HRB.o).1 HS.o.2.2.2.2.1 HS.o.2.2.1 HS.o.2.1 HS.o.2.2.2.2.2.2.1)
 rw [← hbb] at KB
 clear hbb
 have efb : fb = true := HFB.o.trans hfb0
 subst efb
 have ebb : bb = false := HBB.o.trans hbb0
 subst ebb
 have HE : Hi (j4q P 1 xs ys zs = false) := hdd (by unfold j4q; rw [← HBB.o]; simp)
 go_wp2_with fail
 refine wp_region_held_drew (S := (fun w' => w'.cell? ⟨w.heap.size, 0, none⟩ = some (.int .i64 z) ∧ w'.cell? ⟨w.heap.size, 1, none⟩ = some (.slice fa fn fc) ∧ w'.cell? ⟨w.heap.size, 2, none⟩ = some (.slice ga gn gc) ∧ w'.cell? ⟨w.heap.size, 3, none⟩ = some (.slice ra rn rc) ∧ w'.cell? ⟨w.heap.size + 1, 1, none⟩ = some (.slice xa xn xc) ∧ w'.cell? ⟨w.heap.size + 1, 2, none⟩ = some (.slice ya yn yc))) (by kernel_rfl) ?_ (fun hHeld => ?_)
 ·
  (((try dsimp only); refine ⟨?_, ?_, ?_, ?_, ?_, ?_⟩ <;> (first | exact RX.o _ _ rfl _ (by assumption) | exact RC.o _ _ rfl _ (by assumption))))
 refine jq 0 ?_
 refine jq 1 ?_
 refine jq 2 ?_
 refine wpAnyH_ready (rs := [3]) (by kernel_rfl) (by simp) (AllReadyH.cons (o := _) rfl (fun K hK => ?_) AllReadyH.nil)
 go_simp
 (go_at_call 71; refine (KF.o _ (q0q HB1.o hz0)).mono ?_; rintro en4 w4 ⟨rfl, hb4⟩; have hz4 := q0q hz0 hb4)
 try go_wp2_with fail
 refine hK.out _ _ ?_ (fun hHeld => ?_)
 ·
  (((try dsimp only); refine ⟨?_, ?_, ?_, ?_, ?_, ?_⟩ <;> (first | exact RX.o _ _ rfl _ (by assumption) | exact RC.o _ _ rfl _ (by assumption))))
 clear hK K
 try refine lyh ?_
 refine jq 4 ?_
 refine jq 5 ?_
 refine jq 6 ?_
 refine jq 7 ?_
 refine jq 8 ?_
 refine jq 9 ?_
 refine wpAnyH_ready (rs := [10]) (by kernel_rfl) (by simp) (AllReadyH.cons (o := _) rfl (fun K hK => ?_) AllReadyH.nil)
 go_simp
 (go_at_call 159; refine (KB.o _ (q0q HB1.o hz4)).mono ?_; rintro en5 w5 ⟨rfl, hb5⟩; have hz5 := q0q hz4 hb5)
 try go_wp2_with fail
 refine hK.out _ _ ?_ (fun hHeld => ?_)
 ·
  (((try dsimp only); refine ⟨?_, ?_, ?_, ?_, ?_, ?_⟩ <;> (first | exact RX.o _ _ rfl _ (by assumption) | exact RC.o _ _ rfl _ (by assumption))))
 clear hK K
 try refine lyh ?_
 refine jq 11 ?_
 refine jq 12 ?_
 refine qj 13 ?_
 refine qj 14 ?_
 refine qj 15 ?_
 refine qj 16 ?_
 refine qj 17 ?_
 refine qj 18 ?_
 refine qj 19 ?_
 refine qj 20 ?_
 refine qj 21 ?_
 refine qj 22 ?_
 refine qj 23 ?_
 refine jq 24 ?_
 refine jq 25 ?_
 refine wpAnyH_done (by kernel_rfl) ?_ _
 have HZ9 := hdd hz5
 clear hz0 hz4 hz5
 go_wp2_with fail
 go_ret
 exact ⟨by rw [HE.o]; first | done | rfl, q0q HB1.o HZ9.o⟩
theorem g7w (h : y9q N w v P) (hc : b7q N w c 1 xs ys zs) (hs : f4q N P xs zs) (hfb0 : v5q P xs = true) (hbb0 : x1q P ys P.goal = true) :
  Calls Tryz.prog 135 #[v, c] w fun e w' => e = .returned (.bool (j4q P 1 xs ys zs)) ∧ Below w.heap.size w w' := by
 have HS := hdd hs
 have HP0 := hdd h
 have HP := hdd h
 obtain ⟨fa, fc, ga, gc, ra, rc, rfl, -, -, -, hG, hR⟩ := h
 obtain ⟨xa, xc, ya, yc, za, zc, rfl, hX, hY, hZ⟩ := hc
 have HX0 := hdd hX
 have HY0 := hdd hY
 have HR := hdd hR
 obtain ⟨z, hz⟩ := qx (P.vars)
 obtain ⟨fn, hfn⟩ := qx (P.free.length)
 obtain ⟨gn, hgn⟩ := qx (P.goal.length)
 obtain ⟨rn, hrn⟩ := qx (P.rows.length)
 obtain ⟨xn, hxn⟩ := qx (xs.length)
 obtain ⟨yn, hyn⟩ := qx (ys.length)
 obtain ⟨zn, hzn⟩ := qx (zs.length)
 rw [← hz] at HP ⊢
 rw [← hfn] at HP ⊢
 rw [← hgn] at HP hG ⊢
 rw [← hrn] at HP ⊢
 rw [← hxn] at hX ⊢
 rw [← hyn] at hY ⊢
 rw [← hzn] at hZ ⊢
 have HG := hdd hG
 have HX := hdd hX
 have HY := hdd hY
 have HZ := hdd hZ
 have HEQ := hdd (And.intro hz (And.intro hfn (And.intro hgn (And.intro hrn (And.intro hxn (And.intro hyn hzn))))))
 obtain ⟨w1, hw1, HB1, HX1, HC1⟩ := al2 w #[.int .i64 z, .slice fa fn fc, .slice ga gn gc, .slice ra rn rc] 26 #[.int .i64 1, .slice xa xn xc, .slice ya yn yc, .slice za zn zc] 66
 have HW1 := hdd hw1.symm
 clear hw1 hG hR hX hY hZ hz hfn hgn hrn hxn hyn hzn hs
 have RX := hdd (q1q HX1.o)
 have RC := hdd (q1q HC1.o)
 have hb1 := Below.refl w1.heap.size w1
 obtain ⟨x0, x1, x2, x3⟩ := qz RX.o hb1
 have KR := hdd (fun w' (hb : Below w.heap.size w w') => n7q (HP.o.below hb) HS.o.1)
 cases hb : j7q P with
 | false =>
  have HE : Hi (j4q P 1 xs ys zs = false) := hdd (by unfold j4q; rw [hb]; rfl)
  rw [x6q hb] at KR
  clear hb
  go_enter Tryz.func135, Tryz.ntmps135
  go_wp2_with fail
  rw [HW1.o]
  refine (KR.o _ HB1.o).mono ?_
  rintro en2 w2 ⟨rfl, hb2⟩
  go_wp2_with fail
  go_ret
  exact ⟨by rw [HE.o]; first | done | rfl, q0q HB1.o hb2⟩
 | true =>
 have HRB := hdd hb
 rw [g5q hb] at KR
 have HFN : Hi (z = (fn : Int)) := hdd (by have h8 := (j2q hb).2.1; have := HEQ.o; omega)
 clear hb
 go_enter Tryz.func135, Tryz.ntmps135
 go_wp2_with fail
 rw [HW1.o]
 refine (KR.o _ HB1.o).mono ?_
 rintro en2 w2 ⟨rfl, hb2⟩
 have HZ2 := hdd hb2
 obtain ⟨x0, x1, x2, x3⟩ := qz RX.o hb2
 obtain ⟨c0, c1, c2, c3⟩ := qz RC.o hb2
 have hz0 : Below w1.heap.size w1 w2.drew := q5q hb2 1
 have HSZ : Hi (w9q N P xs) := hdd ⟨HS.o.1, HS.o.2.1, HS.o.2.2.2.2.1, HS.o.2.2.2.2.2.1, HS.o.2.2.2.2.2.2.2.1.1⟩
 have HVL : Hi (j5q (y5q P xs) ≤ 4002) := hdd (h8q HP0.o HX0.o HS.o.2.2.2.2.2.2.2.1.1 HS.o.2.2.2.2.2.2.2.1.2)
 have KF := hdd (fun w' (hb : Below w.heap.size w w') => j1v (HP.o.below hb) (HX.o.below hb) HS.o.1 HS.o.2.2.2.2.1 HS.o.2.2.2.2.2.2.2.1.1 HS.o.2.2.2.2.2.2.2.1.2)
 obtain ⟨fb, hfb⟩ := qx (v5q P xs)
 rw [← hfb] at KF
 have HFB := hdd hfb
 clear hfb
 obtain ⟨bb, hbb⟩ := qx (x1q P ys P.goal)
 have HBB := hdd hbb
 have KB := hdd (fun w' (hb : Below w.heap.size w w') => q5x (HP.o.below hb) (HY.o.below hb) (HG.o.below hb) HRB.o (j2q HRB.o).1 HS.o.2.2.2.2.1 HS.o.2.2.1 HS.o.2.1 HS.o.2.2.2.2.2.2.1)
 rw [← hbb] at KB
 clear hbb
 have efb : fb = true := HFB.o.trans hfb0
 subst efb
 have ebb : bb = true := HBB.o.trans hbb0
 subst ebb
 have HYR : Hi (yn = rn) := hdd (by have h9 := q3y HBB.o.symm; have := HEQ.o; omega)
 have HSL : Hi (j5q (n1q P ys) ≤ 4002) := hdd (j3k HP0.o HY0.o (q3y HBB.o.symm) HS.o.2.2.2.2.1 HS.o.2.2.1 HS.o.2.2.2.2.2.2.1)
 obtain ⟨Sd, hS⟩ := qx (n1q P ys)
 have HSD := hdd hS
 rw [← hS] at HSL
 obtain ⟨V, hV⟩ := qx (y5q P xs)
 have HVV := hdd hV
 rw [← hV] at HVL
 have KS := hdd (fun w' => v7h (w := w') (z := z) (fa := fa) (ga := ga) (ra := ra) (fn := fn) (fc := fc) (gn := gn) (gc := gc) (rn := rn) (rc := rc))
 have KP : Hi (∀ w' g, Below w.heap.size w w' → w'.cell? ⟨g, 3, none⟩ = some (.slice ra rn rc) → Calls Tryz.prog 70 #[.func (.func 60) #[] #[.pointer (some ⟨g, 0, none⟩)], .slice ya yn yc] w' (h0q w' Sd)) := hdd (fun w' g hb hg1 => by
  have h9 := y7x (N := N) (w := w') (p := g) (n' := yn) (g := bQ P) (qs := ys) (fun i w'' hi hb9 => v0v (w0 := w') hb9 (q3q hb9 hg1) (HR.o.below hb) (by have := HYR.o; omega) HEQ.o.2.2.2.1) (HY.o.below hb) HS.o.2.2.2.2.1 (by have := HYR.o; have := HEQ.o; have := HS.o.2.2.1; omega) (by rw [HYR.o, HEQ.o.2.2.2.1]; exact HS.o.2.2.2.2.2.2.1)
  have e9 : j8q (fun i => bQ P i * q9q ys i) 0 yn = Sd := by rw [HSD.o]; unfold n1q; rw [HEQ.o.2.2.2.2.2.1]
  rw [e9] at h9
  exact h9)
 have KV := hdd (fun w' (hb : Below w.heap.size w w') => j4v (HP.o.below hb) (HX.o.below hb) HSZ.o)
 rw [← hV] at KV
 have KC := hdd (fun w' y y2 (hy : j3q w' y Sd) (hy2 : j3q w' y2 V) => z4j (w := w') (hy.inF (by have := HSL.o; omega)) (hy2.inF (by have := HVL.o; omega)))
 obtain ⟨o, ho⟩ := qx (z7q Sd V)
 rw [← ho] at KC
 have HO := hdd ho
 clear hS hV ho
 by_cases h0 : o = 0
 ·
  have u : (o == 0) = true := by simpa using h0
  have HE : Hi (j4q P 1 xs ys zs = true) := hdd (by unfold j4q; rw [HRB.o, ← HFB.o, ← HBB.o, ← HSD.o, ← HVV.o, ← HO.o]; simp [h0])
  clear h0
  go_wp2_with fail
  go_region_held3 (fun w' => w'.cell? ⟨w.heap.size, 0, none⟩ = some (.int .i64 z) ∧ w'.cell? ⟨w.heap.size, 1, none⟩ = some (.slice fa fn fc) ∧ w'.cell? ⟨w.heap.size, 2, none⟩ = some (.slice ga gn gc) ∧ w'.cell? ⟨w.heap.size, 3, none⟩ = some (.slice ra rn rc) ∧ w'.cell? ⟨w.heap.size + 1, 1, none⟩ = some (.slice xa xn xc) ∧ w'.cell? ⟨w.heap.size + 1, 2, none⟩ = some (.slice ya yn yc))
   (((try dsimp only); refine ⟨?_, ?_, ?_, ?_, ?_, ?_⟩ <;> (first | exact RX.o _ _ rfl _ (by assumption) | exact RC.o _ _ rfl _ (by assumption))))
   (first | (go_at_call 71; refine (KF.o _ (q0q HB1.o hz0)).mono ?_; rintro en4 w4 ⟨rfl, hb4⟩; have hz4 := q0q hz0 hb4) | (go_at_call 159; refine (KB.o _ (q0q HB1.o hz4)).mono ?_; rintro en5 w5 ⟨rfl, hb5⟩; have hz5 := q0q hz4 hb5) | (go_at_call 27; refine (KS.o _).mono ?_; rintro en6 w6 ⟨⟨g6, rfl, hg6⟩, hb6⟩; have hz6 := q0q hz5 hb6) | (go_at_call 70; refine (KP.o _ _ (q0q HB1.o hz6) hg6).mono ?_; rintro en7 w7 ⟨⟨v7, rfl, f7⟩, hb7⟩; obtain ⟨a7, n7, c7, i7, j7, k7, hq7⟩ := q8q f7; subst hq7; have hz7 := q0q hz6 hb7) | (go_at_call 38; refine (KV.o _ (q0q HB1.o hz7)).mono ?_; rintro en8 w8 ⟨⟨v8, rfl, f8⟩, hb8⟩; obtain ⟨a8, n8, c8, i8, j8, k8, hq8⟩ := q8q f8; subst hq8; have hz8 := q0q hz7 hb8) | (go_at_call 103; refine (KC.o _ _ _ (f7.below hb8) f8).mono ?_; rintro en9 w9 ⟨rfl, hb9⟩; have hz9 := q0q hz8 hb9))
  all_goals
   have HZ9 := hdd hz9
   clear hz0 hz4 hz5 hz6 hz7 hz8 hz9
   go_wp2_with fail
   go_ret
   exact ⟨by rw [HE.o]; first | done | rfl, q0q HB1.o HZ9.o⟩
 ·
  have u : (o == 0) = false := by simpa using h0
  have HE : Hi (j4q P 1 xs ys zs = false) := hdd (by unfold j4q; rw [HRB.o, ← HFB.o, ← HBB.o, ← HSD.o, ← HVV.o, ← HO.o]; simp [h0])
  clear h0
  go_wp2_with fail
  go_region_held3 (fun w' => w'.cell? ⟨w.heap.size, 0, none⟩ = some (.int .i64 z) ∧ w'.cell? ⟨w.heap.size, 1, none⟩ = some (.slice fa fn fc) ∧ w'.cell? ⟨w.heap.size, 2, none⟩ = some (.slice ga gn gc) ∧ w'.cell? ⟨w.heap.size, 3, none⟩ = some (.slice ra rn rc) ∧ w'.cell? ⟨w.heap.size + 1, 1, none⟩ = some (.slice xa xn xc) ∧ w'.cell? ⟨w.heap.size + 1, 2, none⟩ = some (.slice ya yn yc))
   (((try dsimp only); refine ⟨?_, ?_, ?_, ?_, ?_, ?_⟩ <;> (first | exact RX.o _ _ rfl _ (by assumption) | exact RC.o _ _ rfl _ (by assumption))))
   (first | (go_at_call 71; refine (KF.o _ (q0q HB1.o hz0)).mono ?_; rintro en4 w4 ⟨rfl, hb4⟩; have hz4 := q0q hz0 hb4) | (go_at_call 159; refine (KB.o _ (q0q HB1.o hz4)).mono ?_; rintro en5 w5 ⟨rfl, hb5⟩; have hz5 := q0q hz4 hb5) | (go_at_call 27; refine (KS.o _).mono ?_; rintro en6 w6 ⟨⟨g6, rfl, hg6⟩, hb6⟩; have hz6 := q0q hz5 hb6) | (go_at_call 70; refine (KP.o _ _ (q0q HB1.o hz6) hg6).mono ?_; rintro en7 w7 ⟨⟨v7, rfl, f7⟩, hb7⟩; obtain ⟨a7, n7, c7, i7, j7, k7, hq7⟩ := q8q f7; subst hq7; have hz7 := q0q hz6 hb7) | (go_at_call 38; refine (KV.o _ (q0q HB1.o hz7)).mono ?_; rintro en8 w8 ⟨⟨v8, rfl, f8⟩, hb8⟩; obtain ⟨a8, n8, c8, i8, j8, k8, hq8⟩ := q8q f8; subst hq8; have hz8 := q0q hz7 hb8) | (go_at_call 103; refine (KC.o _ _ _ (f7.below hb8) f8).mono ?_; rintro en9 w9 ⟨rfl, hb9⟩; have hz9 := q0q hz8 hb9))
  all_goals
   have HZ9 := hdd hz9
   clear hz0 hz4 hz5 hz6 hz7 hz8 hz9
   go_wp2_with fail
   go_ret
   exact ⟨by rw [HE.o]; first | done | rfl, q0q HB1.o HZ9.o⟩
theorem g7h (h : y9q N w v P) (hc : b7q N w c 2 xs ys zs) (hs : f4q N P xs zs) (hbb0 : x1q P ys (List.replicate P.free.length 0) = false) :
  Calls Tryz.prog 135 #[v, c] w fun e w' => e = .returned (.bool (j4q P 2 xs ys zs)) ∧ Below w.heap.size w w' := by
 have HS := hdd hs
 have HP0 := hdd h
 have HP := hdd h
 obtain ⟨fa, fc, ga, gc, ra, rc, rfl, -, -, -, hG, hR⟩ := h
 obtain ⟨xa, xc, ya, yc, za, zc, rfl, hX, hY, hZ⟩ := hc
 have HX0 := hdd hX
 have HY0 := hdd hY
 have HR := hdd hR
 obtain ⟨z, hz⟩ := qx (P.vars)
 obtain ⟨fn, hfn⟩ := qx (P.free.length)
 obtain ⟨gn, hgn⟩ := qx (P.goal.length)
 obtain ⟨rn, hrn⟩ := qx (P.rows.length)
 obtain ⟨xn, hxn⟩ := qx (xs.length)
 obtain ⟨yn, hyn⟩ := qx (ys.length)
 obtain ⟨zn, hzn⟩ := qx (zs.length)
 rw [← hz] at HP ⊢
 rw [← hfn] at HP ⊢
 rw [← hgn] at HP hG ⊢
 rw [← hrn] at HP ⊢
 rw [← hxn] at hX ⊢
 rw [← hyn] at hY ⊢
 rw [← hzn] at hZ ⊢
 have HG := hdd hG
 have HX := hdd hX
 have HY := hdd hY
 have HZ := hdd hZ
 have HEQ := hdd (And.intro hz (And.intro hfn (And.intro hgn (And.intro hrn (And.intro hxn (And.intro hyn hzn))))))
 obtain ⟨w1, hw1, HB1, HX1, HC1⟩ := al2 w #[.int .i64 z, .slice fa fn fc, .slice ga gn gc, .slice ra rn rc] 26 #[.int .i64 2, .slice xa xn xc, .slice ya yn yc, .slice za zn zc] 66
 have HW1 := hdd hw1.symm
 clear hw1 hG hR hX hY hZ hz hfn hgn hrn hxn hyn hzn hs
 have RX := hdd (q1q HX1.o)
 have RC := hdd (q1q HC1.o)
 have hb1 := Below.refl w1.heap.size w1
 obtain ⟨x0, x1, x2, x3⟩ := qz RX.o hb1
 have KR := hdd (fun w' (hb : Below w.heap.size w w') => n7q (HP.o.below hb) HS.o.1)
 cases hb : j7q P with
 | false =>
  have HE : Hi (j4q P 2 xs ys zs = false) := hdd (by unfold j4q; rw [hb]; rfl)
  rw [x6q hb] at KR
  clear hb
  go_enter Tryz.func135, Tryz.ntmps135
  go_wp2_with fail
  rw [HW1.o]
  refine (KR.o _ HB1.o).mono ?_
  rintro en2 w2 ⟨rfl, hb2⟩
  go_wp2_with fail
  go_ret
  exact ⟨by rw [HE.o]; first | done | rfl, q0q HB1.o hb2⟩
 | true =>
 have HRB := hdd hb
 rw [g5q hb] at KR
 have HFN : Hi (z = (fn : Int)) := hdd (by have h8 := (j2q hb).2.1; have := HEQ.o; omega)
 clear hb
 go_enter Tryz.func135, Tryz.ntmps135
 go_wp2_with fail
 rw [HW1.o]
 refine (KR.o _ HB1.o).mono ?_
 rintro en2 w2 ⟨rfl, hb2⟩
 have HZ2 := hdd hb2
 obtain ⟨x0, x1, x2, x3⟩ := qz RX.o hb2
 obtain ⟨c0, c1, c2, c3⟩ := qz RC.o hb2
 have hz0 : Below w1.heap.size w1 w2.drew := q5q hb2 1
 obtain ⟨bb, hbb⟩ := qx (x1q P ys (List.replicate fn 0))
 have HBB := hdd (by rw [HEQ.o.2.1] at hbb; exact hbb : bb = x1q P ys (List.replicate P.free.length 0))
 have KB := hdd (fun w' t (hb : Below w.heap.size w w') (ht : z1q 1 w' t (List.replicate fn 0)) => q5x (HP.o.below hb) (HY.o.below hb) (ht.up HS.o.2.2.2.1) HRB.o (by rw [List.length_replicate, ← HEQ.o.1]; exact HFN.o.symm) HS.o.2.2.2.2.1 HS.o.2.2.1 HS.o.2.1 HS.o.2.2.2.2.2.2.1)
 rw [← hbb] at KB
 have KZ : Hi (∀ w', Calls Tryz.prog 91 #[.int .i64 z] w' fun e w'' => (∃ r, e = .returned r ∧ z1q 1 w'' r (List.replicate fn 0)) ∧ Below w'.heap.size w' w'') := hdd (fun w' => by
  rw [HFN.o]
  exact v8k (by have := HFN.o; have := HS.o.2.1; have := HEQ.o; omega))
 clear hbb
 have ebb : bb = false := HBB.o.trans hbb0
 subst ebb
 have HE : Hi (j4q P 2 xs ys zs = false) := hdd (by unfold j4q; rw [← HBB.o]; simp)
 go_wp2_with fail
 refine wp_region_held_drew (S := (fun w' => w'.cell? ⟨w.heap.size, 0, none⟩ = some (.int .i64 z) ∧ w'.cell? ⟨w.heap.size, 1, none⟩ = some (.slice fa fn fc) ∧ w'.cell? ⟨w.heap.size, 2, none⟩ = some (.slice ga gn gc) ∧ w'.cell? ⟨w.heap.size, 3, none⟩ = some (.slice ra rn rc) ∧ w'.cell? ⟨w.heap.size + 1, 1, none⟩ = some (.slice xa xn xc) ∧ w'.cell? ⟨w.heap.size + 1, 2, none⟩ = some (.slice ya yn yc))) (by kernel_rfl) ?_ (fun hHeld => ?_)
 ·
  (((try dsimp only); refine ⟨?_, ?_, ?_, ?_, ?_, ?_⟩ <;> (first | exact RX.o _ _ rfl _ (by assumption) | exact RC.o _ _ rfl _ (by assumption))))
 refine jq 0 ?_
 refine jq 1 ?_
 refine jq 2 ?_
 refine jq 3 ?_
 refine jq 4 ?_
 refine wpAnyH_ready (rs := [5]) (by kernel_rfl) (by simp) (AllReadyH.cons (o := _) rfl (fun K hK => ?_) AllReadyH.nil)
 go_simp
 (go_at_call 91; refine (KZ.o _).mono ?_; rintro en4 w4 ⟨⟨r4, rfl, f4⟩, hb4⟩; have hz4 := q0q hz0 hb4)
 try go_wp2_with fail
 refine hK.out _ _ ?_ (fun hHeld => ?_)
 ·
  (((try dsimp only); refine ⟨?_, ?_, ?_, ?_, ?_, ?_⟩ <;> (first | exact RX.o _ _ rfl _ (by assumption) | exact RC.o _ _ rfl _ (by assumption))))
 clear hK K
 try refine lyh ?_
 refine wpAnyH_ready (rs := [6]) (by kernel_rfl) (by simp) (AllReadyH.cons (o := _) rfl (fun K hK => ?_) AllReadyH.nil)
 go_simp
 (go_at_call 159; refine (KB.o _ _ (q0q HB1.o hz4) f4).mono ?_; rintro en5 w5 ⟨rfl, hb5⟩; have hz5 := q0q hz4 hb5)
 try go_wp2_with fail
 refine hK.out _ _ ?_ (fun hHeld => ?_)
 ·
  (((try dsimp only); refine ⟨?_, ?_, ?_, ?_, ?_, ?_⟩ <;> (first | exact RX.o _ _ rfl _ (by assumption) | exact RC.o _ _ rfl _ (by assumption))))
 clear hK K
 try refine lyh ?_
 refine jq 7 ?_
 refine qj 8 ?_
 refine qj 9 ?_
 refine qj 10 ?_
 refine qj 11 ?_
 refine qj 12 ?_
 refine qj 13 ?_
 refine qj 14 ?_
 refine jq 15 ?_
 refine jq 16 ?_
 refine wpAnyH_done (by kernel_rfl) ?_ _
 have HZ9 := hdd hz5
 clear hz0 hz4 hz5
 go_wp2_with fail
 go_ret
 exact ⟨by rw [HE.o]; first | done | rfl, q0q HB1.o HZ9.o⟩
end Go.Proofs.YtkkbmlkpgknhgaaGreat
