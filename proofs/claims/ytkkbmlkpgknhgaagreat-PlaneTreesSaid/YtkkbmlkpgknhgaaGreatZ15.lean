import Derived.Test.YtkkbmlkpgknhgaaGreatZ14
import Derived.Deep.DrawnRows
import Derived.Deep.RegionHeld3
set_option maxRecDepth 100000
set_option maxHeartbeats 16000000
namespace Go.Proofs.YtkkbmlkpgknhgaaGreat
open Go.RowKit
attribute [local go_sem ↓] Go.wp_at_zero Go.wp_at_succ
variable {N c' n' p : Nat} {P : Pm} {a' : Option Addr} {qs xs : List Rat} {s : Int} {t : Bool} {v x : Value} {w : World}
def h7q (s o : Int) : Bool := decide (o = 0) || decide (o = s)
theorem v5w {o : Int} (ht : h7q s o = t) :
  Calls Tryz.prog 76 #[.int .i64 s, .int .i64 o] w fun e w' => e = .returned (.bool t) ∧ Below w.heap.size w w' := by
 by_cases h0 : o = 0
 ·
  have e : t = true := by rw [← ht]; unfold h7q; simp [h0]
  subst e
  have t0 : (o == 0) = true := by simpa using h0
  clear h0 ht
  go_enter Tryz.func76, Tryz.ntmps76
  go_wp2_with fail
  go_ret
  exact ⟨rfl, Below.refl _ _⟩
 ·
  have t0 : (o == 0) = false := by simpa using h0
  have t1 : (o == s) = t := by rw [← ht]; unfold h7q; by_cases h : o = s <;> simp [h, h0] <;> omega
  clear h0 ht
  go_enter Tryz.func76, Tryz.ntmps76
  go_wp2_with fail
  go_ret
  exact ⟨rfl, Below.refl _ _⟩

theorem y7h {n m : Nat} {y : Value} {P S : Rat} (hx : SzF n w x P) (hy : SzF m w y S) (hn : n ≤ 4096) (hm : m ≤ 4096) (ht : h7q s (z7q P S) = t) :
  Calls Tryz.prog 79 #[x, .int .i64 s, y] w fun e w' => e = .returned (.bool t) ∧ Below w.heap.size w w' := by
 have HX := hdd hx
 have HY := hdd hy
 obtain ⟨b, l, k, ⟨u, d, rfl, hu, hd⟩, -⟩ := hx
 obtain ⟨ua, un, uc, hue⟩ := hu.form
 subst hue
 obtain ⟨da, dn, dc, hde⟩ := hd.form
 subst hde
 obtain ⟨b', l', k', ⟨u', d', rfl, hu', hd'⟩, -⟩ := hy
 obtain ⟨va, vn, vc, hve⟩ := hu'.form
 subst hve
 obtain ⟨ea, en, ec, hee⟩ := hd'.form
 subst hee
 clear hu hd hu' hd'
 obtain ⟨w1, hw1⟩ := qx (((w.alloc (Obj.cells #[.bool b, .slice ua un uc, .slice da dn dc] 43)).alloc (Obj.cells #[.bool b', .slice va vn vc, .slice ea en ec] 43)))
 have HB1 : Hi (Below w.heap.size w w1) := hdd (by rw [hw1]; exact ((qb).alloc qm _).alloc (by simp) _)
 have HXB : Hi (w1.heap[w.heap.size]? = some (.cells #[.bool b, .slice ua un uc, .slice da dn dc] 43 (0, 0))) := hdd (by rw [hw1]; exact heap_alloc2_old w _ _)
 have HYB : Hi (w1.heap[w.heap.size + 1]? = some (.cells #[.bool b', .slice va vn vc, .slice ea en ec] 43 (0, 0))) := hdd (by rw [hw1]; exact heap_alloc2_new w _ _)
 have HW1 := hdd hw1.symm
 have K := hdd (j1x (HX.o.below HB1.o) (HY.o.below HB1.o) hn hm)
 have hc := m8q P S
 obtain ⟨o, ho⟩ := qx (z7q P S)
 rw [← ho] at K hc ht
 obtain ⟨hc1, hc2⟩ := hc
 have hz1 := Below.refl w1.heap.size w1
 have x0 := q1q HXB.o 0 _ rfl _ hz1
 have x1 := q1q HXB.o 1 _ rfl _ hz1
 have x2 := q1q HXB.o 2 _ rfl _ hz1
 have y0 := q1q HYB.o 0 _ rfl _ hz1
 have y1 := q1q HYB.o 1 _ rfl _ hz1
 have y2 := q1q HYB.o 2 _ rfl _ hz1
 clear hw1 ho
 by_cases h0 : o = 0
 ·
  have e : t = true := by rw [← ht]; unfold h7q; simp [h0]
  subst e
  have t0 : (o == 0) = true := by simpa using h0
  clear h0 ht
  go_enter Tryz.func79, Tryz.ntmps79
  go_wp2_with fail
  rw [HW1.o]
  refine K.o.mono ?_
  rintro en2 w2 ⟨rfl, hb2⟩
  go_wp2_with fail
  go_ret
  exact ⟨rfl, q0q HB1.o hb2⟩
 ·
  have t0 : (o == 0) = false := by simpa using h0
  have t1 : (o == s) = t := by rw [← ht]; unfold h7q; by_cases h : o = s <;> simp [h, h0] <;> omega
  clear h0 ht
  go_enter Tryz.func79, Tryz.ntmps79
  go_wp2_with fail
  rw [HW1.o]
  refine K.o.mono ?_
  rintro en2 w2 ⟨rfl, hb2⟩
  go_wp2_with fail
  go_ret
  exact ⟨rfl, q0q HB1.o hb2⟩

def l4q (free : List Bool) (xs : List Rat) : Bool := decide (∀ i, i < xs.length → free[i]? = some true ∨ 0 ≤ z7q (q9q xs i) 0)
theorem f3q.at {a : Option Addr} {bs : List Bool} (h : f3q w a bs) {i : Nat} (hi : i < bs.length) :
  ∃ b B off, bs[i]? = some b ∧ a = some ⟨B, off, none⟩ ∧ ∀ w', Below w.heap.size w w' → w'.cell? ⟨B, off + i, none⟩ = some (.bool b) := by
 obtain ⟨B, off, ha, hc⟩ := h i _ (List.getElem?_eq_getElem hi)
 exact ⟨bs[i], B, off, List.getElem?_eq_getElem hi, ha, fun w' hb => q3q hb hc⟩

theorem z6x (h : y9q N w v P) (hx : z1q N w x xs) (hf : (P.free.length : Int) = P.vars) (hl : (xs.length : Int) = P.vars) (hn : xs.length ≤ 1000) :
  Calls Tryz.prog 75 #[v, x] w fun e w' => e = .returned (.bool (l4q P.free xs)) ∧ Below w.heap.size w w' := by
 have HX := hdd hx
 obtain ⟨fa, fc, ga, gc, ra, rc, rfl, hz1, hz2, hB, -, -⟩ := h
 have HBO := hdd hB
 obtain ⟨xa, xc, rfl, -⟩ := hx
 obtain ⟨n, hnn⟩ := qx (xs.length)
 have hv : P.vars = (n : Int) := by omega
 have hfl : P.free.length = n := by omega
 rw [hv, hfl, ← hnn]
 rw [← hnn] at hn HX
 have HNX := hdd hnn
 have HFL := hdd hfl
 obtain ⟨w1, hw1, HB1, HX1⟩ := al1 w #[.int .i64 (n : Int), .slice fa n fc, .slice ga P.goal.length gc, .slice ra P.rows.length rc] 26
 have HW1 := hdd hw1.symm
 clear hw1 hB hf hl hnn hv hfl hz1 hz2
 have RX := hdd (q1q HX1.o)
 have hb1 := Below.refl w1.heap.size w1
 have x0 := RX.o 0 _ rfl _ hb1
 have x1 := RX.o 1 _ rfl _ hb1
 go_enter Tryz.func75, Tryz.ntmps75
 go_wp2_with fail
 rw [HW1.o]
 go_loopw [8] (fun iv wr => ∃ i : Nat, i ≤ n ∧ iv = .int .i64 i ∧ Hi (∀ j, j < i → P.free[j]? = some true ∨ 0 ≤ z7q (q9q xs j) 0) ∧ Hi (Below w1.heap.size w1 wr)) (fun iv _ => n - (intOf iv).toNat)
 case atStart => exact ⟨0, Nat.zero_le _, rfl, hdd (fun j h => absurd h (Nat.not_lt_zero j)), hdd hb1⟩
 case round =>
  obtain ⟨i, hi, rfl, hd, hZ⟩ := hrel
  obtain ⟨wo, rfl⟩ : ∃ wo : World, wo = wr := ⟨_, rfl⟩
  by_cases hin : i < n
  ·
   have t0 : decide ((i : Int) < (n : Int)) = true := by simp; omega
   have x0 := RX.o 0 _ rfl _ hZ.o
   have x1 := RX.o 1 _ rfl _ hZ.o
   obtain ⟨fb, Bf, of, hfb, hfa, hcf⟩ := HBO.o.at (i := i) (by have := HFL.o; omega)
   subst hfa
   have f0 := hcf wo (q0q HB1.o hZ.o)
   have HFB := hdd hfb
   clear hcf hfb
   cases fb with
   | true =>
    have HD : Hi (∀ j, j < i + 1 → P.free[j]? = some true ∨ 0 ≤ z7q (q9q xs j) 0) := hdd (fun j hj => by
     by_cases e : j = i
     ·
      subst e; exact Or.inl HFB.o
     ·
      exact hd.o j (by omega))
    go_wp2_with fail
    go_roundw
    case rel => exact ⟨i + 1, by omega, by go_num, HD, hZ⟩
    case measure => simp [intOf]; omega
   | false =>
    obtain ⟨q, B, off, b, a1, n1, c1, a2, n2, c2, hq, ha, hc, hf⟩ := HX.o.at hin
    subst ha
    obtain ⟨k0, k1, k2⟩ := hc wo (q0q HB1.o hZ.o)
    have HQ := hdd (v9q hq)
    have K := hdd (j1k (hf.inF.below (q0q HB1.o hZ.o)))
    have hc9 := m8q q 0
    obtain ⟨o, ho⟩ := qx (z7q q 0)
    rw [← ho] at K hc9
    obtain ⟨ho1, ho2⟩ := hc9
    have HO := hdd ho
    clear hc hf hq ho
    by_cases h0 : o < 0
    ·
     have t1 : decide (o < 0) = true := by simpa using h0
     have HE : Hi (l4q P.free xs = false) := hdd (by
      unfold l4q
      rw [decide_eq_false_iff_not]
      intro h
      rcases h i (by have := HNX.o; omega) with e | e
      ·
       rw [HFB.o] at e; cases e
      ·
       rw [HQ.o, ← HO.o] at e; omega)
     clear h0
     go_wp2_with fail
     refine K.o.mono ?_
     rintro en2 w2 ⟨rfl, hb2⟩
     go_wp2_with fail
     go_ret
     exact ⟨by rw [HE.o]; first | done | rfl, q0q HB1.o (q0q hZ.o hb2)⟩
    ·
     have t1 : decide (o < 0) = false := by simpa using h0
     have HD : Hi (∀ j, j < i + 1 → P.free[j]? = some true ∨ 0 ≤ z7q (q9q xs j) 0) := hdd (fun j hj => by
      by_cases e : j = i
      ·
       subst e; right; rw [HQ.o, ← HO.o]; omega
      ·
       exact hd.o j (by omega))
     clear h0
     go_wp2_with fail
     refine K.o.mono ?_
     rintro en2 w2 ⟨rfl, hb2⟩
     have HZ2 := hdd (q0q hZ.o hb2)
     go_wp2_with fail
     go_roundw
     case rel => exact ⟨i + 1, by omega, by go_num, HD, HZ2⟩
     case measure => simp [intOf]; omega
  ·
   have t0 : decide ((i : Int) < (n : Int)) = false := by simp; omega
   have HE : Hi (l4q P.free xs = true) := hdd (by
    unfold l4q
    rw [decide_eq_true_eq]
    intro j hj
    exact hd.o j (by have := HNX.o; omega))
   go_wp2_with fail
   go_ret
   exact ⟨by rw [HE.o]; first | done | rfl, q0q HB1.o hZ.o⟩
def q0z (xs : List Rat) (r : List Rat × Int × Rat) : Bool := h7q r.2.1 (z7q (m9q r.1 xs) r.2.2)
def v5q (P : Pm) (xs : List Rat) : Bool := j7q P && decide ((xs.length : Int) = P.vars) && l4q P.free xs && P.rows.all (q0z xs)
theorem q3h (h : j7q P = false ∨ ¬ (xs.length : Int) = P.vars ∨ l4q P.free xs = false) : v5q P xs = false := by
 unfold v5q
 rcases h with h | h | h <;> simp [h]
theorem y5k {i : Nat} {r : List Rat × Int × Rat} (hr : P.rows[i]? = some r) (h : q0z xs r = false) : v5q P xs = false := by
 unfold v5q
 have e : P.rows.all (q0z xs) = false := by
  rw [Bool.eq_false_iff]
  intro ha
  rw [List.all_eq_true] at ha
  rw [ha r (List.mem_of_getElem? hr)] at h
  cases h
 simp [e]
theorem y5w (h1 : j7q P = true) (h2 : (xs.length : Int) = P.vars) (h3 : l4q P.free xs = true) (h4 : ∀ i r, i < P.rows.length → P.rows[i]? = some r → q0z xs r = true) : v5q P xs = true := by
 unfold v5q
 have e : P.rows.all (q0z xs) = true := by
  rw [List.all_eq_true]
  intro r hr
  obtain ⟨i, hi, rfl⟩ := List.mem_iff_getElem.1 hr
  exact h4 i _ hi (List.getElem?_eq_getElem hi)
 simp [h1, h2, h3, e]
theorem r2q (h : j7q P = true) {i : Nat} {r : List Rat × Int × Rat} (hr : P.rows[i]? = some r) : (r.1.length : Int) = P.vars := by
 unfold j7q at h
 simp only [Bool.and_eq_true] at h
 have h9 := (List.all_eq_true.1 h.2) r (List.mem_of_getElem? hr)
 simp only [b2q, decide_eq_true_eq] at h9
 exact h9.1
theorem q6z {w' : World} {v' : Value} {gs : List Rat} (h : z1q N w v gs) (h' : z1q N w' v' xs) (hl : gs.length = xs.length) (hn : xs.length ≤ 100) (hN : N * xs.length ≤ 1000) : j5q (m9q gs xs) ≤ 4002 := by
 have h1 := o3q (e1q (g := fun i => q9q gs i * q9q xs i) (lo := 0) (n := xs.length) fun i _ hi => q7j (q7z h (i := i) (by omega)) (q7z h' (i := i) (by omega))) (by omega)
 have e : 2 * N * xs.length = 2 * (N * xs.length) := Nat.mul_assoc _ _ _
 unfold m9q
 omega

theorem j1v (h : y9q N w v P) (hx : z1q N w x xs) (hfit : Fit P) (hN : N ≤ 50) (hx100 : xs.length ≤ 100) (hNn : N * xs.length ≤ 1000) :
  Calls Tryz.prog 71 #[v, x] w fun e w' => e = .returned (.bool (v5q P xs)) ∧ Below w.heap.size w w' := by
 have HP := hdd h
 have HX := hdd hx
 obtain ⟨fa, fc, ga, gc, ra, rc, rfl, hz1, hz2, hB, -, hR⟩ := h
 have HBO := hdd hB
 obtain ⟨xa, xc, rfl, -⟩ := hx
 have HR := hdd hR
 have HFIT := hdd hfit
 have HNN := hdd hNn
 obtain ⟨z, hz⟩ := qx (P.vars)
 obtain ⟨fn, hfn⟩ := qx (P.free.length)
 obtain ⟨gn, hgn⟩ := qx (P.goal.length)
 obtain ⟨rn, hrn⟩ := qx (P.rows.length)
 obtain ⟨xn, hxn⟩ := qx (xs.length)
 have h400 : rn ≤ 400 := by rw [hrn]; exact hfit.2.1
 rw [← hz] at hz1 hz2 HP ⊢
 rw [← hfn] at HP ⊢
 rw [← hgn] at HP ⊢
 rw [← hrn] at HP ⊢
 rw [← hxn] at HX hx100 HNN ⊢
 have HEQ := hdd (And.intro hz (And.intro hfn (And.intro hrn hxn)))
 obtain ⟨w1, hw1, HB1, HX1⟩ := al1 w #[.int .i64 z, .slice fa fn fc, .slice ga gn gc, .slice ra rn rc] 26
 have HW1 := hdd hw1.symm
 clear hw1 hB hR hfit hNn hz hfn hgn hrn hxn
 have RX := hdd (q1q HX1.o)
 have hb1 := Below.refl w1.heap.size w1
 obtain ⟨x0, x1, x2, x3⟩ := qz RX.o hb1
 have KR := hdd (fun w' (hb : Below w.heap.size w w') => n7q (HP.o.below hb) HFIT.o)
 cases hb : j7q P with
 | false =>
  have HE : Hi (v5q P xs = false) := hdd (q3h (Or.inl hb))
  rw [x6q hb] at KR
  clear hb
  go_enter Tryz.func71, Tryz.ntmps71
  go_wp2_with fail
  rw [HW1.o]
  refine (KR.o _ HB1.o).mono ?_
  rintro en2 w2 ⟨rfl, hb2⟩
  go_wp2_with fail
  go_ret
  exact ⟨by rw [HE.o]; first | done | rfl, q0q HB1.o hb2⟩
 | true =>
 have HRB := hdd hb
 rw [g5q hb] at KR
 clear hb
 by_cases hl : (xn : Int) = z
 case neg =>
  have t0 : ((xn : Int) != z) = true := by simpa using hl
  have HE : Hi (v5q P xs = false) := hdd (q3h (Or.inr (Or.inl (fun h => hl (by rw [HEQ.o.1, HEQ.o.2.2.2]; exact h)))))
  clear hl
  go_enter Tryz.func71, Tryz.ntmps71
  go_wp2_with fail
  rw [HW1.o]
  refine (KR.o _ HB1.o).mono ?_
  rintro en2 w2 ⟨rfl, hb2⟩
  obtain ⟨x0, x1, x2, x3⟩ := qz RX.o hb2
  go_wp2_with fail
  go_ret
  exact ⟨by rw [HE.o]; first | done | rfl, q0q HB1.o hb2⟩
 have t0 : ((xn : Int) != z) = false := by simpa using hl
 have HXZ := hdd hl
 have HLX : Hi ((xs.length : Int) = P.vars) := hdd (by rw [← HEQ.o.1, ← HEQ.o.2.2.2]; exact hl)
 have HFX : Hi (P.free.length = xn) := hdd (by have h8 := (j2q HRB.o).2.1; have h7 := HLX.o; have := HEQ.o; omega)
 clear hl
 go_enter Tryz.func71, Tryz.ntmps71
 go_wp2_with fail
 rw [HW1.o]
 refine (KR.o _ HB1.o).mono ?_
 rintro en2 w2 ⟨rfl, hb2⟩
 obtain ⟨x0, x1, x2, x3⟩ := qz RX.o hb2
 have HZ2 := hdd hb2
 clear hb2
 have KS := hdd (z6x (HP.o.below (q0q HB1.o HZ2.o)) (HX.o.below (q0q HB1.o HZ2.o) |> fun h => (by have := HEQ.o.2.2.2; subst this; exact h : z1q N w2 (.slice xa xn xc) xs)) (j2q HRB.o).2.1 HLX.o (by have := HEQ.o; omega))
 go_wp2_with fail
 refine KS.o.mono ?_
 rintro en3 w3 ⟨he3, hb3⟩
 have HZ3 := hdd (q0q HZ2.o hb3)
 clear hb3 x0 x1 x2 x3
 obtain ⟨x0, x1, x2, x3⟩ := qz RX.o HZ3.o
 cases hs : l4q P.free xs with
 | false =>
  rw [hs] at he3
  subst he3
  have HE : Hi (v5q P xs = false) := hdd (q3h (Or.inr (Or.inr hs)))
  clear hs
  go_wp2_with fail
  go_ret
  exact ⟨by rw [HE.o]; first | done | rfl, q0q HB1.o HZ3.o⟩
 | true =>
 rw [hs] at he3
 subst he3
 have HSG := hdd hs
 clear hs
 go_wp2_with fail
 go_loopw [26] (fun iv wr => ∃ i : Nat, i ≤ rn ∧ iv = .int .i64 i ∧ Hi (∀ x r, x < i → P.rows[x]? = some r → q0z xs r = true) ∧ Hi (Below w1.heap.size w1 wr)) (fun iv _ => rn - (intOf iv).toNat)
 case atStart => exact ⟨0, Nat.zero_le _, rfl, hdd (fun x r h => absurd h (Nat.not_lt_zero x)), HZ3⟩
 case round =>
  obtain ⟨i, hi, rfl, hd, hZ⟩ := hrel
  obtain ⟨wo, rfl⟩ : ∃ wo : World, wo = wr := ⟨_, rfl⟩
  by_cases hin : i < rn
  ·
   have t6 : decide ((i : Int) < (rn : Int)) = true := by simp; omega
   obtain ⟨r, B, off, a1, c1, b, a2, n2, c2, a3, n3, c3, hr, ha, hlr, hfr, hz3, hz4, hc⟩ := HR.o.at (i := i) (by have := HEQ.o; omega)
   subst ha
   obtain ⟨f0, f1, f2, f3, f4⟩ := hc wo (q0q HB1.o hZ.o)
   have HRI := hdd hr
   have hrl := r2q HRB.o hr
   have hn1 : r.1.length = xn := by have := HXZ.o; have := HEQ.o; omega
   rw [hn1] at f0 hlr
   have HRL := hdd hn1
   have HLR := hdd hlr
   have HFR := hdd hfr
   obtain ⟨sn, hsn⟩ := qx (r.2.1)
   rw [← hsn] at f1 hz3 hz4
   obtain ⟨q, hq⟩ := qx (r.2.2)
   rw [← hq] at HFR
   obtain ⟨D, hD⟩ := qx (m9q r.1 xs)
   have HLD : Hi (j5q D ≤ 4002) := hdd (by rw [hD]; exact q6z hlr HX.o (by have := HEQ.o; omega) (by have := HEQ.o; omega) (by have h8 := HNN.o; have h7 := HEQ.o.2.2.2; rw [← h7]; exact h8))
   have HROW : Hi (q0z xs r = h7q sn (z7q D q)) := hdd (by unfold q0z; rw [hsn, hq, hD])
   have HD0 := hdd hD
   have hc9 := m8q D q
   obtain ⟨o, ho⟩ := qx (z7q D q)
   rw [← ho] at HROW hc9
   obtain ⟨ho1, ho2⟩ := hc9
   have HO := hdd ho
   clear hc hr hn1 hsn hq hD hlr hfr hrl ho
   go_wp2_with ((with_reducible refine j9q ?_); refine q6q rfl _ _ _ rfl wo.heap.size rfl _ rfl _ _ (heap_alloc_new _ _) w0q rfl f0q ?_; intro w4 h4 hon4; refine y0q ?_)
   have hb4 : Below wo.heap.size wo w4 := q4q ((qb).alloc qm _) hon4 qm
   have HB4 := hdd (q0q hZ.o hb4)
   have HW4 := hdd (q0q HB1.o HB4.o)
   have RY := hdd (q1q h4)
   have hb5 := Below.refl w4.heap.size w4
   have y0 := RY.o 0 _ rfl _ hb5
   have y1 := RY.o 1 _ rfl _ hb5
   have y2 := RY.o 2 _ rfl _ hb5
   have y3 := RY.o 3 _ rfl _ hb5
   have y4 := RY.o 4 _ rfl _ hb5
   clear h4 hon4 hb4 f0 f1 f2 f3 f4
   refine z2q ?_
   have KPR := hdd (fun w' g (hb : Below w4.heap.size w4 w') (hg : w'.cell? ⟨g, 0, none⟩ = some (.slice a1 xn c1)) => j7x (w := w') hg (HLR.o.below (q0q HW4.o hb)) (HX.o.below (q0q HW4.o hb)) qm hN hx100 HNN.o)
   have HDS : Hi (j8q (fun i => q9q r.1 i * q9q xs i) 0 xn = D) := hdd (by rw [HD0.o]; unfold m9q; rw [← HEQ.o.2.2.2])
   rw [HDS.o] at KPR
   have KC := hdd (fun w' y (hb : Below w4.heap.size w4 w') (hy : j3q w' y D) => z4j (w := w') (hy.inF (by have := HLD.o; omega)) (HFR.o.inF.below (q0q HW4.o hb)))
   rw [← HO.o] at KC
   have KH0 : Hi (∀ t, h7q sn o = t → ∀ w', Calls Tryz.prog 76 #[.int .i64 sn, .int .i64 o] w' fun e w'' => e = .returned (.bool t) ∧ Below w'.heap.size w' w'') := hdd (fun t ht w' => v5w ht)
   go_wp2_with fail
   have hz0 : Below w4.heap.size w4 w4.drew := q5q hb5 1
   cases ht : h7q sn o with
   | false =>
    have HE : Hi (v5q P xs = false) := hdd (y5k HRI.o (by rw [HROW.o]; exact ht))
    have KH := hdd (KH0.o false ht)
    clear ht
    go_region_held3 (fun w' => w'.cell? ⟨wo.heap.size, 0, none⟩ = some (.slice a1 xn c1) ∧ w'.cell? ⟨wo.heap.size, 1, none⟩ = some (.int .i64 sn) ∧ w'.cell? ⟨wo.heap.size, 2, none⟩ = some (.bool b) ∧ w'.cell? ⟨wo.heap.size, 3, none⟩ = some (.slice a2 n2 c2) ∧ w'.cell? ⟨wo.heap.size, 4, none⟩ = some (.slice a3 n3 c3))
     (((try dsimp only); refine ⟨?_, ?_, ?_, ?_, ?_⟩ <;> (first | exact RY.o _ _ rfl _ (by assumption))))
     (first | (go_at_call 21; refine (q1k).mono ?_; rintro en5 w5 ⟨⟨g5, rfl, hg5⟩, hb5'⟩; have hz5 := q0q hz0 hb5') | (go_at_call 70; refine (KPR.o _ _ hz5 hg5).mono ?_; rintro en6 w6 ⟨⟨v6, rfl, f6⟩, hb6⟩; obtain ⟨a6, n6, c6, i6, j6, k6, hq6⟩ := q8q f6; subst hq6; have hz6 := q0q hz5 hb6) | (go_at_call 103; refine (KC.o _ _ hz6 f6).mono ?_; rintro en7 w7 ⟨rfl, hb7⟩; have hz7 := q0q hz6 hb7) | (go_at_call 76; refine (KH.o _).mono ?_; rintro en8 w8 ⟨rfl, hb8⟩; have hz9 := q0q hz7 hb8))
    all_goals
     have HZ9 := hdd (q0q HB4.o hz9)
     go_wp2_with fail
     go_ret
     exact ⟨by rw [HE.o]; first | done | rfl, q0q HB1.o HZ9.o⟩
   | true =>
    have HD : Hi (∀ x r', x < i + 1 → P.rows[x]? = some r' → q0z xs r' = true) := hdd (fun x r' hx hr => by
     by_cases e : x = i
     ·
      subst e
      rw [HRI.o] at hr
      cases hr
      rw [HROW.o]; exact ht
     ·
      exact hd.o x r' (by omega) hr)
    have KH := hdd (KH0.o true ht)
    clear ht
    go_region_held3 (fun w' => w'.cell? ⟨wo.heap.size, 0, none⟩ = some (.slice a1 xn c1) ∧ w'.cell? ⟨wo.heap.size, 1, none⟩ = some (.int .i64 sn) ∧ w'.cell? ⟨wo.heap.size, 2, none⟩ = some (.bool b) ∧ w'.cell? ⟨wo.heap.size, 3, none⟩ = some (.slice a2 n2 c2) ∧ w'.cell? ⟨wo.heap.size, 4, none⟩ = some (.slice a3 n3 c3))
     (((try dsimp only); refine ⟨?_, ?_, ?_, ?_, ?_⟩ <;> (first | exact RY.o _ _ rfl _ (by assumption))))
     (first | (go_at_call 21; refine (q1k).mono ?_; rintro en5 w5 ⟨⟨g5, rfl, hg5⟩, hb5'⟩; have hz5 := q0q hz0 hb5') | (go_at_call 70; refine (KPR.o _ _ hz5 hg5).mono ?_; rintro en6 w6 ⟨⟨v6, rfl, f6⟩, hb6⟩; obtain ⟨a6, n6, c6, i6, j6, k6, hq6⟩ := q8q f6; subst hq6; have hz6 := q0q hz5 hb6) | (go_at_call 103; refine (KC.o _ _ hz6 f6).mono ?_; rintro en7 w7 ⟨rfl, hb7⟩; have hz7 := q0q hz6 hb7) | (go_at_call 76; refine (KH.o _).mono ?_; rintro en8 w8 ⟨rfl, hb8⟩; have hz9 := q0q hz7 hb8))
    all_goals
     have HZ9 := hdd (q0q HB4.o hz9)
     clear hz9
     go_wp2_with fail
     go_roundw
    all_goals first
     | exact ⟨i + 1, by omega, by go_num, HD, HZ9⟩
     | (simp [intOf]; omega)
  ·
   have t6 : decide ((i : Int) < (rn : Int)) = false := by simp; omega
   have HE : Hi (v5q P xs = true) := hdd (y5w HRB.o HLX.o HSG.o (fun x r hx hr => hd.o x r (by have := HEQ.o; omega) hr))
   go_wp2_with fail
   go_ret
   exact ⟨by rw [HE.o]; first | done | rfl, q0q HB1.o hZ.o⟩

theorem q4y (h : y9q N w v P) (hx : z1q N w x xs) (hfit : Fit P) (hN : N ≤ 50) (hx100 : xs.length ≤ 100) (hNn : N * xs.length ≤ 1000) :
  Calls Tryz.prog 46 #[v, x] w fun e w' => e = .returned (.bool (v5q P xs)) ∧ Below w.heap.size w w' := by
 have HP := hdd h
 have HX := hdd hx
 obtain ⟨fa, fc, ga, gc, ra, rc, rfl, hz1, hz2, hB, -, hR⟩ := h
 have HBO := hdd hB
 obtain ⟨xa, xc, rfl, -⟩ := hx
 have HR := hdd hR
 have HFIT := hdd hfit
 have HNN := hdd hNn
 obtain ⟨z, hz⟩ := qx (P.vars)
 obtain ⟨fn, hfn⟩ := qx (P.free.length)
 obtain ⟨gn, hgn⟩ := qx (P.goal.length)
 obtain ⟨rn, hrn⟩ := qx (P.rows.length)
 obtain ⟨xn, hxn⟩ := qx (xs.length)
 have h400 : rn ≤ 400 := by rw [hrn]; exact hfit.2.1
 rw [← hz] at hz1 hz2 HP ⊢
 rw [← hfn] at HP ⊢
 rw [← hgn] at HP ⊢
 rw [← hrn] at HP ⊢
 rw [← hxn] at HX hx100 HNN ⊢
 have HEQ := hdd (And.intro hz (And.intro hfn (And.intro hrn hxn)))
 obtain ⟨w1, hw1, HB1, HX1⟩ := al1 w #[.int .i64 z, .slice fa fn fc, .slice ga gn gc, .slice ra rn rc] 26
 have HW1 := hdd hw1.symm
 clear hw1 hB hR hfit hNn hz hfn hgn hrn hxn
 have RX := hdd (q1q HX1.o)
 have hb1 := Below.refl w1.heap.size w1
 obtain ⟨x0, x1, x2, x3⟩ := qz RX.o hb1
 have KR := hdd (fun w' (hb : Below w.heap.size w w') => f7q (HP.o.below hb) HFIT.o)
 cases hb : j7q P with
 | false =>
  have HE : Hi (v5q P xs = false) := hdd (q3h (Or.inl hb))
  rw [x6q hb] at KR
  clear hb
  go_enter Tryz.func46, Tryz.ntmps46
  go_wp2_with fail
  rw [HW1.o]
  refine (KR.o _ HB1.o).mono ?_
  rintro en2 w2 ⟨rfl, hb2⟩
  go_wp2_with fail
  go_ret
  exact ⟨by rw [HE.o]; first | done | rfl, q0q HB1.o hb2⟩
 | true =>
 have HRB := hdd hb
 rw [g5q hb] at KR
 clear hb
 by_cases hl : (xn : Int) = z
 case neg =>
  have t0 : ((xn : Int) != z) = true := by simpa using hl
  have HE : Hi (v5q P xs = false) := hdd (q3h (Or.inr (Or.inl (fun h => hl (by rw [HEQ.o.1, HEQ.o.2.2.2]; exact h)))))
  clear hl
  go_enter Tryz.func46, Tryz.ntmps46
  go_wp2_with fail
  rw [HW1.o]
  refine (KR.o _ HB1.o).mono ?_
  rintro en2 w2 ⟨rfl, hb2⟩
  obtain ⟨x0, x1, x2, x3⟩ := qz RX.o hb2
  go_wp2_with fail
  go_ret
  exact ⟨by rw [HE.o]; first | done | rfl, q0q HB1.o hb2⟩
 have t0 : ((xn : Int) != z) = false := by simpa using hl
 have HXZ := hdd hl
 have HLX : Hi ((xs.length : Int) = P.vars) := hdd (by rw [← HEQ.o.1, ← HEQ.o.2.2.2]; exact hl)
 have HFX : Hi (P.free.length = xn) := hdd (by have h8 := (j2q HRB.o).2.1; have h7 := HLX.o; have := HEQ.o; omega)
 clear hl
 go_enter Tryz.func46, Tryz.ntmps46
 go_wp2_with fail
 rw [HW1.o]
 refine (KR.o _ HB1.o).mono ?_
 rintro en2 w2 ⟨rfl, hb2⟩
 obtain ⟨x0, x1, x2, x3⟩ := qz RX.o hb2
 have HZ2 := hdd hb2
 clear hb2
 go_wp2_with fail
 go_loopw [21] (fun iv wr => ∃ i : Nat, i ≤ xn ∧ iv = .int .i64 i ∧ Hi (∀ j, j < i → P.free[j]? = some true ∨ 0 ≤ z7q (q9q xs j) 0) ∧ Hi (Below w1.heap.size w1 wr)) (fun iv _ => xn - (intOf iv).toNat)
 case atStart => exact ⟨0, Nat.zero_le _, rfl, hdd (fun j h => absurd h (Nat.not_lt_zero j)), HZ2⟩
 case round =>
  obtain ⟨i, hi, rfl, hd, hZ⟩ := hrel
  obtain ⟨wo, rfl⟩ : ∃ wo : World, wo = wr := ⟨_, rfl⟩
  by_cases hin : i < xn
  ·
   have t1 : decide ((i : Int) < (xn : Int)) = true := by simp; omega
   obtain ⟨q, B, off, b, a1, n1, c1, a2, n2, c2, hq, ha, hc, hf⟩ := HX.o.at hin
   subst ha
   obtain ⟨k0, k1, k2⟩ := hc wo (q0q HB1.o hZ.o)
   obtain ⟨fb, Bf, of, hfb, hfa, hcf⟩ := HBO.o.at (i := i) (by have := HFX.o; omega)
   subst hfa
   have hfnx : Hi (fn = xn) := hdd (by have := HFX.o; have := HEQ.o; omega)
   have HFB := hdd hfb
   have HQ := hdd (v9q hq)
   have HF := hdd hf
   have HCF := hdd hcf
   clear hc hf hq hfb hcf
   have hil : i < fn := by have := hfnx.o; omega
   go_wp2_with ((with_reducible refine j9q ?_); refine q6q rfl _ _ _ rfl wo.heap.size rfl _ rfl _ _ (heap_alloc_new _ _) v0q rfl x3q ?_; intro w4 h4 hon4; refine y0q ?_)
   have hb4 : Below wo.heap.size wo w4 := q4q ((qb).alloc qm _) hon4 qm
   have HZ4 := hdd (q0q hZ.o hb4)
   have y0 := q1q h4 0 _ rfl _ qb
   have y1 := q1q h4 1 _ rfl _ qb
   have y2 := q1q h4 2 _ rfl _ qb
   have x0 := RX.o 0 _ rfl _ HZ4.o
   have x1 := RX.o 1 _ rfl _ HZ4.o
   have f0 := HCF.o w4 (q0q HB1.o HZ4.o)
   clear h4 hon4 hb4 k0 k1 k2
   refine z2q ?_
   cases fb with
   | true =>
    have HD : Hi (∀ j, j < i + 1 → P.free[j]? = some true ∨ 0 ≤ z7q (q9q xs j) 0) := hdd (fun j hj => by
     by_cases e : j = i
     ·
      subst e; exact Or.inl HFB.o
     ·
      exact hd.o j (by omega))
    go_wp2_with fail
    go_roundw
    case rel => exact ⟨i + 1, by omega, by go_num, HD, HZ4⟩
    case measure => simp [intOf]; omega
   | false =>
    have K := hdd (z8k (HF.o.below (q0q HB1.o HZ4.o)) (by omega))
    have hc9 := m8q q 0
    obtain ⟨o, ho⟩ := qx (z7q q 0)
    rw [← ho] at K hc9
    obtain ⟨ho1, ho2⟩ := hc9
    have HO := hdd ho
    clear ho
    by_cases h0 : o < 0
    ·
     have t2 : decide (o < 0) = true := by simpa using h0
     have HE : Hi (v5q P xs = false) := hdd (q3h (Or.inr (Or.inr (by
      unfold l4q
      rw [decide_eq_false_iff_not]
      intro h
      rcases h i (by have := HEQ.o; omega) with e | e
      ·
       rw [HFB.o] at e; cases e
      ·
       rw [HQ.o, ← HO.o] at e; omega))))
     clear h0
     go_wp2_with fail
     refine K.o.mono ?_
     rintro en5 w5 ⟨rfl, hb5⟩
     go_wp2_with fail
     go_ret
     exact ⟨by rw [HE.o]; first | done | rfl, q0q HB1.o (q0q HZ4.o hb5)⟩
    ·
     have t2 : decide (o < 0) = false := by simpa using h0
     have HD : Hi (∀ j, j < i + 1 → P.free[j]? = some true ∨ 0 ≤ z7q (q9q xs j) 0) := hdd (fun j hj => by
      by_cases e : j = i
      ·
       subst e; right; rw [HQ.o, ← HO.o]; omega
      ·
       exact hd.o j (by omega))
     clear h0
     go_wp2_with fail
     refine K.o.mono ?_
     rintro en5 w5 ⟨rfl, hb5⟩
     have HZ5 := hdd (q0q HZ4.o hb5)
     go_wp2_with fail
     go_roundw
     case rel => exact ⟨i + 1, by omega, by go_num, HD, HZ5⟩
     case measure => simp [intOf]; omega
  ·
   have t1 : decide ((i : Int) < (xn : Int)) = false := by simp; omega
   have HSG : Hi (l4q P.free xs = true) := hdd (by
    unfold l4q
    rw [decide_eq_true_eq]
    intro j hj
    exact hd.o j (by have := HEQ.o; omega))
   obtain ⟨x0, x1, x2, x3⟩ := qz RX.o hZ.o
   have HZ3 := hZ
   go_wp2_with fail
   go_loopw [41] (fun iv wr => ∃ i : Nat, i ≤ rn ∧ iv = .int .i64 i ∧ Hi (∀ x r, x < i → P.rows[x]? = some r → q0z xs r = true) ∧ Hi (Below w1.heap.size w1 wr)) (fun iv _ => rn - (intOf iv).toNat)
   case atStart => exact ⟨0, Nat.zero_le _, rfl, hdd (fun x r h => absurd h (Nat.not_lt_zero x)), HZ3⟩
   case round =>
    obtain ⟨i, hi, rfl, hd, hZ⟩ := hrel
    obtain ⟨wo, rfl⟩ : ∃ wo : World, wo = wr := ⟨_, rfl⟩
    by_cases hin : i < rn
    ·
     have t6 : decide ((i : Int) < (rn : Int)) = true := by simp; omega
     obtain ⟨r, B, off, a1, c1, b, a2, n2, c2, a3, n3, c3, hr, ha, hlr, hfr, hz3, hz4, hc⟩ := HR.o.at (i := i) (by have := HEQ.o; omega)
     subst ha
     obtain ⟨f0, f1, f2, f3, f4⟩ := hc wo (q0q HB1.o hZ.o)
     have HRI := hdd hr
     have hrl := r2q HRB.o hr
     have hn1 : r.1.length = xn := by have := HXZ.o; have := HEQ.o; omega
     rw [hn1] at f0 hlr
     have HRL := hdd hn1
     have HLR := hdd hlr
     have HFR := hdd hfr
     obtain ⟨sn, hsn⟩ := qx (r.2.1)
     rw [← hsn] at f1 hz3 hz4
     obtain ⟨q, hq⟩ := qx (r.2.2)
     rw [← hq] at HFR
     obtain ⟨D, hD⟩ := qx (m9q r.1 xs)
     have HLD : Hi (j5q D ≤ 4002) := hdd (by rw [hD]; exact q6z hlr HX.o (by have := HEQ.o; omega) (by have := HEQ.o; omega) (by have h8 := HNN.o; have h7 := HEQ.o.2.2.2; rw [← h7]; exact h8))
     have HROW : Hi (q0z xs r = h7q sn (z7q D q)) := hdd (by unfold q0z; rw [hsn, hq, hD])
     have HD0 := hdd hD
     have hc9 := m8q D q
     obtain ⟨o, ho⟩ := qx (z7q D q)
     rw [← ho] at HROW hc9
     obtain ⟨ho1, ho2⟩ := hc9
     have HO := hdd ho
     clear hc hr hn1 hsn hq hD hlr hfr hrl ho
     go_wp2_with ((with_reducible refine j9q ?_); refine q6q rfl _ _ _ rfl wo.heap.size rfl _ rfl _ _ (heap_alloc_new _ _) w0q rfl f0q ?_; intro w4 h4 hon4; refine y0q ?_)
     have hb4 : Below wo.heap.size wo w4 := q4q ((qb).alloc qm _) hon4 qm
     have HB4 := hdd (q0q hZ.o hb4)
     have HW4 := hdd (q0q HB1.o HB4.o)
     have RY := hdd (q1q h4)
     have hb5 := Below.refl w4.heap.size w4
     have y0 := RY.o 0 _ rfl _ hb5
     have y1 := RY.o 1 _ rfl _ hb5
     have y2 := RY.o 2 _ rfl _ hb5
     have y3 := RY.o 3 _ rfl _ hb5
     have y4 := RY.o 4 _ rfl _ hb5
     clear h4 hon4 hb4 f0 f1 f2 f3 f4
     refine z2q ?_
     have KD := hdd (fun w' (hb : Below w4.heap.size w4 w') => j9h (w := w') ((by have h9 := HLR.o; exact h9 : z1q N w (.slice a1 xn c1) r.1).below (q0q HW4.o hb)) (HX.o.below (q0q HW4.o hb)) hN (by have := HRL.o; omega) (by have := HEQ.o; omega) (by rw [HRL.o]; exact HNN.o))
     have HDS : Hi (j8q (fun i => q9q r.1 i * q9q xs i) 0 (min r.1.length xs.length) = D) := hdd (by rw [HD0.o]; unfold m9q; rw [HRL.o, ← HEQ.o.2.2.2, Nat.min_self])
     rw [HDS.o] at KD
     have KH0 : Hi (∀ t, h7q sn o = t → ∀ w' y, Below w4.heap.size w4 w' → j3q w' y D → Calls Tryz.prog 79 #[y, .int .i64 sn, .agg #[.bool b, .slice a2 n2 c2, .slice a3 n3 c3]] w' fun e w'' => e = .returned (.bool t) ∧ Below w'.heap.size w' w'') := hdd (fun t ht w' y hb hy => y7h (n := 4096) (m := 2 * N) (hy.sz (by have := HLD.o; omega) (by have := HLD.o; omega)) ((HFR.o.below (q0q HW4.o hb)).sz) (by omega) (by omega) (by rw [← HO.o]; exact ht))
     go_wp2_with fail
     have hz0 : Below w4.heap.size w4 w4.drew := q5q hb5 1
     cases ht : h7q sn o with
     | false =>
      have HE : Hi (v5q P xs = false) := hdd (y5k HRI.o (by rw [HROW.o]; exact ht))
      have KH := hdd (KH0.o false ht)
      clear ht
      go_region_held3 (fun w' => w'.cell? ⟨wo.heap.size, 0, none⟩ = some (.slice a1 xn c1) ∧ w'.cell? ⟨wo.heap.size, 1, none⟩ = some (.int .i64 sn) ∧ w'.cell? ⟨wo.heap.size, 2, none⟩ = some (.bool b) ∧ w'.cell? ⟨wo.heap.size, 3, none⟩ = some (.slice a2 n2 c2) ∧ w'.cell? ⟨wo.heap.size, 4, none⟩ = some (.slice a3 n3 c3))
       (((try dsimp only); refine ⟨?_, ?_, ?_, ?_, ?_⟩ <;> (first | exact RY.o _ _ rfl _ (by assumption))))
       (first | (go_at_call 80; refine (KD.o _ hz0).mono ?_; rintro en6 w6 ⟨⟨v6, rfl, f6⟩, hb6⟩; obtain ⟨a6, n6, c6, i6, j6, k6, hq6⟩ := q8q f6; subst hq6; have hz6 := q0q hz0 hb6) | (go_at_call 79; refine (KH.o _ _ hz6 f6).mono ?_; rintro en8 w8 ⟨rfl, hb8⟩; have hz9 := q0q hz6 hb8))
      all_goals
       have HZ9 := hdd (q0q HB4.o hz9)
       go_wp2_with fail
       go_ret
       exact ⟨by rw [HE.o]; first | done | rfl, q0q HB1.o HZ9.o⟩
     | true =>
      have HD : Hi (∀ x r', x < i + 1 → P.rows[x]? = some r' → q0z xs r' = true) := hdd (fun x r' hx hr => by
       by_cases e : x = i
       ·
        subst e
        rw [HRI.o] at hr
        cases hr
        rw [HROW.o]; exact ht
       ·
        exact hd.o x r' (by omega) hr)
      have KH := hdd (KH0.o true ht)
      clear ht
      go_region_held3 (fun w' => w'.cell? ⟨wo.heap.size, 0, none⟩ = some (.slice a1 xn c1) ∧ w'.cell? ⟨wo.heap.size, 1, none⟩ = some (.int .i64 sn) ∧ w'.cell? ⟨wo.heap.size, 2, none⟩ = some (.bool b) ∧ w'.cell? ⟨wo.heap.size, 3, none⟩ = some (.slice a2 n2 c2) ∧ w'.cell? ⟨wo.heap.size, 4, none⟩ = some (.slice a3 n3 c3))
       (((try dsimp only); refine ⟨?_, ?_, ?_, ?_, ?_⟩ <;> (first | exact RY.o _ _ rfl _ (by assumption))))
       (first | (go_at_call 80; refine (KD.o _ hz0).mono ?_; rintro en6 w6 ⟨⟨v6, rfl, f6⟩, hb6⟩; obtain ⟨a6, n6, c6, i6, j6, k6, hq6⟩ := q8q f6; subst hq6; have hz6 := q0q hz0 hb6) | (go_at_call 79; refine (KH.o _ _ hz6 f6).mono ?_; rintro en8 w8 ⟨rfl, hb8⟩; have hz9 := q0q hz6 hb8))
      all_goals
       have HZ9 := hdd (q0q HB4.o hz9)
       clear hz9
       go_wp2_with fail
       go_roundw
      all_goals first
       | exact ⟨i + 1, by omega, by go_num, HD, HZ9⟩
       | (simp [intOf]; omega)
    ·
     have t6 : decide ((i : Int) < (rn : Int)) = false := by simp; omega
     have HE : Hi (v5q P xs = true) := hdd (y5w HRB.o HLX.o HSG.o (fun x r hx hr => hd.o x r (by have := HEQ.o; omega) hr))
     go_wp2_with fail
     go_ret
     exact ⟨by rw [HE.o]; first | done | rfl, q0q HB1.o hZ.o⟩
theorem y7x {g : Nat → Rat}
  (HG : ∀ (i : Nat) (w' : World), i < n' → Below w.heap.size w w' → Calls Tryz.prog 60 #[.int .i64 (i : Nat), Value.pointer (some ⟨p, 0, none⟩)] w' (q5j N w w' (g i))) (hl' : z1q N w (.slice a' n' c') qs) (hN : N ≤ 50) (hn : n' ≤ 100) (hNn : N * n' ≤ 1000) :
  Calls Tryz.prog 70 #[.func (.func 60) #[] #[Value.pointer (some ⟨p, 0, none⟩)], .slice a' n' c'] w (h0q w (j8q (fun i => g i * q9q qs i) 0 n')) := by
 have HGH := hdd HG
 obtain ⟨w1, hw1, HB1, HR1⟩ := al1 w #[.bool false, .slice none 0 0, .slice none 0 0] 43
 have HW1 := hdd hw1.symm
 have HL' := hdd (hl'.below HB1.o)
 have HNN := hdd hNn
 have hn'100 : n' ≤ 100 := by omega
 obtain ⟨T, hT⟩ : ∃ T : Nat → Rat, T = fun i => g i * q9q qs i := ⟨_, rfl⟩
 have HT : Hi (∀ i, T i = g i * q9q qs i) := hdd (fun i => by rw [hT])
 rw [← hT]
 have KG := hdd (fun w' i (hi : i < n') (hb : Below w1.heap.size w1 w') => HGH.o i w' hi (q0q HB1.o hb))
 clear hw1 HG hl' hNn hT
 go_enter Tryz.func70, Tryz.ntmps70
 go_wp2_with fail
 rw [HW1.o]
 go_loopw [5, 6, 12] (fun av bv iv wr => ∃ (i k : Nat) (oa ob : Option Addr) (oc od : Nat) (ps rs : List Rat), i ≤ n' ∧ k ≤ i ∧ iv = .int .i64 i ∧ av = .slice oa k oc ∧ bv = .slice ob k od ∧ Hi (ps.length = k ∧ rs.length = k) ∧ Hi (LFs N wr w1.heap.size (.slice oa k oc) ps) ∧ Hi (LFs N wr w1.heap.size (.slice ob k od) rs) ∧
  Hi (∀ g, (Value.slice oa k oc).ownBlock = some g → (Value.slice ob k od).ownBlock ≠ some g) ∧ Hi (j8q (fun j => q9q ps j * q9q rs j) 0 k = j8q T 0 i) ∧ Hi (Below w1.heap.size w1 wr)) (fun _ _ iv _ => n' - (intOf iv).toNat)
 case atStart => exact ⟨0, 0, none, none, 0, 0, [], [], Nat.zero_le _, Nat.le_refl _, rfl, rfl, rfl, hdd ⟨rfl, rfl⟩, hdd (LFs.nil _ _ _), hdd (LFs.nil _ _ _), hdd (fun g h => by simp [Value.ownBlock] at h), hdd rfl, hdd qb⟩
 case round =>
  obtain ⟨i, k, oa, ob, oc, od, ps, rs, hi, hki, rfl, rfl, rfl, hlen, hA, hB, hne, hsum, hZ⟩ := hrel
  obtain ⟨wo, rfl⟩ : ∃ wo : World, wo = wr := ⟨_, rfl⟩
  by_cases hin : i < n'
  ·
   have t0 : decide ((i : Int) < (n' : Int)) = true := by simp; omega
   obtain ⟨q, B, off, b, a1, n1, c1, a2, n2, c2, hq, ha, hc, hf⟩ := HL'.o.at hin
   subst ha
   obtain ⟨x0, x1, x2⟩ := hc wo hZ.o
   have HF := hdd hf
   have HQ := hdd (v9q hq)
   clear hc hf hq
   go_wp2_with ((with_reducible refine j9q ?_); refine q6q rfl _ _ _ rfl wo.heap.size rfl _ rfl _ _ (heap_alloc_new _ _) v0q rfl x3q ?_; intro w4 h4 hon4; refine y0q ?_)
   have hb4 : Below wo.heap.size wo w4 := q4q ((qb).alloc qm _) hon4 qm
   have HB4 := hdd (q0q hZ.o hb4)
   have HO4 := hdd hb4
   have RY := hdd (q1q h4)
   have HRY4 := hdd h4
   have K := hdd (KG.o w4 i hin HB4.o)
   clear h4 hon4 hb4 x0 x1 x2
   refine z2q ?_
   go_wp2_with fail
   refine K.o.mono ?_
   rintro en5 w5 ⟨⟨b5, a5, n5, c5, i5, j5, k5, rfl, f5⟩, hb5⟩
   have HF5 := hdd (f5.below HB1.o)
   have HB5 := hdd hb5
   clear f5
   go_wp2_with ((with_reducible refine j9q ?_); refine q6q rfl _ _ _ rfl w5.heap.size rfl _ rfl _ _ (heap_alloc_new _ _) v0q rfl x3q ?_; intro w6 h6 hon6; refine y0q ?_)
   have hb6 : Below w5.heap.size w5 w6 := q4q ((qb).alloc qm _) hon6 qm
   have HZ6 := hdd (q0q HB4.o (q0q hb5 hb6))
   have HO6 := hdd (q0q HO4.o (q0q hb5 hb6))
   have RG := hdd (q1q h6)
   have HY6 := hdd (q0q hb5 hb6)
   have hz6 := Below.refl w6.heap.size w6
   have y0 := RY.o 0 _ rfl _ HY6.o
   have y1 := RY.o 1 _ rfl _ HY6.o
   have y2 := RY.o 2 _ rfl _ HY6.o
   have g0 := RG.o 0 _ rfl _ hz6
   have g1 := RG.o 1 _ rfl _ hz6
   have g2 := RG.o 2 _ rfl _ hz6
   have HRG := hdd h6
   have HRY : Hi (w6.heap[wo.heap.size]? = some (.cells #[.bool b, .slice a1 n1 c1, .slice a2 n2 c2] 43 (0, 0))) := hdd ((HY6.o.block _ (lt_of_block HRY4.o)).trans HRY4.o)
   have HLT : Hi (wo.heap.size < w6.heap.size ∧ w5.heap.size < w6.heap.size ∧ wo.heap.size ≤ w5.heap.size) := hdd ⟨lt_of_block HRY.o, lt_of_block HRG.o, by have h7 := HO4.o.size; have h8 := HB5.o.size; omega⟩
   have HLA : Hi (∀ g, (Value.slice oa k oc).ownBlock = some g → g < w6.heap.size) := hdd (fun g hg => by have := (hA.o.lt g hg).2; have := HLT.o; omega)
   clear h6 hon6 hb6 hb5 hz6
   refine z2q ?_
   have hln1 : n1 ≤ 1073741824 := by
    obtain ⟨_, _, _, ⟨_, _, he, hu, _⟩, _, _, _⟩ := HF.o
    simp only [Value.agg.injEq, Array.mk.injEq, List.cons.injEq, and_true] at he
    obtain ⟨-, rfl, -⟩ := he
    have := hu.lenE; have := hu.len; omega
   have hln5 : n5 ≤ 1073741824 := by
    obtain ⟨_, _, _, ⟨_, _, he, hu, _⟩, _, _, _⟩ := HF5.o
    simp only [Value.agg.injEq, Array.mk.injEq, List.cons.injEq, and_true] at he
    obtain ⟨-, rfl, -⟩ := he
    have := hu.lenE; have := hu.len; omega
   have HNX : Hi (j8q T 0 (i + 1) = j8q T 0 i + g i * q) := hdd (by
    rw [← i4q, HT.o, HQ.o])
   by_cases h1 : 0 < n1
   ·
    have u1 : decide ((0 : Int) < (n1 : Int)) = true := by simp; omega
    by_cases h3 : 0 < n5
    ·
     have u3 : decide ((0 : Int) < (n5 : Int)) = true := by simp; omega
     have hI0 : y2q N w6 w1.heap.size (Value.slice oa k oc) (Value.slice ob k od) ps rs w6.drew := y2q.drew ⟨hA.o.below HO6.o, hB.o.below HO6.o, HZ6.o.size, Nat.le_refl _, fun _ _ _ _ => rfl, Below.refl _ _⟩
     have KEEP : Hi (∀ w', y2q N w6 w1.heap.size (Value.slice oa k oc) (Value.slice ob k od) ps rs w' → w'.cell? ⟨wo.heap.size, 0, none⟩ = some (.bool b) ∧ w'.cell? ⟨wo.heap.size, 1, none⟩ = some (.slice a1 n1 c1) ∧ w'.cell? ⟨wo.heap.size, 2, none⟩ = some (.slice a2 n2 c2) ∧
       w'.cell? ⟨w5.heap.size, 0, none⟩ = some (.bool b5) ∧ w'.cell? ⟨w5.heap.size, 1, none⟩ = some (.slice a5 n5 c5) ∧ w'.cell? ⟨w5.heap.size, 2, none⟩ = some (.slice i5 j5 k5) ∧ y2q N w6 w1.heap.size (Value.slice oa k oc) (Value.slice ob k od) ps rs w') := hdd (fun w' h => by
      have hla := hA.o.lt
      have hlb := hB.o.lt
      have z1 := HLT.o
      have e1 := (h.beside wo.heap.size (by omega) (fun e => by have := hla _ e; omega) (fun e => by have := hlb _ e; omega)).trans HRY.o
      have e2 := (h.beside w5.heap.size (by omega) (fun e => by have := hla _ e; omega) (fun e => by have := hlb _ e; omega)).trans HRG.o
      exact ⟨by rw [cell_of_row _ _ _ _ _ _ e1]; rfl, by rw [cell_of_row _ _ _ _ _ _ e1]; rfl, by rw [cell_of_row _ _ _ _ _ _ e1]; rfl, by rw [cell_of_row _ _ _ _ _ _ e2]; rfl, by rw [cell_of_row _ _ _ _ _ _ e2]; rfl, by rw [cell_of_row _ _ _ _ _ _ e2]; rfl, h⟩)
     have HLN : Hi (ps.length ≤ 1000000 ∧ rs.length ≤ 1000000) := hdd (by have := hlen.o; omega)
     go_wp2_with fail
     clear y0 y1 y2 g0 g1 g2
     go_region_held3 (fun w' => w'.cell? ⟨wo.heap.size, 0, none⟩ = some (.bool b) ∧ w'.cell? ⟨wo.heap.size, 1, none⟩ = some (.slice a1 n1 c1) ∧ w'.cell? ⟨wo.heap.size, 2, none⟩ = some (.slice a2 n2 c2) ∧
       w'.cell? ⟨w5.heap.size, 0, none⟩ = some (.bool b5) ∧ w'.cell? ⟨w5.heap.size, 1, none⟩ = some (.slice a5 n5 c5) ∧ w'.cell? ⟨w5.heap.size, 2, none⟩ = some (.slice i5 j5 k5) ∧ y2q N w6 w1.heap.size (Value.slice oa k oc) (Value.slice ob k od) ps rs w')
      (((try dsimp only); refine KEEP.o _ ?_; (first | assumption | exact y2q.alloc (‹_ ∧ _ ∧ _ ∧ _ ∧ _ ∧ _ ∧ y2q N w6 w1.heap.size (Value.slice oa k oc) (Value.slice ob k od) ps rs _›).2.2.2.2.2.2 _)))
      (first | ((refine p6q (by rfl) _ _ (by rfl) N w1.heap.size (Value.slice oa k oc) ps (by rfl) (‹_ ∧ _ ∧ _ ∧ _ ∧ _ ∧ _ ∧ y2q N w6 w1.heap.size (Value.slice oa k oc) (Value.slice ob k od) ps rs _›).2.2.2.2.2.2.la _ _ b5 a5 i5 n5 c5 j5 k5 (g i) (by rfl) (by first | exact c7q (by simp) | exact q4x (by simp)) (HF5.o.below (HZ6.o.trans (‹_ ∧ _ ∧ _ ∧ _ ∧ _ ∧ _ ∧ y2q N w6 w1.heap.size (Value.slice oa k oc) (Value.slice ob k od) ps rs _›).2.2.2.2.2.2.bel)) HLN.o.1 (Nat.le_trans (‹_ ∧ _ ∧ _ ∧ _ ∧ _ ∧ _ ∧ y2q N w6 w1.heap.size (Value.slice oa k oc) (Value.slice ob k od) ps rs _›).2.2.2.2.2.2.hbase (‹_ ∧ _ ∧ _ ∧ _ ∧ _ ∧ _ ∧ y2q N w6 w1.heap.size (Value.slice oa k oc) (Value.slice ob k od) ps rs _›).2.2.2.2.2.2.size) ?_); intro v7 w7 hA7 hgA hbelA hatA holdA; have hn7 := y2q.neA (a' := v7) (‹_ ∧ _ ∧ _ ∧ _ ∧ _ ∧ _ ∧ y2q N w6 w1.heap.size (Value.slice oa k oc) (Value.slice ob k od) ps rs _›).2.2.2.2.2.2 hne.o hatA; have hI7 : y2q N w6 w1.heap.size (Value.slice oa k oc) (Value.slice ob k od) ps rs w7 := y2q.pushA (‹_ ∧ _ ∧ _ ∧ _ ∧ _ ∧ _ ∧ y2q N w6 w1.heap.size (Value.slice oa k oc) (Value.slice ob k od) ps rs _›).2.2.2.2.2.2 hgA holdA hbelA hne.o) | ((refine p6q (by rfl) _ _ (by rfl) N w1.heap.size (Value.slice ob k od) rs (by rfl) (‹_ ∧ _ ∧ _ ∧ _ ∧ _ ∧ _ ∧ y2q N w6 w1.heap.size (Value.slice oa k oc) (Value.slice ob k od) ps rs _›).2.2.2.2.2.2.lb _ _ b a1 a2 n1 c1 n2 c2 q (by rfl) (by first | exact c7q (by simp) | exact c6q hgA (c7q (by simp)) HLA.o (by simp) | exact c6q hgA (q4x (by simp)) HLA.o (by simp)) (HF.o.below (HZ6.o.trans (‹_ ∧ _ ∧ _ ∧ _ ∧ _ ∧ _ ∧ y2q N w6 w1.heap.size (Value.slice oa k oc) (Value.slice ob k od) ps rs _›).2.2.2.2.2.2.bel)) HLN.o.2 (Nat.le_trans (‹_ ∧ _ ∧ _ ∧ _ ∧ _ ∧ _ ∧ y2q N w6 w1.heap.size (Value.slice oa k oc) (Value.slice ob k od) ps rs _›).2.2.2.2.2.2.hbase (‹_ ∧ _ ∧ _ ∧ _ ∧ _ ∧ _ ∧ y2q N w6 w1.heap.size (Value.slice oa k oc) (Value.slice ob k od) ps rs _›).2.2.2.2.2.2.size) ?_); intro v8 w8 hB8 hgB hbelB hatB holdB; have hX8 : y3z N w1 w1.heap.size v7 v8 (ps ++ [g i]) (rs ++ [q]) w8 := y2q.both (‹_ ∧ _ ∧ _ ∧ _ ∧ _ ∧ _ ∧ y2q N w6 w1.heap.size (Value.slice oa k oc) (Value.slice ob k od) ps rs _›).2.2.2.2.2.2 (by first | exact hA7 | exact hA7.below ((qb).alloc qm _)) hB8 hgB hbelB hatB hn7 HZ6.o; have hI8 : y2q N w6 w1.heap.size (Value.slice oa k oc) (Value.slice ob k od) ps rs w8 := y2q.pushB (‹_ ∧ _ ∧ _ ∧ _ ∧ _ ∧ _ ∧ y2q N w6 w1.heap.size (Value.slice oa k oc) (Value.slice ob k od) ps rs _›).2.2.2.2.2.2 hgB holdB hbelB hne.o))
     all_goals
      have HX8 := hdd hX8
      obtain ⟨ga, gc, hga⟩ := hX8.la.form
      obtain ⟨gb, gd, hgb⟩ := hX8.lb.form
      have HLP : Hi ((ps ++ [g i]).length = k + 1 ∧ (rs ++ [q]).length = k + 1) := hdd (by simp; exact hlen.o)
      rw [HLP.o.1] at hga
      rw [HLP.o.2] at hgb
      subst hga
      subst hgb
      have HS8 : Hi (j8q (fun j => q9q (ps ++ [g i]) j * q9q (rs ++ [q]) j) 0 (k + 1) = j8q T 0 (i + 1)) := hdd (by
       have h9 := z1k (ps := ps) (rs := rs) (P := g i) (R := q) (by rw [hlen.o.1, hlen.o.2])
       rw [hlen.o.1] at h9
       rw [h9, hsum.o, HNX.o])
      have HA8 := hdd HX8.o.la
      have HB8 := hdd HX8.o.lb
      have HN8 := hdd HX8.o.ne
      have HZ8 := hdd HX8.o.bel
      clear hX8 HX8
      go_wp2_with fail
      go_roundw
     all_goals first
      | exact ⟨i + 1, k + 1, _, _, _, _, _, _, by omega, by omega, by go_num, by go_num, by go_num, HLP, HA8, HB8, HN8, HS8, HZ8⟩
      | (simp [intOf]; omega)
    ·
     have u3 : decide ((0 : Int) < (n5 : Int)) = false := by simp; omega
     have HZE : Hi (g i = 0) := hdd (r9q HF5.o (by omega))
     have HS2 : Hi (j8q (fun j => q9q ps j * q9q rs j) 0 k = j8q T 0 (i + 1)) := hdd (by
      rw [HNX.o, hsum.o, HZE.o, Rat.zero_mul, Rat.add_zero])
     have HA6 := hdd (hA.o.below HO6.o)
     have HB6 := hdd (hB.o.below HO6.o)
     go_wp2_with fail
     go_roundw
     case rel => exact ⟨i + 1, k, _, _, _, _, ps, rs, by omega, by omega, by go_num, rfl, rfl, hlen, HA6, HB6, hne, HS2, HZ6⟩
     case measure => simp [intOf]; omega
   ·
    have u1 : decide ((0 : Int) < (n1 : Int)) = false := by simp; omega
    have HZE : Hi (q = 0) := hdd (r9q HF.o (by omega))
    have HS2 : Hi (j8q (fun j => q9q ps j * q9q rs j) 0 k = j8q T 0 (i + 1)) := hdd (by
     rw [HNX.o, hsum.o, HZE.o, Rat.mul_zero, Rat.add_zero])
    have HA6 := hdd (hA.o.below HO6.o)
    have HB6 := hdd (hB.o.below HO6.o)
    go_wp2_with fail
    go_roundw
    case rel => exact ⟨i + 1, k, _, _, _, _, ps, rs, by omega, by omega, by go_num, rfl, rfl, hlen, HA6, HB6, hne, HS2, HZ6⟩
    case measure => simp [intOf]; omega
  ·
   have t0 : decide ((i : Int) < (n' : Int)) = false := by simp; omega
   have hie : i = n' := by omega
   subst hie
   have KD : Hi (Calls Tryz.prog 102 #[.slice oa k oc, .slice ob k od] wo (h0q wo (j8q T 0 i))) := hdd (by
    have h9 := y5y hA.o.list hB.o.list hN (by have := hlen.o; omega) (by have := hlen.o; omega) (Nat.le_trans (Nat.mul_le_mul_left N (show ps.length ≤ i by have := hlen.o; omega)) HNN.o)
    rw [hlen.o.1, hlen.o.2, Nat.min_self, hsum.o] at h9
    exact h9)
   obtain ⟨S, hS⟩ := qx (j8q T 0 i)
   rw [← hS] at KD
   have HSS := hdd hS
   clear hS
   go_wp2_with fail
   refine KD.o.mono ?_
   rintro en9 w9 ⟨⟨v9, rfl, f9⟩, hb9⟩
   obtain ⟨a9, n9, c9, i9, j9, k9, hq9⟩ := q8q f9
   subst hq9
   have hz9 := q0q hZ.o hb9
   have HR9 : Hi (w9.heap[w.heap.size]? = some (.cells #[.bool false, .slice none 0 0, .slice none 0 0] 43 (0, 0))) := hdd ((hz9.block _ (lt_of_block HR1.o)).trans HR1.o)
   have HF9 := hdd (f9.other HR9.o (q7q _ _ (decide (S.num < 0)) (Value.slice a9 n9 c9) (Value.slice i9 j9 k9)))
   have HB9 := hdd (q0q HB1.o hz9)
   have r0 := q1q HR9.o 0 _ rfl _ qb
   have r1 := q1q HR9.o 1 _ rfl _ qb
   have r2 := q1q HR9.o 2 _ rfl _ qb
   have z0 := frozen_of_row _ _ 0 _ _ HR9.o
   have z1 := frozen_of_row _ _ 1 _ _ HR9.o
   have z2 := frozen_of_row _ _ 2 _ _ HR9.o
   clear f9 hb9 hz9
   go_wp2_with fail
   exact bodyPost_ret (results_cell_row rfl _ _ w.heap.size _ _ _ _ rfl (z5q HR9.o) Tryz.underlying43 rfl v0q) rfl ⟨⟨_, rfl, by rw [← HSS.o]; exact HF9.o⟩, q4q HB9.o (q7q _ _ _ _ _) (by omega)⟩
theorem u8h {p2 : Nat} {g : Nat → Rat}
  (HG : ∀ (i : Nat) (w' : World), i < n' → Below w.heap.size w w' → Calls Tryz.prog 61 #[.int .i64 (i : Nat), Value.pointer (some ⟨p, 0, none⟩), Value.pointer (some ⟨p2, 0, none⟩)] w' (q5j N w w' (g i))) (hl' : z1q N w (.slice a' n' c') qs) (hN : N ≤ 50) (hn : n' ≤ 100) (hNn : N * n' ≤ 1000) :
  Calls Tryz.prog 70 #[.func (.func 61) #[] #[Value.pointer (some ⟨p, 0, none⟩), Value.pointer (some ⟨p2, 0, none⟩)], .slice a' n' c'] w (h0q w (j8q (fun i => g i * q9q qs i) 0 n')) := by
 have HGH := hdd HG
 obtain ⟨w1, hw1, HB1, HR1⟩ := al1 w #[.bool false, .slice none 0 0, .slice none 0 0] 43
 have HW1 := hdd hw1.symm
 have HL' := hdd (hl'.below HB1.o)
 have HNN := hdd hNn
 have hn'100 : n' ≤ 100 := by omega
 obtain ⟨T, hT⟩ : ∃ T : Nat → Rat, T = fun i => g i * q9q qs i := ⟨_, rfl⟩
 have HT : Hi (∀ i, T i = g i * q9q qs i) := hdd (fun i => by rw [hT])
 rw [← hT]
 have KG := hdd (fun w' i (hi : i < n') (hb : Below w1.heap.size w1 w') => HGH.o i w' hi (q0q HB1.o hb))
 clear hw1 HG hl' hNn hT
 go_enter Tryz.func70, Tryz.ntmps70
 go_wp2_with fail
 rw [HW1.o]
 go_loopw [5, 6, 12] (fun av bv iv wr => ∃ (i k : Nat) (oa ob : Option Addr) (oc od : Nat) (ps rs : List Rat), i ≤ n' ∧ k ≤ i ∧ iv = .int .i64 i ∧ av = .slice oa k oc ∧ bv = .slice ob k od ∧ Hi (ps.length = k ∧ rs.length = k) ∧ Hi (LFs N wr w1.heap.size (.slice oa k oc) ps) ∧ Hi (LFs N wr w1.heap.size (.slice ob k od) rs) ∧
  Hi (∀ g, (Value.slice oa k oc).ownBlock = some g → (Value.slice ob k od).ownBlock ≠ some g) ∧ Hi (j8q (fun j => q9q ps j * q9q rs j) 0 k = j8q T 0 i) ∧ Hi (Below w1.heap.size w1 wr)) (fun _ _ iv _ => n' - (intOf iv).toNat)
 case atStart => exact ⟨0, 0, none, none, 0, 0, [], [], Nat.zero_le _, Nat.le_refl _, rfl, rfl, rfl, hdd ⟨rfl, rfl⟩, hdd (LFs.nil _ _ _), hdd (LFs.nil _ _ _), hdd (fun g h => by simp [Value.ownBlock] at h), hdd rfl, hdd qb⟩
 case round =>
  obtain ⟨i, k, oa, ob, oc, od, ps, rs, hi, hki, rfl, rfl, rfl, hlen, hA, hB, hne, hsum, hZ⟩ := hrel
  obtain ⟨wo, rfl⟩ : ∃ wo : World, wo = wr := ⟨_, rfl⟩
  by_cases hin : i < n'
  ·
   have t0 : decide ((i : Int) < (n' : Int)) = true := by simp; omega
   obtain ⟨q, B, off, b, a1, n1, c1, a2, n2, c2, hq, ha, hc, hf⟩ := HL'.o.at hin
   subst ha
   obtain ⟨x0, x1, x2⟩ := hc wo hZ.o
   have HF := hdd hf
   have HQ := hdd (v9q hq)
   clear hc hf hq
   go_wp2_with ((with_reducible refine j9q ?_); refine q6q rfl _ _ _ rfl wo.heap.size rfl _ rfl _ _ (heap_alloc_new _ _) v0q rfl x3q ?_; intro w4 h4 hon4; refine y0q ?_)
   have hb4 : Below wo.heap.size wo w4 := q4q ((qb).alloc qm _) hon4 qm
   have HB4 := hdd (q0q hZ.o hb4)
   have HO4 := hdd hb4
   have RY := hdd (q1q h4)
   have HRY4 := hdd h4
   have K := hdd (KG.o w4 i hin HB4.o)
   clear h4 hon4 hb4 x0 x1 x2
   refine z2q ?_
   go_wp2_with fail
   refine K.o.mono ?_
   rintro en5 w5 ⟨⟨b5, a5, n5, c5, i5, j5, k5, rfl, f5⟩, hb5⟩
   have HF5 := hdd (f5.below HB1.o)
   have HB5 := hdd hb5
   clear f5
   go_wp2_with ((with_reducible refine j9q ?_); refine q6q rfl _ _ _ rfl w5.heap.size rfl _ rfl _ _ (heap_alloc_new _ _) v0q rfl x3q ?_; intro w6 h6 hon6; refine y0q ?_)
   have hb6 : Below w5.heap.size w5 w6 := q4q ((qb).alloc qm _) hon6 qm
   have HZ6 := hdd (q0q HB4.o (q0q hb5 hb6))
   have HO6 := hdd (q0q HO4.o (q0q hb5 hb6))
   have RG := hdd (q1q h6)
   have HY6 := hdd (q0q hb5 hb6)
   have hz6 := Below.refl w6.heap.size w6
   have y0 := RY.o 0 _ rfl _ HY6.o
   have y1 := RY.o 1 _ rfl _ HY6.o
   have y2 := RY.o 2 _ rfl _ HY6.o
   have g0 := RG.o 0 _ rfl _ hz6
   have g1 := RG.o 1 _ rfl _ hz6
   have g2 := RG.o 2 _ rfl _ hz6
   have HRG := hdd h6
   have HRY : Hi (w6.heap[wo.heap.size]? = some (.cells #[.bool b, .slice a1 n1 c1, .slice a2 n2 c2] 43 (0, 0))) := hdd ((HY6.o.block _ (lt_of_block HRY4.o)).trans HRY4.o)
   have HLT : Hi (wo.heap.size < w6.heap.size ∧ w5.heap.size < w6.heap.size ∧ wo.heap.size ≤ w5.heap.size) := hdd ⟨lt_of_block HRY.o, lt_of_block HRG.o, by have h7 := HO4.o.size; have h8 := HB5.o.size; omega⟩
   have HLA : Hi (∀ g, (Value.slice oa k oc).ownBlock = some g → g < w6.heap.size) := hdd (fun g hg => by have := (hA.o.lt g hg).2; have := HLT.o; omega)
   clear h6 hon6 hb6 hb5 hz6
   refine z2q ?_
   have hln1 : n1 ≤ 1073741824 := by
    obtain ⟨_, _, _, ⟨_, _, he, hu, _⟩, _, _, _⟩ := HF.o
    simp only [Value.agg.injEq, Array.mk.injEq, List.cons.injEq, and_true] at he
    obtain ⟨-, rfl, -⟩ := he
    have := hu.lenE; have := hu.len; omega
   have hln5 : n5 ≤ 1073741824 := by
    obtain ⟨_, _, _, ⟨_, _, he, hu, _⟩, _, _, _⟩ := HF5.o
    simp only [Value.agg.injEq, Array.mk.injEq, List.cons.injEq, and_true] at he
    obtain ⟨-, rfl, -⟩ := he
    have := hu.lenE; have := hu.len; omega
   have HNX : Hi (j8q T 0 (i + 1) = j8q T 0 i + g i * q) := hdd (by
    rw [← i4q, HT.o, HQ.o])
   by_cases h1 : 0 < n1
   ·
    have u1 : decide ((0 : Int) < (n1 : Int)) = true := by simp; omega
    by_cases h3 : 0 < n5
    ·
     have u3 : decide ((0 : Int) < (n5 : Int)) = true := by simp; omega
     have hI0 : y2q N w6 w1.heap.size (Value.slice oa k oc) (Value.slice ob k od) ps rs w6.drew := y2q.drew ⟨hA.o.below HO6.o, hB.o.below HO6.o, HZ6.o.size, Nat.le_refl _, fun _ _ _ _ => rfl, Below.refl _ _⟩
     have KEEP : Hi (∀ w', y2q N w6 w1.heap.size (Value.slice oa k oc) (Value.slice ob k od) ps rs w' → w'.cell? ⟨wo.heap.size, 0, none⟩ = some (.bool b) ∧ w'.cell? ⟨wo.heap.size, 1, none⟩ = some (.slice a1 n1 c1) ∧ w'.cell? ⟨wo.heap.size, 2, none⟩ = some (.slice a2 n2 c2) ∧
       w'.cell? ⟨w5.heap.size, 0, none⟩ = some (.bool b5) ∧ w'.cell? ⟨w5.heap.size, 1, none⟩ = some (.slice a5 n5 c5) ∧ w'.cell? ⟨w5.heap.size, 2, none⟩ = some (.slice i5 j5 k5) ∧ y2q N w6 w1.heap.size (Value.slice oa k oc) (Value.slice ob k od) ps rs w') := hdd (fun w' h => by
      have hla := hA.o.lt
      have hlb := hB.o.lt
      have z1 := HLT.o
      have e1 := (h.beside wo.heap.size (by omega) (fun e => by have := hla _ e; omega) (fun e => by have := hlb _ e; omega)).trans HRY.o
      have e2 := (h.beside w5.heap.size (by omega) (fun e => by have := hla _ e; omega) (fun e => by have := hlb _ e; omega)).trans HRG.o
      exact ⟨by rw [cell_of_row _ _ _ _ _ _ e1]; rfl, by rw [cell_of_row _ _ _ _ _ _ e1]; rfl, by rw [cell_of_row _ _ _ _ _ _ e1]; rfl, by rw [cell_of_row _ _ _ _ _ _ e2]; rfl, by rw [cell_of_row _ _ _ _ _ _ e2]; rfl, by rw [cell_of_row _ _ _ _ _ _ e2]; rfl, h⟩)
     have HLN : Hi (ps.length ≤ 1000000 ∧ rs.length ≤ 1000000) := hdd (by have := hlen.o; omega)
     go_wp2_with fail
     clear y0 y1 y2 g0 g1 g2
     go_region_held3 (fun w' => w'.cell? ⟨wo.heap.size, 0, none⟩ = some (.bool b) ∧ w'.cell? ⟨wo.heap.size, 1, none⟩ = some (.slice a1 n1 c1) ∧ w'.cell? ⟨wo.heap.size, 2, none⟩ = some (.slice a2 n2 c2) ∧
       w'.cell? ⟨w5.heap.size, 0, none⟩ = some (.bool b5) ∧ w'.cell? ⟨w5.heap.size, 1, none⟩ = some (.slice a5 n5 c5) ∧ w'.cell? ⟨w5.heap.size, 2, none⟩ = some (.slice i5 j5 k5) ∧ y2q N w6 w1.heap.size (Value.slice oa k oc) (Value.slice ob k od) ps rs w')
      (((try dsimp only); refine KEEP.o _ ?_; (first | assumption | exact y2q.alloc (‹_ ∧ _ ∧ _ ∧ _ ∧ _ ∧ _ ∧ y2q N w6 w1.heap.size (Value.slice oa k oc) (Value.slice ob k od) ps rs _›).2.2.2.2.2.2 _)))
      (first | ((refine p6q (by rfl) _ _ (by rfl) N w1.heap.size (Value.slice oa k oc) ps (by rfl) (‹_ ∧ _ ∧ _ ∧ _ ∧ _ ∧ _ ∧ y2q N w6 w1.heap.size (Value.slice oa k oc) (Value.slice ob k od) ps rs _›).2.2.2.2.2.2.la _ _ b5 a5 i5 n5 c5 j5 k5 (g i) (by rfl) (by first | exact c7q (by simp) | exact q4x (by simp)) (HF5.o.below (HZ6.o.trans (‹_ ∧ _ ∧ _ ∧ _ ∧ _ ∧ _ ∧ y2q N w6 w1.heap.size (Value.slice oa k oc) (Value.slice ob k od) ps rs _›).2.2.2.2.2.2.bel)) HLN.o.1 (Nat.le_trans (‹_ ∧ _ ∧ _ ∧ _ ∧ _ ∧ _ ∧ y2q N w6 w1.heap.size (Value.slice oa k oc) (Value.slice ob k od) ps rs _›).2.2.2.2.2.2.hbase (‹_ ∧ _ ∧ _ ∧ _ ∧ _ ∧ _ ∧ y2q N w6 w1.heap.size (Value.slice oa k oc) (Value.slice ob k od) ps rs _›).2.2.2.2.2.2.size) ?_); intro v7 w7 hA7 hgA hbelA hatA holdA; have hn7 := y2q.neA (a' := v7) (‹_ ∧ _ ∧ _ ∧ _ ∧ _ ∧ _ ∧ y2q N w6 w1.heap.size (Value.slice oa k oc) (Value.slice ob k od) ps rs _›).2.2.2.2.2.2 hne.o hatA; have hI7 : y2q N w6 w1.heap.size (Value.slice oa k oc) (Value.slice ob k od) ps rs w7 := y2q.pushA (‹_ ∧ _ ∧ _ ∧ _ ∧ _ ∧ _ ∧ y2q N w6 w1.heap.size (Value.slice oa k oc) (Value.slice ob k od) ps rs _›).2.2.2.2.2.2 hgA holdA hbelA hne.o) | ((refine p6q (by rfl) _ _ (by rfl) N w1.heap.size (Value.slice ob k od) rs (by rfl) (‹_ ∧ _ ∧ _ ∧ _ ∧ _ ∧ _ ∧ y2q N w6 w1.heap.size (Value.slice oa k oc) (Value.slice ob k od) ps rs _›).2.2.2.2.2.2.lb _ _ b a1 a2 n1 c1 n2 c2 q (by rfl) (by first | exact c7q (by simp) | exact c6q hgA (c7q (by simp)) HLA.o (by simp) | exact c6q hgA (q4x (by simp)) HLA.o (by simp)) (HF.o.below (HZ6.o.trans (‹_ ∧ _ ∧ _ ∧ _ ∧ _ ∧ _ ∧ y2q N w6 w1.heap.size (Value.slice oa k oc) (Value.slice ob k od) ps rs _›).2.2.2.2.2.2.bel)) HLN.o.2 (Nat.le_trans (‹_ ∧ _ ∧ _ ∧ _ ∧ _ ∧ _ ∧ y2q N w6 w1.heap.size (Value.slice oa k oc) (Value.slice ob k od) ps rs _›).2.2.2.2.2.2.hbase (‹_ ∧ _ ∧ _ ∧ _ ∧ _ ∧ _ ∧ y2q N w6 w1.heap.size (Value.slice oa k oc) (Value.slice ob k od) ps rs _›).2.2.2.2.2.2.size) ?_); intro v8 w8 hB8 hgB hbelB hatB holdB; have hX8 : y3z N w1 w1.heap.size v7 v8 (ps ++ [g i]) (rs ++ [q]) w8 := y2q.both (‹_ ∧ _ ∧ _ ∧ _ ∧ _ ∧ _ ∧ y2q N w6 w1.heap.size (Value.slice oa k oc) (Value.slice ob k od) ps rs _›).2.2.2.2.2.2 (by first | exact hA7 | exact hA7.below ((qb).alloc qm _)) hB8 hgB hbelB hatB hn7 HZ6.o; have hI8 : y2q N w6 w1.heap.size (Value.slice oa k oc) (Value.slice ob k od) ps rs w8 := y2q.pushB (‹_ ∧ _ ∧ _ ∧ _ ∧ _ ∧ _ ∧ y2q N w6 w1.heap.size (Value.slice oa k oc) (Value.slice ob k od) ps rs _›).2.2.2.2.2.2 hgB holdB hbelB hne.o))
     all_goals
      have HX8 := hdd hX8
      obtain ⟨ga, gc, hga⟩ := hX8.la.form
      obtain ⟨gb, gd, hgb⟩ := hX8.lb.form
      have HLP : Hi ((ps ++ [g i]).length = k + 1 ∧ (rs ++ [q]).length = k + 1) := hdd (by simp; exact hlen.o)
      rw [HLP.o.1] at hga
      rw [HLP.o.2] at hgb
      subst hga
      subst hgb
      have HS8 : Hi (j8q (fun j => q9q (ps ++ [g i]) j * q9q (rs ++ [q]) j) 0 (k + 1) = j8q T 0 (i + 1)) := hdd (by
       have h9 := z1k (ps := ps) (rs := rs) (P := g i) (R := q) (by rw [hlen.o.1, hlen.o.2])
       rw [hlen.o.1] at h9
       rw [h9, hsum.o, HNX.o])
      have HA8 := hdd HX8.o.la
      have HB8 := hdd HX8.o.lb
      have HN8 := hdd HX8.o.ne
      have HZ8 := hdd HX8.o.bel
      clear hX8 HX8
      go_wp2_with fail
      go_roundw
     all_goals first
      | exact ⟨i + 1, k + 1, _, _, _, _, _, _, by omega, by omega, by go_num, by go_num, by go_num, HLP, HA8, HB8, HN8, HS8, HZ8⟩
      | (simp [intOf]; omega)
    ·
     have u3 : decide ((0 : Int) < (n5 : Int)) = false := by simp; omega
     have HZE : Hi (g i = 0) := hdd (r9q HF5.o (by omega))
     have HS2 : Hi (j8q (fun j => q9q ps j * q9q rs j) 0 k = j8q T 0 (i + 1)) := hdd (by
      rw [HNX.o, hsum.o, HZE.o, Rat.zero_mul, Rat.add_zero])
     have HA6 := hdd (hA.o.below HO6.o)
     have HB6 := hdd (hB.o.below HO6.o)
     go_wp2_with fail
     go_roundw
     case rel => exact ⟨i + 1, k, _, _, _, _, ps, rs, by omega, by omega, by go_num, rfl, rfl, hlen, HA6, HB6, hne, HS2, HZ6⟩
     case measure => simp [intOf]; omega
   ·
    have u1 : decide ((0 : Int) < (n1 : Int)) = false := by simp; omega
    have HZE : Hi (q = 0) := hdd (r9q HF.o (by omega))
    have HS2 : Hi (j8q (fun j => q9q ps j * q9q rs j) 0 k = j8q T 0 (i + 1)) := hdd (by
     rw [HNX.o, hsum.o, HZE.o, Rat.mul_zero, Rat.add_zero])
    have HA6 := hdd (hA.o.below HO6.o)
    have HB6 := hdd (hB.o.below HO6.o)
    go_wp2_with fail
    go_roundw
    case rel => exact ⟨i + 1, k, _, _, _, _, ps, rs, by omega, by omega, by go_num, rfl, rfl, hlen, HA6, HB6, hne, HS2, HZ6⟩
    case measure => simp [intOf]; omega
  ·
   have t0 : decide ((i : Int) < (n' : Int)) = false := by simp; omega
   have hie : i = n' := by omega
   subst hie
   have KD : Hi (Calls Tryz.prog 102 #[.slice oa k oc, .slice ob k od] wo (h0q wo (j8q T 0 i))) := hdd (by
    have h9 := y5y hA.o.list hB.o.list hN (by have := hlen.o; omega) (by have := hlen.o; omega) (Nat.le_trans (Nat.mul_le_mul_left N (show ps.length ≤ i by have := hlen.o; omega)) HNN.o)
    rw [hlen.o.1, hlen.o.2, Nat.min_self, hsum.o] at h9
    exact h9)
   obtain ⟨S, hS⟩ := qx (j8q T 0 i)
   rw [← hS] at KD
   have HSS := hdd hS
   clear hS
   go_wp2_with fail
   refine KD.o.mono ?_
   rintro en9 w9 ⟨⟨v9, rfl, f9⟩, hb9⟩
   obtain ⟨a9, n9, c9, i9, j9, k9, hq9⟩ := q8q f9
   subst hq9
   have hz9 := q0q hZ.o hb9
   have HR9 : Hi (w9.heap[w.heap.size]? = some (.cells #[.bool false, .slice none 0 0, .slice none 0 0] 43 (0, 0))) := hdd ((hz9.block _ (lt_of_block HR1.o)).trans HR1.o)
   have HF9 := hdd (f9.other HR9.o (q7q _ _ (decide (S.num < 0)) (Value.slice a9 n9 c9) (Value.slice i9 j9 k9)))
   have HB9 := hdd (q0q HB1.o hz9)
   have r0 := q1q HR9.o 0 _ rfl _ qb
   have r1 := q1q HR9.o 1 _ rfl _ qb
   have r2 := q1q HR9.o 2 _ rfl _ qb
   have z0 := frozen_of_row _ _ 0 _ _ HR9.o
   have z1 := frozen_of_row _ _ 1 _ _ HR9.o
   have z2 := frozen_of_row _ _ 2 _ _ HR9.o
   clear f9 hb9 hz9
   go_wp2_with fail
   exact bodyPost_ret (results_cell_row rfl _ _ w.heap.size _ _ _ _ rfl (z5q HR9.o) Tryz.underlying43 rfl v0q) rfl ⟨⟨_, rfl, by rw [← HSS.o]; exact HF9.o⟩, q4q HB9.o (q7q _ _ _ _ _) (by omega)⟩
end Go.Proofs.YtkkbmlkpgknhgaaGreat
