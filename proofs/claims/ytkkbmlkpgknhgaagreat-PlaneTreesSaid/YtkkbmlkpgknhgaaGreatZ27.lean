import Derived.Test.YtkkbmlkpgknhgaaGreatZ21
import Derived.Test.YtkkbmlkpgknhgaaGreatZ26
import Derived.Deep.RegionHeld3
import Derived.Deep.DrawnRows
import Derived.Test.YtkkbmlkpgknhgaaGreatZ19
import Derived.Test.YtkkbmlkpgknhgaaGreatZ25
import Derived.BigQuiet
set_option maxRecDepth 100000
set_option maxHeartbeats 16000000
namespace Go.Proofs.YtkkbmlkpgknhgaaGreat
open Go.RowKit
attribute [local go_sem ↓] Go.wp_at_zero Go.wp_at_succ
variable {Cs : List k9q} {N cc cn fc fn gc gn m rc rn vc xc xn zc zn : Nat} {P : Pm} {ca fa ga ra va xa za : Option Addr} {k z : Int} {l : List Int} {q : Rat} {tx tz : List Rat} {v : Value} {w : World}
def x8q (P : Pm) (l : List Int) : Bool := j7q P && (okV P.vars l && !(l.any (p0q P)))
def u3x (b : Bool) : Int := if b = true then 0 else 20
theorem g2j {n : Int} (h : ∀ (i : Nat) (v : Int), i < l.length → l[i]? = some v → w3q n l i = true ∧ p0q P v = false) : (okV n l && !(l.any (p0q P))) = true := by
 have h1 : okV n l = true := z8z (fun i hi => (h i _ hi (List.getElem?_eq_getElem hi)).1)
 have h2 : l.any (p0q P) = false := by
  rw [List.any_eq_false]
  intro z hz
  obtain ⟨i, hi, rfl⟩ := List.mem_iff_getElem.1 hz
  rw [(h i _ hi (List.getElem?_eq_getElem hi)).2]
  decide
 rw [h1, h2]
 rfl
theorem x0j (h : y9q N w v P) (hf : Fit P) (hl : v8q w va l) (hm : m = l.length) (hm9 : m ≤ 1000) (hvc : m ≤ vc) :
  Calls Tryz.prog 45 #[v, .slice va m vc] w fun e w' => e = .returned (.int .i64 (u3x (x8q P l))) ∧ Below w.heap.size w w' := by
 have KR := hdd (fun w' (hb : Below w.heap.size w w') => f7q (h.below hb) hf)
 have HI := hdd hl
 have HM := hdd hm
 have HVC := hdd hvc
 obtain ⟨fa, fc, ga, gc, ra, rc, rfl, -, -, hB, -, -⟩ := h
 have HBO := hdd hB
 obtain ⟨z, hz⟩ := qx (P.vars)
 obtain ⟨fn, hfn⟩ := qx (P.free.length)
 obtain ⟨gn, hgn⟩ := qx (P.goal.length)
 obtain ⟨rn, hrn⟩ := qx (P.rows.length)
 have HEQ := hdd (And.intro hz hfn)
 have hz160 : z ≤ 160 := by rw [hz]; exact hf.1
 simp only [← hz, ← hfn, ← hgn, ← hrn] at KR ⊢
 clear hz hfn hgn hrn hB hl hm hvc hf
 obtain ⟨w1, hw1, HB1, HX1⟩ := al1 w #[.int .i64 z, .slice fa fn fc, .slice ga gn gc, .slice ra rn rc] 26
 have HW1 := hdd hw1.symm
 clear hw1
 have RX := hdd (q1q HX1.o)
 obtain ⟨x0, x1, x2, x3⟩ := qz RX.o qb
 obtain ⟨E, hE⟩ := qx (u3x (x8q P l))
 have HE := hdd hE
 rw [← hE]
 clear hE
 cases hrb : j7q P with
 | false =>
  rw [x6q hrb] at KR
  have HE9 : Hi (20 = E) := hdd (by rw [HE.o]; unfold x8q; rw [hrb]; rfl)
  clear hrb
  go_enter Tryz.func45, Tryz.ntmps45
  go_wp2_with fail
  rw [HW1.o]
  refine (KR.o _ HB1.o).mono ?_
  rintro en2 w2 ⟨rfl, hb2⟩
  go_wp2_with fail
  go_ret
  exact ⟨by rw [← HE9.o]; rfl, q0q HB1.o hb2⟩
 | true =>
 rw [g5q hrb] at KR
 have HRB := hdd hrb
 obtain ⟨n, hn⟩ : ∃ n : Nat, z = (n : Int) := ⟨z.toNat, by have := j2q hrb; have := HEQ.o; omega⟩
 subst hn
 have HFN : Hi (fn = n) := hdd (by have := j2q hrb; have := HEQ.o; omega)
 clear hrb
 go_enter Tryz.func45, Tryz.ntmps45
 go_wp2_with fail
 rw [HW1.o]
 refine (KR.o _ HB1.o).mono ?_
 rintro en2 w2 ⟨rfl, hb2⟩
 have HZ2 := hdd hb2
 clear hb2 x0 x1 x2 x3
 go_wp2_with fail
 go_loopw [15] (fun iv wr => ∃ i : Nat, i ≤ m ∧ iv = .int .i64 i ∧ Hi (Below w1.heap.size w1 wr) ∧ Hi (∀ (j : Nat) (v : Int), j < i → l[j]? = some v → w3q (n : Int) l j = true ∧ p0q P v = false)) (fun iv _ => m - (intOf iv).toNat)
 case atStart => exact ⟨0, Nat.zero_le _, rfl, HZ2, hdd (fun j z hj => absurd hj (Nat.not_lt_zero _))⟩
 case round =>
  obtain ⟨i, hi, rfl, hZ, hgood⟩ := hrel
  obtain ⟨wo, rfl⟩ : ∃ wo : World, wo = wr := ⟨_, rfl⟩
  by_cases hin : i < m
  ·
   have t0 : decide ((i : Int) < (m : Int)) = true := by simp; omega
   obtain ⟨z, Bv, offv, hz, ha, hzb, hcv⟩ := HI.o.at (i := i) (by have := HM.o; omega)
   subst ha
   have e1 := hcv wo (q0q HB1.o hZ.o)
   have x0 := RX.o 0 _ rfl _ hZ.o
   have hiv : i ≤ vc := by have := HVC.o; omega
   have HVZ := hdd hz
   have KWI := hdd (q8h (w := wo) (c := vc) (v := z) (m := i) (HI.o.below (q0q HB1.o hZ.o)) (by have := HM.o; omega) (by omega))
   have HBAD : Hi (w3q (n : Int) l i = false ∨ p0q P z = true → 20 = E) := hdd (fun hb => by
    rw [HE.o]
    unfold x8q
    rw [HRB.o, Bool.true_and, ← HEQ.o.1]
    have h9 : (okV (n : Int) l && !(l.any (p0q P))) = false := by
     rcases hb with hb | hb
     ·
      rw [z6j (by have := HM.o; omega) hb]; rfl
     ·
      rw [List.any_eq_true.2 ⟨z, List.mem_of_getElem? HVZ.o, hb⟩, Bool.not_true, Bool.and_false]
    rw [h9]
    rfl)
   clear hcv hz
   by_cases hz0 : z < 0
   ·
    have t1 : decide (z < 0) = true := by simpa using hz0
    have HE9 : Hi (20 = E) := hdd (HBAD.o (.inl (j4z HVZ.o (by omega))))
    go_wp2_with fail
    go_ret
    exact ⟨by rw [← HE9.o]; rfl, q0q HB1.o hZ.o⟩
   ·
    have t1 : decide (z < 0) = false := by simpa using hz0
    by_cases hzn : z < (n : Int)
    rotate_left
    ·
     have t2 : decide (z ≥ (n : Int)) = true := by simp; omega
     have t3 : decide ((n : Int) ≤ z) = true := by simp; omega
     have HE9 : Hi (20 = E) := hdd (HBAD.o (.inl (j4z HVZ.o (by omega))))
     go_wp2_with fail
     go_ret
     exact ⟨by rw [← HE9.o]; rfl, q0q HB1.o hZ.o⟩
    ·
     have t2 : decide (z ≥ (n : Int)) = false := by simp; omega
     have t3 : decide ((n : Int) ≤ z) = false := by simp; omega
     obtain ⟨cb, hcb⟩ := qx ((l.take i).contains z)
     rw [← hcb] at KWI
     have HOA : Hi (w3q (n : Int) l i = !cb) := hdd (by
      rw [o9q HVZ.o, hcb]
      have h9 : decide (0 ≤ z ∧ z < (n : Int)) = true := by simp; omega
      rw [h9, Bool.true_and])
     clear hcb
     go_wp2_with fail
     refine KWI.o.mono ?_
     rintro en4 w4 ⟨rfl, hb4⟩
     have HZ4 := hdd (q0q hZ.o hb4)
     clear hb4 e1 x0
     cases cb with
     | true =>
      have HE9 : Hi (20 = E) := hdd (HBAD.o (.inl HOA.o))
      go_wp2_with fail
      go_ret
      exact ⟨by rw [← HE9.o]; rfl, q0q HB1.o HZ4.o⟩
     | false =>
      obtain ⟨k, rfl⟩ : ∃ k : Nat, z = (k : Int) := ⟨z.toNat, by omega⟩
      have hkf : k < fn := by have := HFN.o; omega
      obtain ⟨fb, Bf, offf, hfb, haf, hcf⟩ := HBO.o.at (i := k) (by have := HEQ.o; omega)
      subst haf
      have HFB : Hi (p0q P (k : Int) = fb) := hdd (by unfold p0q; rw [Int.toNat_natCast, hfb]; rfl)
      have e2 := hcf w4 (q0q HB1.o HZ4.o)
      have x1 := RX.o 1 _ rfl _ HZ4.o
      clear hcf hfb
      cases fb with
      | true =>
       have HE9 : Hi (20 = E) := hdd (HBAD.o (.inr HFB.o))
       go_wp2_with fail
       go_ret
       exact ⟨by rw [← HE9.o]; rfl, q0q HB1.o HZ4.o⟩
      | false =>
       have HG9 : Hi (∀ (j : Nat) (v : Int), j < i + 1 → l[j]? = some v → w3q (n : Int) l j = true ∧ p0q P v = false) := hdd (fun j y hj hy => by
        by_cases hji : j = i
        ·
         subst hji
         rw [HVZ.o] at hy
         cases hy
         exact ⟨HOA.o, HFB.o⟩
        ·
         exact hgood.o j y (by omega) hy)
       go_wp2_with fail
       go_roundw
       case rel => exact ⟨i + 1, by omega, by go_num, HZ4, HG9⟩
       case measure => simp [intOf]; omega
  ·
   have t0 : decide ((i : Int) < (m : Int)) = false := by simp; omega
   have HE9 : Hi (0 = E) := hdd (by
    rw [HE.o]
    unfold x8q
    rw [HRB.o, Bool.true_and, ← HEQ.o.1, g2j (fun j v hj hv => hgood.o j v (by have := HM.o; omega) hv)]
    rfl)
   go_wp2_with fail
   go_ret
   exact ⟨by rw [← HE9.o]; rfl, q0q HB1.o hZ.o⟩
theorem g3j {x : Value} (hx : v6q N w x q) (hN : N ≤ 1000) : Calls Tryz.prog 81 #[x] w fun e w' => e = .returned (.bool (decide (z7q q 1 = 0))) ∧ Below w.heap.size w w' := by
 obtain ⟨a1, n1, c1, a2, n2, c2, b, rfl⟩ := j3z hx
 have HX := hdd hx
 obtain ⟨w1, hw1, HB1, HX1⟩ := al1 w #[.bool b, .slice a1 n1 c1, .slice a2 n2 c2] 43
 have HW1 := hdd hw1.symm
 have RX := hdd (q1q HX1.o)
 have x0 := RX.o 0 _ rfl _ qb
 have x1 := RX.o 1 _ rfl _ qb
 have x2 := RX.o 2 _ rfl _ qb
 clear hw1 hx
 have KI := hdd (fun w' => j5y (w := w') a9q (by decide) (by decide))
 have KC := hdd (fun w' y (hb : Below w1.heap.size w1 w') (hy : j3q w' y 1) => j1x (n := 2 * N) (m := 4096) (w := w') ((HX.o.below (q0q HB1.o hb)).sz) (hy.sz (by decide +kernel) (by decide +kernel)) (by omega) (by omega))
 obtain ⟨ONE, hONE⟩ := qx ((1 : Rat))
 obtain ⟨o, ho⟩ := qx (z7q q 1)
 rw [← ho] at KC ⊢
 rw [← hONE] at KI KC
 clear ho hONE
 by_cases h0 : o = 0
 ·
  have u0 : (o == 0) = true := by simpa using h0
  have u1 : decide (o = 0) = true := by simpa using h0
  rw [u1]
  clear h0
  go_enter Tryz.func81, Tryz.ntmps81
  go_wp2_with fail
  rw [HW1.o]
  have hz : Below w1.heap.size w1 w1.drew := q5q qb 1
  refine wp_region_held_drew (S := (fun w' => w'.cell? ⟨w.heap.size, 0, none⟩ = some (.bool b) ∧ w'.cell? ⟨w.heap.size, 1, none⟩ = some (.slice a1 n1 c1) ∧ w'.cell? ⟨w.heap.size, 2, none⟩ = some (.slice a2 n2 c2))) (by kernel_rfl) ?_ (fun hHeld => ?_)
  ·
   (try dsimp only); refine ⟨?_, ?_, ?_⟩ <;> (first | exact RX.o _ _ rfl _ (by assumption))
  refine jq 0 ?_
  refine wpAnyH_ready (rs := [1]) (by kernel_rfl) (by simp) (AllReadyH.cons (o := _) rfl (fun K hK => ?_) AllReadyH.nil)
  go_simp
  refine (KI.o _).mono ?_
  rintro en3 w3 ⟨⟨r3, rfl, f3⟩, hb3⟩
  obtain ⟨a3, n3, c3, i3, j3, k3, hq3⟩ := q8q f3
  subst hq3
  obtain ⟨bq, hbq⟩ := qx (decide (ONE.num < 0))
  rw [← hbq] at f3
  rw [← hbq]
  clear hbq
  have hz := q0q hz hb3
  try go_wp2_with fail
  refine hK.out _ _ ?_ (fun hHeld => ?_)
  ·
   (try dsimp only); refine ⟨?_, ?_, ?_⟩ <;> (first | exact RX.o _ _ rfl _ (by assumption))
  clear hK K
  try refine lyh ?_
  refine wpAnyH_ready (rs := [2]) (by kernel_rfl) (by simp) (AllReadyH.cons (o := _) rfl (fun K hK => ?_) AllReadyH.nil)
  go_simp
  refine (KC.o _ _ hz f3).mono ?_
  rintro en4 w4 ⟨rfl, hb4⟩
  have hz := q0q hz hb4
  try go_wp2_with fail
  refine hK.out _ _ ?_ (fun hHeld => ?_)
  ·
   (try dsimp only); refine ⟨?_, ?_, ?_⟩ <;> (first | exact RX.o _ _ rfl _ (by assumption))
  clear hK K
  try refine lyh ?_
  refine jq 3 ?_
  refine jq 4 ?_
  refine wpAnyH_done (by kernel_rfl) ?_ _
  have HZ9 := hdd hz
  clear hz
  go_wp2_with fail
  go_ret
  exact ⟨by first | rfl | (simp [*]), q0q HB1.o HZ9.o⟩
 ·
  have u0 : (o == 0) = false := by simpa using h0
  have u1 : decide (o = 0) = false := by simpa using h0
  rw [u1]
  go_enter Tryz.func81, Tryz.ntmps81
  go_wp2_with fail
  rw [HW1.o]
  have hz : Below w1.heap.size w1 w1.drew := q5q qb 1
  refine wp_region_held_drew (S := (fun w' => w'.cell? ⟨w.heap.size, 0, none⟩ = some (.bool b) ∧ w'.cell? ⟨w.heap.size, 1, none⟩ = some (.slice a1 n1 c1) ∧ w'.cell? ⟨w.heap.size, 2, none⟩ = some (.slice a2 n2 c2))) (by kernel_rfl) ?_ (fun hHeld => ?_)
  ·
   (try dsimp only); refine ⟨?_, ?_, ?_⟩ <;> (first | exact RX.o _ _ rfl _ (by assumption))
  refine jq 0 ?_
  refine wpAnyH_ready (rs := [1]) (by kernel_rfl) (by simp) (AllReadyH.cons (o := _) rfl (fun K hK => ?_) AllReadyH.nil)
  go_simp
  refine (KI.o _).mono ?_
  rintro en3 w3 ⟨⟨r3, rfl, f3⟩, hb3⟩
  obtain ⟨a3, n3, c3, i3, j3, k3, hq3⟩ := q8q f3
  subst hq3
  obtain ⟨bq, hbq⟩ := qx (decide (ONE.num < 0))
  rw [← hbq] at f3
  rw [← hbq]
  clear hbq
  have hz := q0q hz hb3
  try go_wp2_with fail
  refine hK.out _ _ ?_ (fun hHeld => ?_)
  ·
   (try dsimp only); refine ⟨?_, ?_, ?_⟩ <;> (first | exact RX.o _ _ rfl _ (by assumption))
  clear hK K
  try refine lyh ?_
  refine wpAnyH_ready (rs := [2]) (by kernel_rfl) (by simp) (AllReadyH.cons (o := _) rfl (fun K hK => ?_) AllReadyH.nil)
  go_simp
  refine (KC.o _ _ hz f3).mono ?_
  rintro en4 w4 ⟨rfl, hb4⟩
  have hz := q0q hz hb4
  try go_wp2_with fail
  refine hK.out _ _ ?_ (fun hHeld => ?_)
  ·
   (try dsimp only); refine ⟨?_, ?_, ?_⟩ <;> (first | exact RX.o _ _ rfl _ (by assumption))
  clear hK K
  try refine lyh ?_
  refine jq 3 ?_
  refine jq 4 ?_
  refine wpAnyH_done (by kernel_rfl) ?_ _
  have HZ9 := hdd hz
  clear hz
  go_wp2_with fail
  go_ret
  exact ⟨by first | rfl | (simp [*]), q0q HB1.o HZ9.o⟩
theorem u7z {c : Nat} {a : Option Addr} {xs : List Rat} (hl : v8q w a l) (hm : m = l.length) (hm9 : m ≤ 1000) (hX : z1q N w (.slice xa xn xc) xs) (hN : N ≤ 1000) (hr : ∀ (i : Nat) (z : Int), l[i]? = some z → 0 ≤ z ∧ z < (xn : Int)) :
  Calls Tryz.prog 47 #[.slice a m c, .slice xa xn xc] w fun e w' => e = .returned (.bool (l.all (fun z => n4q (q9q xs z.toNat)))) ∧ Below w.heap.size w w' := by
 have HI := hdd hl
 have HM := hdd hm
 have HX := hdd hX
 have HRG := hdd hr
 have HN := hdd hN
 obtain ⟨okb, hokb⟩ := qx (l.all (fun z => n4q (q9q xs z.toNat)))
 have HOK := hdd hokb
 rw [← hokb]
 have KZ : Hi (∀ w', Calls Tryz.prog 59 #[.agg #[Value.bool false, Value.slice none 0 0, Value.slice none 0 0]] w' (h0q w' 0)) := hdd (fun w' => z2w (N := 0) ⟨false, [], [], ⟨_, _, rfl, IsW.nil w', IsW.nil w'⟩, y6w.symm, Nat.le_refl _, Nat.le_refl _⟩ (by omega))
 obtain ⟨ZERO, hZERO⟩ := qx ((0 : Rat))
 have HZR := hdd hZERO
 rw [← hZERO] at KZ
 clear hl hm hX hr hN hokb hZERO
 go_enter Tryz.func47, Tryz.ntmps47
 go_wp2_with fail
 go_loopw [9] (fun iv wr => ∃ i : Nat, i ≤ m ∧ iv = .int .i64 i ∧ Hi (Below w.heap.size w wr) ∧ Hi (∀ (j : Nat) (z : Int), j < i → l[j]? = some z → n4q (q9q xs z.toNat) = true)) (fun iv _ => m - (intOf iv).toNat)
 case atStart => exact ⟨0, Nat.zero_le _, rfl, hdd qb, hdd (fun j z hj => absurd hj (Nat.not_lt_zero _))⟩
 case round =>
  obtain ⟨i, hi, rfl, hZ, hgood⟩ := hrel
  obtain ⟨wo, rfl⟩ : ∃ wo : World, wo = wr := ⟨_, rfl⟩
  by_cases hin : i < m
  ·
   have t0 : decide ((i : Int) < (m : Int)) = true := by simp; omega
   obtain ⟨z, Bv, offv, hz, ha, hzb, hcv⟩ := HI.o.at (i := i) (by have := HM.o; omega)
   subst ha
   have e1 := hcv wo hZ.o
   have HVZ := hdd hz
   obtain ⟨v, rfl⟩ : ∃ v : Nat, z = (v : Int) := ⟨z.toNat, by have := (HRG.o i z hz).1; omega⟩
   have hvx : v < xn := by have := (HRG.o i _ hz).2; omega
   have t1 : decide ((v : Int) ≥ (xn : Int)) = false := by simp; omega
   have t2 : decide ((xn : Int) ≤ (v : Int)) = false := by simp; omega
   have t3 : decide (xn ≤ v) = false := by simp; omega
   have t4 : ¬ xn ≤ v := by omega
   obtain ⟨q, B, off, b, a1, n1, c1, a2, n2, c2, hq, hab, hc, hf⟩ := HX.o.at hvx
   subst hab
   have HCE : Hi (∀ w', Below wo.heap.size wo w' → w'.cell? ⟨B, off + v * 3, none⟩ = some (.bool b) ∧ w'.cell? ⟨B, off + v * 3 + 1, none⟩ = some (.slice a1 n1 c1) ∧ w'.cell? ⟨B, off + v * 3 + 2, none⟩ = some (.slice a2 n2 c2)) := hdd (fun w' hb => hc w' (q0q hZ.o hb))
   have HF := hdd hf
   have HNQ : Hi (q9q xs ((v : Int)).toNat = q) := hdd (by rw [Int.toNat_natCast]; exact v9q hq)
   have KC := hdd (fun w' y (hb : Below wo.heap.size wo w') (hy : j3q w' y ZERO) => j1x (n := 2 * N) (m := 4096) (w := w') ((HF.o.below (q0q hZ.o hb)).sz) (hy.sz (by rw [HZR.o]; decide +kernel) (by rw [HZR.o]; decide +kernel)) (by have := HN.o; omega) (by omega))
   have KO := hdd (fun w' (hb : Below wo.heap.size wo w') => g3j (w := w') (HF.o.below (q0q hZ.o hb)) HN.o)
   obtain ⟨o, ho⟩ := qx (z7q q ZERO)
   obtain ⟨ob, hob⟩ := qx (decide (z7q q 1 = 0))
   have HBT : Hi (n4q q = (decide (o = 0) || ob)) := hdd (by rw [ho, hob, HZR.o]; rfl)
   rw [← ho] at KC
   rw [← hob] at KO
   have hz : Below wo.heap.size wo wo.drew := q5q qb 1
   have HGO : Hi (n4q q = true → ∀ (j : Nat) (z : Int), j < i + 1 → l[j]? = some z → n4q (q9q xs z.toNat) = true) := hdd (fun hb j y hj hy => by
    by_cases hji : j = i
    ·
     subst hji
     rw [HVZ.o] at hy
     cases hy
     rw [HNQ.o]
     exact hb
    ·
     exact hgood.o j y (by omega) hy)
   have HST : Hi (n4q q = false → false = okb) := hdd (fun hb => by
    rw [HOK.o]
    refine (List.all_eq_false.2 ⟨(v : Int), List.mem_of_getElem? HVZ.o, ?_⟩).symm
    rw [HNQ.o, hb]
    decide)
   clear hcv hc hf hq ho hob
   by_cases h0 : o = 0
   ·
    have u0 : (o != 0) = false := by simpa using h0
    have u1 : decide (o = 0) = true := by simpa using h0
    have HG9 := hdd (HGO.o (by rw [HBT.o, u1]; rfl))
    clear h0
    go_wp2_with fail
    refine wp_region_held_drew (S := (fun w' => w'.cell? ⟨B, off + v * 3, none⟩ = some (.bool b) ∧ w'.cell? ⟨B, off + v * 3 + 1, none⟩ = some (.slice a1 n1 c1) ∧ w'.cell? ⟨B, off + v * 3 + 2, none⟩ = some (.slice a2 n2 c2))) (by kernel_rfl) ?_ (fun hHeld => ?_)
    ·
     (try dsimp only); refine ⟨?_, ?_, ?_⟩ <;> (first | exact (HCE.o _ (by assumption)).1 | exact (HCE.o _ (by assumption)).2.1 | exact (HCE.o _ (by assumption)).2.2)
    refine jq 0 ?_
    refine jq 1 ?_
    refine jq 2 ?_
    refine jq 3 ?_
    refine jq 4 ?_
    refine jq 5 ?_
    refine jq 6 ?_
    refine jq 7 ?_
    refine jq 8 ?_
    refine jq 9 ?_
    refine wpAnyH_ready (rs := [10]) (by kernel_rfl) (by simp) (AllReadyH.cons (o := _) rfl (fun K hK => ?_) AllReadyH.nil)
    go_simp
    refine (KZ.o _).mono ?_
    rintro en3 w3 ⟨⟨r3, rfl, f3⟩, hb3⟩
    obtain ⟨a3, n3, c3, i3, j3, k3, hq3⟩ := q8q f3
    subst hq3
    obtain ⟨bq, hbq⟩ := qx (decide (ZERO.num < 0))
    rw [← hbq] at f3
    rw [← hbq]
    clear hbq
    have hz := q0q hz hb3
    try go_wp2_with fail
    refine hK.out _ _ ?_ (fun hHeld => ?_)
    ·
     (try dsimp only); refine ⟨?_, ?_, ?_⟩ <;> (first | exact (HCE.o _ (by assumption)).1 | exact (HCE.o _ (by assumption)).2.1 | exact (HCE.o _ (by assumption)).2.2)
    clear hK K
    try refine lyh ?_
    refine wpAnyH_ready (rs := [11]) (by kernel_rfl) (by simp) (AllReadyH.cons (o := _) rfl (fun K hK => ?_) AllReadyH.nil)
    go_simp
    refine (KC.o _ _ hz f3).mono ?_
    rintro en4 w4 ⟨rfl, hb4⟩
    have hz := q0q hz hb4
    try go_wp2_with fail
    refine hK.out _ _ ?_ (fun hHeld => ?_)
    ·
     (try dsimp only); refine ⟨?_, ?_, ?_⟩ <;> (first | exact (HCE.o _ (by assumption)).1 | exact (HCE.o _ (by assumption)).2.1 | exact (HCE.o _ (by assumption)).2.2)
    clear hK K
    try refine lyh ?_
    refine jq 12 ?_
    refine jq 13 ?_
    refine qj 14 ?_
    refine qj 15 ?_
    refine qj 16 ?_
    refine qj 17 ?_
    refine qj 18 ?_
    refine qj 19 ?_
    refine jq 20 ?_
    refine jq 21 ?_
    refine wpAnyH_done (by kernel_rfl) ?_ _
    have HZ9 := hdd (q0q hZ.o hz)
    clear hz
    go_wp2_with fail
    go_roundw
    case rel => exact ⟨i + 1, by omega, by go_num, HZ9, HG9⟩
    case measure => simp [intOf]; omega
   ·
    have u0 : (o != 0) = true := by simpa using h0
    have u1 : decide (o = 0) = false := by simpa using h0
    cases ob with
    | true =>
     have HG9 := hdd (HGO.o (by rw [HBT.o]; simp))
     go_wp2_with fail
     refine wp_region_held_drew (S := (fun w' => w'.cell? ⟨B, off + v * 3, none⟩ = some (.bool b) ∧ w'.cell? ⟨B, off + v * 3 + 1, none⟩ = some (.slice a1 n1 c1) ∧ w'.cell? ⟨B, off + v * 3 + 2, none⟩ = some (.slice a2 n2 c2))) (by kernel_rfl) ?_ (fun hHeld => ?_)
     ·
      (try dsimp only); refine ⟨?_, ?_, ?_⟩ <;> (first | exact (HCE.o _ (by assumption)).1 | exact (HCE.o _ (by assumption)).2.1 | exact (HCE.o _ (by assumption)).2.2)
     refine jq 0 ?_
     refine jq 1 ?_
     refine jq 2 ?_
     refine jq 3 ?_
     refine jq 4 ?_
     refine jq 5 ?_
     refine jq 6 ?_
     refine jq 7 ?_
     refine jq 8 ?_
     refine jq 9 ?_
     refine wpAnyH_ready (rs := [10]) (by kernel_rfl) (by simp) (AllReadyH.cons (o := _) rfl (fun K hK => ?_) AllReadyH.nil)
     go_simp
     refine (KZ.o _).mono ?_
     rintro en3 w3 ⟨⟨r3, rfl, f3⟩, hb3⟩
     obtain ⟨a3, n3, c3, i3, j3, k3, hq3⟩ := q8q f3
     subst hq3
     obtain ⟨bq, hbq⟩ := qx (decide (ZERO.num < 0))
     rw [← hbq] at f3
     rw [← hbq]
     clear hbq
     have hz := q0q hz hb3
     try go_wp2_with fail
     refine hK.out _ _ ?_ (fun hHeld => ?_)
     ·
      (try dsimp only); refine ⟨?_, ?_, ?_⟩ <;> (first | exact (HCE.o _ (by assumption)).1 | exact (HCE.o _ (by assumption)).2.1 | exact (HCE.o _ (by assumption)).2.2)
     clear hK K
     try refine lyh ?_
     refine wpAnyH_ready (rs := [11]) (by kernel_rfl) (by simp) (AllReadyH.cons (o := _) rfl (fun K hK => ?_) AllReadyH.nil)
     go_simp
     refine (KC.o _ _ hz f3).mono ?_
     rintro en4 w4 ⟨rfl, hb4⟩
     have hz := q0q hz hb4
     try go_wp2_with fail
     refine hK.out _ _ ?_ (fun hHeld => ?_)
     ·
      (try dsimp only); refine ⟨?_, ?_, ?_⟩ <;> (first | exact (HCE.o _ (by assumption)).1 | exact (HCE.o _ (by assumption)).2.1 | exact (HCE.o _ (by assumption)).2.2)
     clear hK K
     try refine lyh ?_
     refine jq 12 ?_
     refine jq 13 ?_
     refine jq 14 ?_
     refine jq 15 ?_
     refine jq 16 ?_
     refine jq 17 ?_
     refine wpAnyH_ready (rs := [18]) (by kernel_rfl) (by simp) (AllReadyH.cons (o := _) rfl (fun K hK => ?_) AllReadyH.nil)
     go_simp
     refine (KO.o _ hz).mono ?_
     rintro en5 w5 ⟨rfl, hb5⟩
     have hz := q0q hz hb5
     try go_wp2_with fail
     refine hK.out _ _ ?_ (fun hHeld => ?_)
     ·
      (try dsimp only); refine ⟨?_, ?_, ?_⟩ <;> (first | exact (HCE.o _ (by assumption)).1 | exact (HCE.o _ (by assumption)).2.1 | exact (HCE.o _ (by assumption)).2.2)
     clear hK K
     try refine lyh ?_
     refine jq 19 ?_
     refine jq 20 ?_
     refine jq 21 ?_
     refine wpAnyH_done (by kernel_rfl) ?_ _
     have HZ9 := hdd (q0q hZ.o hz)
     clear hz
     go_wp2_with fail
     go_roundw
     case rel => exact ⟨i + 1, by omega, by go_num, HZ9, HG9⟩
     case measure => simp [intOf]; omega
    | false =>
     have HE9 : Hi (false = okb) := hdd (HST.o (by rw [HBT.o, u1]; rfl))
     go_wp2_with fail
     refine wp_region_held_drew (S := (fun w' => w'.cell? ⟨B, off + v * 3, none⟩ = some (.bool b) ∧ w'.cell? ⟨B, off + v * 3 + 1, none⟩ = some (.slice a1 n1 c1) ∧ w'.cell? ⟨B, off + v * 3 + 2, none⟩ = some (.slice a2 n2 c2))) (by kernel_rfl) ?_ (fun hHeld => ?_)
     ·
      (try dsimp only); refine ⟨?_, ?_, ?_⟩ <;> (first | exact (HCE.o _ (by assumption)).1 | exact (HCE.o _ (by assumption)).2.1 | exact (HCE.o _ (by assumption)).2.2)
     refine jq 0 ?_
     refine jq 1 ?_
     refine jq 2 ?_
     refine jq 3 ?_
     refine jq 4 ?_
     refine jq 5 ?_
     refine jq 6 ?_
     refine jq 7 ?_
     refine jq 8 ?_
     refine jq 9 ?_
     refine wpAnyH_ready (rs := [10]) (by kernel_rfl) (by simp) (AllReadyH.cons (o := _) rfl (fun K hK => ?_) AllReadyH.nil)
     go_simp
     refine (KZ.o _).mono ?_
     rintro en3 w3 ⟨⟨r3, rfl, f3⟩, hb3⟩
     obtain ⟨a3, n3, c3, i3, j3, k3, hq3⟩ := q8q f3
     subst hq3
     obtain ⟨bq, hbq⟩ := qx (decide (ZERO.num < 0))
     rw [← hbq] at f3
     rw [← hbq]
     clear hbq
     have hz := q0q hz hb3
     try go_wp2_with fail
     refine hK.out _ _ ?_ (fun hHeld => ?_)
     ·
      (try dsimp only); refine ⟨?_, ?_, ?_⟩ <;> (first | exact (HCE.o _ (by assumption)).1 | exact (HCE.o _ (by assumption)).2.1 | exact (HCE.o _ (by assumption)).2.2)
     clear hK K
     try refine lyh ?_
     refine wpAnyH_ready (rs := [11]) (by kernel_rfl) (by simp) (AllReadyH.cons (o := _) rfl (fun K hK => ?_) AllReadyH.nil)
     go_simp
     refine (KC.o _ _ hz f3).mono ?_
     rintro en4 w4 ⟨rfl, hb4⟩
     have hz := q0q hz hb4
     try go_wp2_with fail
     refine hK.out _ _ ?_ (fun hHeld => ?_)
     ·
      (try dsimp only); refine ⟨?_, ?_, ?_⟩ <;> (first | exact (HCE.o _ (by assumption)).1 | exact (HCE.o _ (by assumption)).2.1 | exact (HCE.o _ (by assumption)).2.2)
     clear hK K
     try refine lyh ?_
     refine jq 12 ?_
     refine jq 13 ?_
     refine jq 14 ?_
     refine jq 15 ?_
     refine jq 16 ?_
     refine jq 17 ?_
     refine wpAnyH_ready (rs := [18]) (by kernel_rfl) (by simp) (AllReadyH.cons (o := _) rfl (fun K hK => ?_) AllReadyH.nil)
     go_simp
     refine (KO.o _ hz).mono ?_
     rintro en5 w5 ⟨rfl, hb5⟩
     have hz := q0q hz hb5
     try go_wp2_with fail
     refine hK.out _ _ ?_ (fun hHeld => ?_)
     ·
      (try dsimp only); refine ⟨?_, ?_, ?_⟩ <;> (first | exact (HCE.o _ (by assumption)).1 | exact (HCE.o _ (by assumption)).2.1 | exact (HCE.o _ (by assumption)).2.2)
     clear hK K
     try refine lyh ?_
     refine jq 19 ?_
     refine jq 20 ?_
     refine jq 21 ?_
     refine wpAnyH_done (by kernel_rfl) ?_ _
     have HZ9 := hdd (q0q hZ.o hz)
     clear hz
     go_wp2_with fail
     go_ret
     exact ⟨by rw [← HE9.o]; rfl, HZ9.o⟩
  ·
   have t0 : decide ((i : Int) < (m : Int)) = false := by simp; omega
   have HE9 : Hi (true = okb) := hdd (by
    rw [HOK.o]
    refine (List.all_eq_true.2 fun z hz => ?_).symm
    obtain ⟨j, hj, rfl⟩ := List.mem_iff_getElem.1 hz
    exact hgood.o j _ (by have := HM.o; omega) (List.getElem?_eq_getElem hj))
   go_wp2_with fail
   go_ret
   exact ⟨by rw [← HE9.o]; rfl, hZ.o⟩
def fwQ (P : Pm) (l : List Int) (tx : List Rat) : Bool := v5q P tx && l.all (fun z => n4q (q9q tx z.toNat))
def jwQ (P : Pm) (l : List Int) (k : Int) (tx tz : List Rat) (Cs : List k9q) : Bool := x8q P l && (if k = 1 then fwQ P l tx && n9q P l (t9q P k tx) Cs else if k = 2 then n9q P l (t9q P k tx) Cs else if k = 3 then fwQ P l tx && (u5q P tz && l.all (fun z => zB (q9q tz z.toNat))) else false)
structure q9x (w : World) (P : Pm) (l : List Int) (Cs : List k9q) (tx tz : List Rat) (z : Int) (fa : Option Addr) (fn fc : Nat) (ga : Option Addr) (gn gc : Nat) (ra : Option Addr) (rn rc : Nat) (va : Option Addr) (m vc : Nat) (xa : Option Addr) (xn xc : Nat) (za : Option Addr) (zn zc : Nat) (ca : Option Addr) (cn _cc : Nat) : Prop where
 prog : y9q 13 w (.agg #[.int .i64 z, .slice fa fn fc, .slice ga gn gc, .slice ra rn rc]) P
 fit : Fit P
 small : c9q 13 P
 task : x8q P l = true → q5z P l
 ints : v8q w va l
 len : m = l.length
 m6 : m ≤ 6
 cap : m ≤ vc
 xs : z1q 13 w (.slice xa xn xc) tx
 xn : xn = tx.length
 xl : tx.length ≤ 41
 zs : z1q 13 w (.slice za zn zc) tz
 zn : zn = tz.length
 zl : tz.length ≤ 41
 cases : q1y w ca Cs
 cl : cn = Cs.length
 c8 : cn ≤ 800
theorem q9x.below {w' : World} (h : q9x w P l Cs tx tz z fa fn fc ga gn gc ra rn rc va m vc xa xn xc za zn zc ca cn cc) (hb : Below w.heap.size w w') : q9x w' P l Cs tx tz z fa fn fc ga gn gc ra rn rc va m vc xa xn xc za zn zc ca cn cc :=
 ⟨h.prog.below hb, h.fit, h.small, h.task, h.ints.below hb, h.len, h.m6, h.cap, h.xs.below hb, h.xn, h.xl, h.zs.below hb, h.zn, h.zl, h.cases.below hb, h.cl, h.c8⟩
theorem q9x.vars (h : q9x w P l Cs tx tz z fa fn fc ga gn gc ra rn rc va m vc xa xn xc za zn zc ca cn cc) : z = P.vars := by
 obtain ⟨_, _, _, _, _, _, hv, -⟩ := h.prog
 simp only [Value.agg.injEq, Array.mk.injEq, List.cons.injEq, Value.int.injEq, Value.slice.injEq, and_true, true_and] at hv
 exact hv.1
theorem q9x.posed (h : q9x w P l Cs tx tz z fa fn fc ga gn gc ra rn rc va m vc xa xn xc za zn zc ca cn cc) (hw : x8q P l = true) : ∃ n : Nat, z = (n : Int) ∧ j5k w P l Cs tx tz n fa fn fc ga gn gc ra rn rc va m vc xa xn xc za zn zc ca cn cc := by
 have ht := h.task hw
 have hg := j2q ht.right
 have hz := h.vars
 refine ⟨z.toNat, by omega, ?_⟩
 have e : ((z.toNat : Nat) : Int) = z := by omega
 exact ⟨by rw [e]; exact h.prog, by omega, h.small, ht, h.ints, h.len, h.cap, h.xs, h.xl, h.zs, h.zl, h.cases, h.cl, h.c8⟩
theorem e2q (h : x8q P l = true) : j7q P = true ∧ okV P.vars l = true ∧ (okV P.vars l && !(l.any (p0q P))) = true := by
 unfold x8q at h
 rw [Bool.and_eq_true] at h
 have h2 := h.2
 rw [Bool.and_eq_true] at h2
 exact ⟨h.1, h2.1, h.2⟩
theorem x9v (h : x8q P l = false) : jwQ P l k tx tz Cs = false := by unfold jwQ; rw [h]; rfl
theorem g7j (h : x8q P l = true) : jwQ P l 1 tx tz Cs = (fwQ P l tx && n9q P l (some (y5q P tx)) Cs) := by
 unfold jwQ
 rw [h, if_pos rfl, Bool.true_and]
 rfl
theorem g7z (h : x8q P l = true) : jwQ P l 2 tx tz Cs = n9q P l none Cs := by
 unfold jwQ
 rw [h, if_neg (by decide), if_pos rfl, Bool.true_and]
 rfl
theorem g7y (h : x8q P l = true) : jwQ P l 3 tx tz Cs = (fwQ P l tx && (u5q P tz && l.all (fun z => zB (q9q tz z.toNat)))) := by
 unfold jwQ
 rw [h, if_neg (by decide), if_neg (by decide), if_pos rfl, Bool.true_and]
theorem v6z (h1 : k ≠ 1) (h2 : k ≠ 2) (h3 : k ≠ 3) : jwQ P l k tx tz Cs = false := by
 unfold jwQ
 rw [if_neg h1, if_neg h2, if_neg h3, Bool.and_false]
theorem u1z (h : j3q w v q) : ∃ a1 n1 c1 a2 n2 c2, v = .agg #[.bool (decide (q.num < 0)), .slice a1 n1 c1, .slice a2 n2 c2] := by
 obtain ⟨u, d, rfl, hu, hd⟩ := h
 obtain ⟨a1, n1, c1, rfl⟩ := hu.form
 obtain ⟨a2, n2, c2, rfl⟩ := hd.form
 exact ⟨_, _, _, _, _, _, rfl⟩
theorem k2z (h : q9x w P l Cs tx tz z fa fn fc ga gn gc ra rn rc va m vc xa xn xc za zn zc ca cn cc) :
  Calls Tryz.prog 14 #[.agg #[.int .i64 z, .slice fa fn fc, .slice ga gn gc, .slice ra rn rc], .slice va m vc, .agg #[.int .i64 k, .slice xa xn xc, .slice za zn zc, .slice ca cn cc]] w fun e w' => e = .returned (.bool (jwQ P l k tx tz Cs)) ∧ Below w.heap.size w w' := by
 have H := hdd h
 have HVZ : Hi (z = P.vars) := hdd h.vars
 clear h
 obtain ⟨w1, hw1, HB1, HX1, HY1⟩ := al2 w #[.int .i64 z, .slice fa fn fc, .slice ga gn gc, .slice ra rn rc] 26 #[.int .i64 k, .slice xa xn xc, .slice za zn zc, .slice ca cn cc] 37
 have HW1 := hdd hw1.symm
 clear hw1
 have RX := hdd (q1q HX1.o)
 have RY := hdd (q1q HY1.o)
 obtain ⟨x0, x1, x2, x3⟩ := qz RX.o qb
 have KR := hdd (n7q (H.o.prog.below HB1.o) H.o.fit)
 have HNO : Hi (x8q P l = false → jwQ P l k tx tz Cs = false) := hdd (fun h => x9v h)
 have HE1 : Hi (x8q P l = true → k = 1 → jwQ P l k tx tz Cs = (fwQ P l tx && n9q P l (some (y5q P tx)) Cs)) := hdd (fun h e => by rw [e]; exact g7j h)
 have HE2 : Hi (x8q P l = true → k = 2 → jwQ P l k tx tz Cs = n9q P l none Cs) := hdd (fun h e => by rw [e]; exact g7z h)
 have HE3 : Hi (x8q P l = true → k = 3 → jwQ P l k tx tz Cs = (fwQ P l tx && (u5q P tz && l.all (fun z => zB (q9q tz z.toNat))))) := hdd (fun h e => by rw [e]; exact g7y h)
 have HE4 : Hi (k ≠ 1 → k ≠ 2 → k ≠ 3 → jwQ P l k tx tz Cs = false) := hdd v6z
 obtain ⟨J, hJ⟩ := qx (jwQ P l k tx tz Cs)
 rw [← hJ] at HNO HE1 HE2 HE3 HE4 ⊢
 clear hJ
 go_enter Tryz.func14, Tryz.ntmps14
 go_wp2_with fail
 rw [HW1.o]
 refine KR.o.mono ?_
 rintro en2 w2 ⟨rfl, hb2⟩
 have HZ2 := hdd hb2
 clear hb2 x0 x1 x2 x3 KR
 cases hrb : j7q P with
 | false =>
  have HJ : Hi (J = false) := hdd (HNO.o (by unfold x8q; rw [hrb]; rfl))
  rw [x6q hrb]
  clear hrb
  go_wp2_with fail
  go_ret
  exact ⟨by rw [HJ.o]; first | done | rfl, q0q HB1.o HZ2.o⟩
 | true =>
 rw [g5q hrb]
 have HRB := hdd hrb
 clear hrb
 have KA := hdd (x2x (c := vc) ((H.o.prog.below HB1.o).below HZ2.o) HRB.o H.o.fit.1 ((H.o.ints.below HB1.o).below HZ2.o) H.o.len (by have := H.o.m6; omega))
 have HWB : Hi (x8q P l = (okV P.vars l && !(l.any (p0q P)))) := hdd (by unfold x8q; rw [HRB.o]; rfl)
 obtain ⟨ab, hab⟩ := qx ((okV P.vars l && !(l.any (p0q P))))
 rw [← hab] at KA HWB
 clear hab
 obtain ⟨x0, x1, x2, x3⟩ := qz RX.o HZ2.o
 go_wp2_with fail
 refine KA.o.mono ?_
 rintro en3 w3 ⟨rfl, hb3⟩
 have HZ3 := hdd (q0q HZ2.o hb3)
 clear hb3 x0 x1 x2 x3 KA
 cases ab with
 | false =>
  have HJ : Hi (J = false) := hdd (HNO.o HWB.o)
  go_wp2_with fail
  go_ret
  exact ⟨by rw [HJ.o]; first | done | rfl, q0q HB1.o HZ3.o⟩
 | true =>
 obtain ⟨n, hzn, hpos⟩ := H.o.posed HWB.o
 subst hzn
 have HP := hdd hpos
 clear hpos
 have HBW3 : Hi (Below w.heap.size w w3) := hdd (q0q HB1.o HZ3.o)
 have HT := hdd HP.o.task
 have HOK := hdd (e2q HWB.o).2.1
 have KF : Hi (∀ w', Below w.heap.size w w' → Calls Tryz.prog 39 #[.agg #[.int .i64 (n : Nat), .slice fa fn fc, .slice ga gn gc, .slice ra rn rc], .slice va m vc, .slice xa xn xc] w' fun e w'' => e = .returned (.bool (fwQ P l tx)) ∧ Below w'.heap.size w' w'') := hdd (fun w' hb => v2y (HP.o.prog.below hb) (HP.o.xs.below hb) H.o.fit (by omega) (by have := H.o.xl; omega) (by have := H.o.xl; omega) (HP.o.ints.below hb) H.o.len (by have := H.o.m6; omega) HOK.o)
 obtain ⟨fw, hfw⟩ := qx (fwQ P l tx)
 rw [← hfw] at KF HE1 HE3
 have HFW := hdd hfw
 clear hfw
 have y0 := RY.o 0 _ rfl _ HZ3.o
 by_cases hk1 : k = 1
 ·
  have u1 : (k == 1) = true := by simpa using hk1
  have HJ : Hi (J = (fw && n9q P l (some (y5q P tx)) Cs)) := hdd (HE1.o HWB.o hk1)
  have KV := hdd (j4v (HP.o.prog.below HBW3.o) (HP.o.xs.below HBW3.o) (HT.o.sizes0 H.o.xl))
  have HVL : Hi (j5q (y5q P tx) ≤ 4002) := hdd (h8q HP.o.prog HP.o.xs (by have := H.o.xl; omega) (by have := H.o.xl; omega))
  obtain ⟨V, hV⟩ := qx (y5q P tx)
  rw [← hV] at KV HVL HJ
  have HVV := hdd hV
  clear hk1 hV
  obtain ⟨x0, x1, x2, x3⟩ := qz RX.o HZ3.o
  have y1 := RY.o 1 _ rfl _ HZ3.o
  go_wp2_with fail
  refine KV.o.mono ?_
  rintro en4 w4 ⟨⟨r4, rfl, hf4⟩, hb4⟩
  obtain ⟨a1, n1, c1, a2, n2, c2, rfl⟩ := u1z hf4
  obtain ⟨sg, hsg⟩ := qx (decide (V.num < 0))
  rw [← hsg] at hf4 ⊢
  have HF4 := hdd hf4
  have HZ4 := hdd (q0q HZ3.o hb4)
  clear hf4 hb4 hsg x0 x1 x2 x3 y0 y1 KV
  obtain ⟨w5, hw5⟩ := qx (w4.alloc (Obj.cells #[.bool sg, .slice a1 n1 c1, .slice a2 n2 c2] 43))
  have HB5 : Hi (Below w4.heap.size w4 w5) := hdd (by rw [hw5]; exact (qb).alloc qm _)
  have HH5 : Hi (w5.heap[w4.heap.size]? = some (.cells #[.bool sg, .slice a1 n1 c1, .slice a2 n2 c2] 43 (0, 0))) := hdd (by rw [hw5]; exact heap_alloc_new _ _)
  have HW5 := hdd hw5.symm
  clear hw5
  have HZ5 := hdd (q0q HZ4.o HB5.o)
  obtain ⟨x0, x1, x2, x3⟩ := qz RX.o HZ4.o
  have y1 := RY.o 1 _ rfl _ HZ4.o
  obtain ⟨X0, X1, X2, X3⟩ := qz RX.o HZ5.o
  have Y1 := RY.o 1 _ rfl _ HZ5.o
  rw [← HW5.o] at X0 X1 X2 X3 Y1
  go_wp2_with fail
  rw [HW5.o]
  refine (KF.o _ (q0q HB1.o HZ5.o)).mono ?_
  rintro en6 w6 ⟨rfl, hb6⟩
  have HZ6 := hdd (q0q HZ5.o hb6)
  have HB6 := hdd hb6
  clear hb6 x0 x1 x2 x3 y1 X0 X1 X2 X3 Y1 KF
  cases fw with
  | false =>
   go_wp2_with fail
   go_ret
   exact ⟨by rw [HJ.o]; first | done | rfl, q0q HB1.o HZ6.o⟩
  | true =>
  obtain ⟨x0, x1, x2, x3⟩ := qz RX.o HZ6.o
  have y3 := RY.o 3 _ rfl _ HZ6.o
  have KN := hdd (z5h (HP.o.below (q0q HB1.o HZ6.o)))
  go_wp2_with fail
  refine KN.o.mono ?_
  rintro en7 w7 ⟨w2', T, oa, oc, rfl, hb62, hb27, hT, hS, hheld⟩
  have HLIM : Hi (z7v w6 (.pointer (some ⟨w4.heap.size, 0, none⟩)) (some V)) := hdd (by
   have hc := q1q HH5.o
   exact ⟨w4.heap.size, sg, a1, n1, c1, a2, n2, c2, rfl, hc 0 _ rfl _ HB6.o, hc 1 _ rfl _ HB6.o, hc 2 _ rfl _ HB6.o, (HF4.o.inF (by have := HVL.o; omega)).below (q0q HB5.o HB6.o)⟩)
  have KT := hdd (y2x (hheld _ _ HLIM.o) hb27 hT hS)
  have HZ7 : Hi (Below w1.heap.size w1 w7 ∧ w1.heap.size ≤ T) := hdd ⟨(q0q HZ6.o hb62).trans (hb27.mono (q0q HZ6.o hb62).size), Nat.le_trans (q0q HZ6.o hb62).size hT⟩
  clear hb62 hb27 hT hS hheld x0 x1 x2 x3 y3 KN
  obtain ⟨aq, haq⟩ := qx (n9q P l (some V) Cs)
  rw [← haq] at KT HJ
  clear haq
  go_wp2_with fail
  refine KT.o.mono ?_
  rintro en8 w8 ⟨rfl, hb8⟩
  have HZ8 : Hi (Below w1.heap.size w1 w8) := hdd (HZ7.o.1.trans (hb8.mono HZ7.o.2))
  clear hb8 KT
  go_wp2_with fail
  go_ret
  exact ⟨by rw [HJ.o]; first | done | rfl, q0q HB1.o HZ8.o⟩
 have u1 : (k == 1) = false := by simpa using hk1
 by_cases hk2 : k = 2
 ·
  have u2 : (k == 2) = true := by simpa using hk2
  have HJ : Hi (J = n9q P l none Cs) := hdd (HE2.o HWB.o hk2)
  clear hk1 hk2
  obtain ⟨x0, x1, x2, x3⟩ := qz RX.o HZ3.o
  have y3 := RY.o 3 _ rfl _ HZ3.o
  have KN := hdd (z5h (HP.o.below HBW3.o))
  go_wp2_with fail
  refine KN.o.mono ?_
  rintro en7 w7 ⟨w2', T, oa, oc, rfl, hb62, hb27, hT, hS, hheld⟩
  have KT := hdd (y2x (hheld (.pointer none) none rfl) hb27 hT hS)
  have HZ7 : Hi (Below w1.heap.size w1 w7 ∧ w1.heap.size ≤ T) := hdd ⟨(q0q HZ3.o hb62).trans (hb27.mono (q0q HZ3.o hb62).size), Nat.le_trans (q0q HZ3.o hb62).size hT⟩
  clear hb62 hb27 hT hS hheld x0 x1 x2 x3 y0 y3 KN
  obtain ⟨aq, haq⟩ := qx (n9q P l none Cs)
  rw [← haq] at KT HJ
  clear haq
  go_wp2_with fail
  refine KT.o.mono ?_
  rintro en8 w8 ⟨rfl, hb8⟩
  have HZ8 : Hi (Below w1.heap.size w1 w8) := hdd (HZ7.o.1.trans (hb8.mono HZ7.o.2))
  clear hb8 KT
  go_wp2_with fail
  go_ret
  exact ⟨by rw [HJ.o]; first | done | rfl, q0q HB1.o HZ8.o⟩
 have u2 : (k == 2) = false := by simpa using hk2
 by_cases hk3 : k = 3
 rotate_left
 ·
  have u3 : (k == 3) = false := by simpa using hk3
  have HJ : Hi (J = false) := hdd (HE4.o hk1 hk2 hk3)
  clear hk1 hk2 hk3
  go_wp2_with fail
  go_ret
  exact ⟨by rw [HJ.o]; first | done | rfl, HBW3.o⟩
 have u3 : (k == 3) = true := by simpa using hk3
 have HJ : Hi (J = (fw && (u5q P tz && l.all (fun z => zB (q9q tz z.toNat))))) := hdd (HE3.o HWB.o hk3)
 have hgl := j2q HRB.o
 have HV8 := hdd HT.o.vars
 have KL := hdd (fun w' (hb : Below w.heap.size w w') => y7y (HP.o.prog.below hb) (HP.o.zs.below hb) H.o.fit HRB.o (by have := HV8.o; omega) (by have := HV8.o; omega) (by omega) (by have := H.o.zl; omega) (by have := H.o.zl; omega))
 have HLEN : Hi (u5q P tz = true → (zn : Int) = P.vars) := hdd (fun h => by
  unfold u5q at h
  simp only [Bool.and_eq_true, decide_eq_true_eq] at h
  rw [H.o.zn]
  exact h.1.1.1)
 have KZ : Hi (u5q P tz = true → ∀ w', Below w.heap.size w w' → Calls Tryz.prog 43 #[.slice va m vc, .slice za zn zc, .func (.func 44) #[] #[]] w' fun e w'' => e = .returned (.bool (l.all (fun z => zB (q9q tz z.toNat)))) ∧ Below w'.heap.size w' w'') := hdd (fun hl w' hb => by
  rw [← z1j]
  exact k1y (HP.o.ints.below hb) H.o.len (by have := H.o.m6; omega) (HP.o.zs.below hb) (fun i z hz => by
   have h1 := l6q HOK.o hz
   have h2 := HLEN.o hl
   omega))
 obtain ⟨lb, hlb⟩ := qx (u5q P tz)
 obtain ⟨zb, hzb⟩ := qx (l.all (fun z => zB (q9q tz z.toNat)))
 rw [← hlb] at KL KZ HJ
 rw [← hzb] at KZ HJ
 clear hk1 hk2 hk3 hgl hlb hzb
 obtain ⟨x0, x1, x2, x3⟩ := qz RX.o HZ3.o
 have y1 := RY.o 1 _ rfl _ HZ3.o
 go_wp2_with fail
 refine (KF.o _ HBW3.o).mono ?_
 rintro en4 w4 ⟨rfl, hb4⟩
 have HZ4 := hdd (q0q HZ3.o hb4)
 clear hb4 x0 x1 x2 x3 y0 y1 KF
 cases fw with
 | false =>
  go_wp2_with fail
  go_ret
  exact ⟨by rw [HJ.o]; first | done | rfl, q0q HB1.o HZ4.o⟩
 | true =>
 obtain ⟨x0, x1, x2, x3⟩ := qz RX.o HZ4.o
 have y2 := RY.o 2 _ rfl _ HZ4.o
 go_wp2_with fail
 refine (KL.o _ (q0q HB1.o HZ4.o)).mono ?_
 rintro en5 w5 ⟨rfl, hb5⟩
 have HZ5 := hdd (q0q HZ4.o hb5)
 clear hb5 x0 x1 x2 x3 y2 KL
 cases lb with
 | false =>
  go_wp2_with fail
  go_ret
  exact ⟨by rw [HJ.o]; first | done | rfl, q0q HB1.o HZ5.o⟩
 | true =>
 have y2 := RY.o 2 _ rfl _ HZ5.o
 go_wp2_with fail
 refine (KZ.o (by first | rfl | trivial) _ (q0q HB1.o HZ5.o)).mono ?_
 rintro en6 w6 ⟨rfl, hb6⟩
 have HZ6 := hdd (q0q HZ5.o hb6)
 clear hb6 y2 KZ
 go_wp2_with fail
 go_ret
 exact ⟨by rw [HJ.o]; first | done | rfl, q0q HB1.o HZ6.o⟩
theorem k2k (h : q9x w P l Cs tx tz z fa fn fc ga gn gc ra rn rc va m vc xa xn xc za zn zc ca cn cc) :
  Calls Tryz.prog 15 #[.agg #[.int .i64 z, .slice fa fn fc, .slice ga gn gc, .slice ra rn rc], .slice va m vc, .agg #[.int .i64 k, .slice xa xn xc, .slice za zn zc, .slice ca cn cc]] w fun e w' => e = .returned (.bool (jwQ P l k tx tz Cs)) ∧ Below w.heap.size w w' := by
 have H := hdd h
 have HVZ : Hi (z = P.vars) := hdd h.vars
 clear h
 obtain ⟨w1, hw1, HB1, HX1, HY1⟩ := al2 w #[.int .i64 z, .slice fa fn fc, .slice ga gn gc, .slice ra rn rc] 26 #[.int .i64 k, .slice xa xn xc, .slice za zn zc, .slice ca cn cc] 37
 have HW1 := hdd hw1.symm
 clear hw1
 have RX := hdd (q1q HX1.o)
 have RY := hdd (q1q HY1.o)
 obtain ⟨x0, x1, x2, x3⟩ := qz RX.o qb
 have KW := hdd (x0j (vc := vc) (H.o.prog.below HB1.o) H.o.fit (H.o.ints.below HB1.o) H.o.len (by have := H.o.m6; omega) H.o.cap)
 have HNO : Hi (x8q P l = false → jwQ P l k tx tz Cs = false) := hdd (fun h => x9v h)
 have HE1 : Hi (x8q P l = true → k = 1 → jwQ P l k tx tz Cs = (fwQ P l tx && n9q P l (t9q P k tx) Cs)) := hdd (fun h e => by rw [e]; exact g7j h)
 have HE2 : Hi (x8q P l = true → k = 2 → jwQ P l k tx tz Cs = n9q P l (t9q P k tx) Cs) := hdd (fun h e => by rw [e]; exact g7z h)
 have HE3 : Hi (x8q P l = true → k = 3 → jwQ P l k tx tz Cs = (fwQ P l tx && (u5q P tz && l.all (fun z => zB (q9q tz z.toNat))))) := hdd (fun h e => by rw [e]; exact g7y h)
 have HE4 : Hi (k ≠ 1 → k ≠ 2 → k ≠ 3 → jwQ P l k tx tz Cs = false) := hdd v6z
 obtain ⟨J, hJ⟩ := qx (jwQ P l k tx tz Cs)
 rw [← hJ] at HNO HE1 HE2 HE3 HE4 ⊢
 obtain ⟨wb, hwb⟩ := qx (x8q P l)
 rw [← hwb] at KW HNO HE1 HE2 HE3
 have HWB := hdd hwb
 clear hJ hwb
 go_enter Tryz.func15, Tryz.ntmps15
 go_wp2_with fail
 rw [HW1.o]
 refine KW.o.mono ?_
 rintro en2 w2 ⟨rfl, hb2⟩
 have HZ2 := hdd hb2
 clear hb2 x0 x1 x2 x3 KW
 cases wb with
 | false =>
  have HJ : Hi (J = false) := hdd (HNO.o rfl)
  rw [show u3x false = 20 from rfl]
  go_wp2_with fail
  go_ret
  exact ⟨by rw [HJ.o]; first | done | rfl, q0q HB1.o HZ2.o⟩
 | true =>
 rw [show u3x true = 0 from rfl]
 obtain ⟨n, hzn, hpos⟩ := H.o.posed HWB.o.symm
 subst hzn
 have HP := hdd hpos
 clear hpos
 have HBW2 : Hi (Below w.heap.size w w2) := hdd (q0q HB1.o HZ2.o)
 have HT := hdd HP.o.task
 have HOK := hdd (e2q HWB.o.symm).2.1
 have HRB := hdd (e2q HWB.o.symm).1
 have KF := hdd (fun w' (hb : Below w.heap.size w w') => q4y (HP.o.prog.below hb) (HP.o.xs.below hb) H.o.fit (by omega) (by have := H.o.xl; omega) (by have := H.o.xl; omega))
 have HFL : Hi (v5q P tx = true → (xn : Int) = P.vars) := hdd (fun hf => by
  unfold v5q at hf
  simp only [Bool.and_eq_true, decide_eq_true_eq] at hf
  rw [H.o.xn]
  exact hf.1.1.2)
 have KI : Hi (v5q P tx = true → ∀ w', Below w.heap.size w w' → Calls Tryz.prog 47 #[.slice va m vc, .slice xa xn xc] w' fun e w'' => e = .returned (.bool (l.all (fun z => n4q (q9q tx z.toNat)))) ∧ Below w'.heap.size w' w'') := hdd (fun hf w' hb => u7z (HP.o.ints.below hb) H.o.len (by have := H.o.m6; omega) (HP.o.xs.below hb) (by omega) (fun i z hz => by
  have h1 := l6q HOK.o hz
  have h2 := HFL.o hf
  omega))
 have HFW : Hi (fwQ P l tx = (v5q P tx && l.all (fun z => n4q (q9q tx z.toNat)))) := hdd rfl
 obtain ⟨fb, hfb⟩ := qx (v5q P tx)
 obtain ⟨ib, hib⟩ := qx (l.all (fun z => n4q (q9q tx z.toNat)))
 rw [← hfb] at KF KI HFW
 rw [← hib] at KI HFW
 rw [HFW.o] at HE1 HE3
 clear hfb hib HFW
 have y0 := RY.o 0 _ rfl _ HZ2.o
 have KP : Hi (∀ w', cn ≠ 0 → Below w.heap.size w w' → Calls Tryz.prog 50 #[.agg #[.int .i64 (n : Nat), .slice fa fn fc, .slice ga gn gc, .slice ra rn rc], .slice va m vc, .agg #[.int .i64 k, .slice xa xn xc, .slice za zn zc, .slice ca cn cc], .int .i64 0, .slice none 0 0, .slice none 0 0, .int .i64 (cn : Nat)] w' fun e w'' => (∃ v, e = .returned (.tuple #[v, .bool (n9q P l (t9q P k tx) Cs)])) ∧ Below w'.heap.size w' w'') := hdd (fun w' h0 hb => by
  have h9 := u9w (k := k) (zc := zc) (xc := xc) (za := za) (zn := zn) (cc := cc) (vc := vc) HP.o.prog HP.o.small HT.o HP.o.ints HP.o.len HP.o.cases HP.o.cl HP.o.c8 HP.o.xs HP.o.xl cn 0 cn [] [] w' none 0 none 0 hb (fun i z h => by simp at h) (fun i z h => by simp at h) qm (by omega) (by omega) (by have := HP.o.c8; omega) (Way.nil P l)
  refine h9.mono fun e w'' h => ?_
  obtain ⟨he, hb9⟩ := h
  refine ⟨⟨.int .i64 ((u6q P l (t9q P k tx) Cs cn 0 cn [] []).1 : Nat), ?_⟩, hb9⟩
  rw [he]
  unfold n9q
  rw [← HP.o.cl])
 have HC0 : Hi (cn = 0 → n9q P l (t9q P k tx) Cs = false) := hdd (fun h => by
  have e1 : Cs = [] := List.length_eq_zero_iff.1 (by have := HP.o.cl; omega)
  rw [e1]
  rfl)
 obtain ⟨aq, haq⟩ := qx (n9q P l (t9q P k tx) Cs)
 rw [← haq] at KP HC0 HE1 HE2
 clear haq
 by_cases hk2 : k = 2
 ·
  have u1 : (k == 1) = false := by subst hk2; rfl
  have u2 : (k == 2) = true := by simpa using hk2
  have u3 : (k == 3) = false := by subst hk2; rfl
  have HJ : Hi (J = aq) := hdd (HE2.o rfl hk2)
  clear hk2
  have y3 := RY.o 3 _ rfl _ HZ2.o
  by_cases hc0 : cn = 0
  ·
   have t1 : ((cn : Int) == 0) = true := by simpa using hc0
   have HQ := hdd (HC0.o hc0)
   clear hc0
   go_wp2_with fail
   go_ret
   exact ⟨by rw [HJ.o, HQ.o]; first | done | rfl, HBW2.o⟩
  have t1 : ((cn : Int) == 0) = false := by simpa using hc0
  have KPP := hdd (KP.o w2 hc0 HBW2.o)
  clear hc0 KP
  obtain ⟨x0, x1, x2, x3⟩ := qz RX.o HZ2.o
  have y1 := RY.o 1 _ rfl _ HZ2.o
  have y2 := RY.o 2 _ rfl _ HZ2.o
  go_wp2_with fail
  refine KPP.o.mono ?_
  rintro en3 w3 ⟨⟨v3, rfl⟩, hb3⟩
  have HZ3 := hdd (q0q HBW2.o hb3)
  clear hb3 KPP
  go_wp2_with fail
  go_ret
  exact ⟨by rw [HJ.o]; first | done | rfl, HZ3.o⟩
 have u2 : (k == 2) = false := by simpa using hk2
 by_cases hk13 : k = 1 ∨ k = 3
 rotate_left
 ·
  have u1 : (k == 1) = false := by simp; omega
  have u3 : (k == 3) = false := by simp; omega
  have HJ : Hi (J = false) := hdd (HE4.o (by omega) hk2 (by omega))
  clear hk2 hk13
  go_wp2_with fail
  go_ret
  exact ⟨by rw [HJ.o]; first | done | rfl, HBW2.o⟩
 have HJ0 : Hi ((fb && ib) = false → J = false) := hdd (fun h => by
  rcases hk13 with e | e
  ·
   rw [HE1.o rfl e, h]; rfl
  ·
   rw [HE3.o rfl e, h]; rfl)
 have go_fits : Hi (k = 1 ∨ k = 3) := hdd hk13
 clear hk13
 by_cases hk1 : k = 1
 ·
  have u1 : (k == 1) = true := by simpa using hk1
  have u3 : (k == 3) = false := by subst hk1; rfl
  have HJ : Hi (J = ((fb && ib) && aq)) := hdd (HE1.o rfl hk1)
  clear hk1 hk2
  obtain ⟨x0, x1, x2, x3⟩ := qz RX.o HZ2.o
  have y1 := RY.o 1 _ rfl _ HZ2.o
  go_wp2_with fail
  refine (KF.o _ HBW2.o).mono ?_
  rintro en3 w3 ⟨rfl, hb3⟩
  have HZ3 := hdd (q0q HZ2.o hb3)
  clear hb3 KF x0 x1 x2 x3 y0 y1
  cases fb with
  | false =>
   go_wp2_with fail
   go_ret
   exact ⟨by rw [HJ.o]; first | done | rfl, q0q HB1.o HZ3.o⟩
  | true =>
  have y1 := RY.o 1 _ rfl _ HZ3.o
  go_wp2_with fail
  refine (KI.o (by first | rfl | trivial) _ (q0q HB1.o HZ3.o)).mono ?_
  rintro en4 w4 ⟨rfl, hb4⟩
  have HZ4 := hdd (q0q HZ3.o hb4)
  clear hb4 KI y1
  cases ib with
  | false =>
   go_wp2_with fail
   go_ret
   exact ⟨by rw [HJ.o]; first | done | rfl, q0q HB1.o HZ4.o⟩
  | true =>
  have y0 := RY.o 0 _ rfl _ HZ4.o
  have y3 := RY.o 3 _ rfl _ HZ4.o
  by_cases hc0 : cn = 0
  ·
   have t1 : ((cn : Int) == 0) = true := by simpa using hc0
   have HQ := hdd (HC0.o hc0)
   clear hc0
   go_wp2_with fail
   go_ret
   exact ⟨by rw [HJ.o, HQ.o]; first | done | rfl, q0q HB1.o HZ4.o⟩
  have t1 : ((cn : Int) == 0) = false := by simpa using hc0
  have KPP := hdd (KP.o w4 hc0 (q0q HB1.o HZ4.o))
  clear hc0 KP
  obtain ⟨x0, x1, x2, x3⟩ := qz RX.o HZ4.o
  have y1 := RY.o 1 _ rfl _ HZ4.o
  have y2 := RY.o 2 _ rfl _ HZ4.o
  go_wp2_with fail
  refine KPP.o.mono ?_
  rintro en5 w5 ⟨⟨v5, rfl⟩, hb5⟩
  have HZ5 := hdd (q0q (q0q HB1.o HZ4.o) hb5)
  clear hb5 KPP
  go_wp2_with fail
  go_ret
  exact ⟨by rw [HJ.o]; first | done | rfl, HZ5.o⟩
 have hk3 : k = 3 := by have := go_fits.o; omega
 have u1 : (k == 1) = false := by simpa using hk1
 have u3 : (k == 3) = true := by simpa using hk3
 have HJ : Hi (J = ((fb && ib) && (u5q P tz && l.all (fun z => zB (q9q tz z.toNat))))) := hdd (HE3.o rfl hk3)
 have hgl := j2q HRB.o
 have HV8 := hdd HT.o.vars
 have KL := hdd (fun w' (hb : Below w.heap.size w w') => v6h (HP.o.prog.below hb) (HP.o.zs.below hb) H.o.fit HRB.o (by have := HV8.o; omega) (by have := HV8.o; omega) (by omega) (by have := H.o.zl; omega) (by have := H.o.zl; omega))
 have HLEN : Hi (u5q P tz = true → (zn : Int) = P.vars) := hdd (fun h => by
  unfold u5q at h
  simp only [Bool.and_eq_true, decide_eq_true_eq] at h
  rw [H.o.zn]
  exact h.1.1.1)
 obtain ⟨lb, hlb⟩ := qx (u5q P tz)
 obtain ⟨zb, hzb⟩ := qx (l.all (fun z => zB (q9q tz z.toNat)))
 rw [← hlb] at KL HJ HLEN
 rw [← hzb] at HJ
 have HZB := hdd hzb
 clear hk1 hk2 hk3 hgl hlb hzb
 obtain ⟨x0, x1, x2, x3⟩ := qz RX.o HZ2.o
 have y1 := RY.o 1 _ rfl _ HZ2.o
 go_wp2_with fail
 refine (KF.o _ HBW2.o).mono ?_
 rintro en3 w3 ⟨rfl, hb3⟩
 have HZ3 := hdd (q0q HZ2.o hb3)
 clear hb3 KF x0 x1 x2 x3 y0 y1
 cases fb with
 | false =>
  go_wp2_with fail
  go_ret
  exact ⟨by rw [HJ.o]; first | done | rfl, q0q HB1.o HZ3.o⟩
 | true =>
 have y1 := RY.o 1 _ rfl _ HZ3.o
 go_wp2_with fail
 refine (KI.o (by first | rfl | trivial) _ (q0q HB1.o HZ3.o)).mono ?_
 rintro en4 w4 ⟨rfl, hb4⟩
 have HZ4 := hdd (q0q HZ3.o hb4)
 clear hb4 KI y1
 cases ib with
 | false =>
  go_wp2_with fail
  go_ret
  exact ⟨by rw [HJ.o]; first | done | rfl, q0q HB1.o HZ4.o⟩
 | true =>
 have y0 := RY.o 0 _ rfl _ HZ4.o
 go_wp2_with fail
 clear y0
 go_loopw [41] (fun iv wr => ∃ i : Nat, i ≤ m ∧ iv = .int .i64 i ∧ Hi (Below w1.heap.size w1 wr) ∧ Hi (∀ (j : Nat) (z : Int), j < i → l[j]? = some z → zB (q9q tz z.toNat) = true)) (fun iv _ => m - (intOf iv).toNat)
 case atStart => exact ⟨0, Nat.zero_le _, rfl, HZ4, hdd (fun j z hj => absurd hj (Nat.not_lt_zero _))⟩
 case round =>
  obtain ⟨i, hi, rfl, hZ, hgood⟩ := hrel
  obtain ⟨wo, rfl⟩ : ∃ wo : World, wo = wr := ⟨_, rfl⟩
  have HWO := hdd (q0q HB1.o hZ.o)
  have hm6 := H.o.m6
  by_cases hin : i < m
  ·
   have t0 : decide ((i : Int) < (m : Int)) = true := by simp; omega
   obtain ⟨z, Bv, offv, hz, ha, hzb, hcv⟩ := HP.o.ints.at (i := i) (by have := HP.o.len; omega)
   subst ha
   have e1 := hcv wo HWO.o
   have HVZ := hdd hz
   obtain ⟨v, rfl⟩ : ∃ v : Nat, z = (v : Int) := ⟨z.toNat, by have := (l6q HOK.o hz).1; omega⟩
   have HVV : Hi ((v : Int) < P.vars) := hdd (l6q HOK.o hz).2
   have y2 := RY.o 2 _ rfl _ hZ.o
   by_cases hvz : v < zn
   rotate_left
   ·
    have t1 : decide ((v : Int) ≥ (zn : Int)) = true := by simp; omega
    have t2 : decide ((zn : Int) ≤ (v : Int)) = true := by simp; omega
    have t3 : decide (zn ≤ v) = true := by simp; omega
    have t4 : zn ≤ v := by omega
    have HL : Hi (lb = false) := hdd (by
     cases hl : lb with
     | false => rfl
     | true => have := HLEN.o hl; have := HVV.o; omega)
    clear hcv hz hvz
    go_wp2_with fail
    go_ret
    exact ⟨by rw [HJ.o, HL.o]; first | done | rfl, HWO.o⟩
   have t1 : decide ((v : Int) ≥ (zn : Int)) = false := by simp; omega
   have t2 : decide ((zn : Int) ≤ (v : Int)) = false := by simp; omega
   have t3 : decide (zn ≤ v) = false := by simp; omega
   have t4 : ¬ zn ≤ v := by omega
   obtain ⟨q, B, off, b, a1, n1, c1, a2, n2, c2, hq, hab, hc, hf⟩ := HP.o.zs.at hvz
   subst hab
   obtain ⟨g0, g1, g2⟩ := hc wo HWO.o
   have HNQ : Hi (q9q tz ((v : Int)).toNat = q) := hdd (by rw [Int.toNat_natCast]; exact v9q hq)
   have KS := hdd (z8w (n := 26) (w := wo) ((hf.below HWO.o).sz) (by omega))
   obtain ⟨o, ho⟩ := qx (z7q q 0)
   rw [← ho] at KS
   have HBT : Hi (zB q = decide (o = 0)) := hdd (by rw [ho]; rfl)
   have HGO : Hi (zB q = true → ∀ (j : Nat) (z : Int), j < i + 1 → l[j]? = some z → zB (q9q tz z.toNat) = true) := hdd (fun hb j y hj hy => by
    by_cases hji : j = i
    ·
     subst hji
     rw [HVZ.o] at hy
     cases hy
     rw [HNQ.o]
     exact hb
    ·
     exact hgood.o j y (by omega) hy)
   have HST : Hi (zB q = false → zb = false) := hdd (fun hb => by
    rw [HZB.o]
    refine List.all_eq_false.2 ⟨(v : Int), List.mem_of_getElem? HVZ.o, ?_⟩
    rw [HNQ.o, hb]
    decide)
   clear hcv hc hf hq ho hz
   go_wp2_with fail
   refine KS.o.mono ?_
   rintro en5 w5 ⟨rfl, hb5⟩
   have HZ5 := hdd (q0q hZ.o hb5)
   clear hb5 e1 g0 g1 g2 y2 KS
   by_cases h0 : o = 0
   ·
    have v1 : (o != 0) = false := by simpa using h0
    have HG9 := hdd (HGO.o (by rw [HBT.o]; simpa using h0))
    clear h0
    go_wp2_with fail
    go_roundw
    case rel => exact ⟨i + 1, by omega, by go_num, HZ5, HG9⟩
    case measure => simp [intOf]; omega
   ·
    have v1 : (o != 0) = true := by simpa using h0
    have HL := hdd (HST.o (by rw [HBT.o]; simpa using h0))
    clear h0
    go_wp2_with fail
    go_ret
    exact ⟨by rw [HJ.o, HL.o]; simp, q0q HB1.o HZ5.o⟩
  ·
   have t0 : decide ((i : Int) < (m : Int)) = false := by simp; omega
   obtain rfl : i = m := by omega
   have HL : Hi (zb = true) := hdd (by
    rw [HZB.o, List.all_eq_true]
    intro y hy
    obtain ⟨j, hj⟩ := List.getElem?_of_mem hy
    exact hgood.o j y (by have := (List.getElem?_eq_some_iff.1 hj).1; have := HP.o.len; omega) hj)
   obtain ⟨x0, x1, x2, x3⟩ := qz RX.o hZ.o
   have y2 := RY.o 2 _ rfl _ hZ.o
   go_wp2_with fail
   refine (KL.o _ HWO.o).mono ?_
   rintro en5 w5 ⟨rfl, hb5⟩
   have HZ5 := hdd (q0q HWO.o hb5)
   clear hb5 x0 x1 x2 x3 y2 KL
   go_wp2_with fail
   go_ret
   exact ⟨by rw [HJ.o, HL.o]; simp, HZ5.o⟩
end Go.Proofs.YtkkbmlkpgknhgaaGreat
