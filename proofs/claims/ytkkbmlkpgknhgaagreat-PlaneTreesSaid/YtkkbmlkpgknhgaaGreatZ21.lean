import Derived.Test.YtkkbmlkpgknhgaaGreatZ20
import Derived.Test.YtkkbmlkpgknhgaaGreatZ18
import Derived.Deep.RegionHeld3
import Derived.Deep.DrawnRows
set_option maxRecDepth 100000
set_option maxHeartbeats 16000000
namespace Go.Proofs.YtkkbmlkpgknhgaaGreat
open Go.RowKit
attribute [local go_sem ↓] Go.wp_at_zero Go.wp_at_succ
variable {N base c fc fn m n p p2 xc xn : Nat} {P : Pm} {a fa xa : Option Addr} {l zs : List Int} {q : Rat} {v x : Value} {w w' w0 : World} {xs : List Rat} {z : Int}
theorem g6w {pb : Int → Bool} (h : v8q w a l) (hm : m = l.length) (hm9 : m ≤ 1000) (hF : ∀ (i : Nat) (z : Int) (w' : World), l[i]? = some z → Below w.heap.size w w' → Calls Tryz.prog 68 (#[.int .i64 z] ++ #[.pointer (some ⟨p, 0, none⟩)]) w' fun e w'' => e = .returned (.bool (pb z)) ∧ Below w'.heap.size w' w'') :
  Calls Tryz.prog 62 #[.slice a m c, .func (.func 68) #[] #[.pointer (some ⟨p, 0, none⟩)]] w fun e w' => (∃ z, e = .returned (.int .i64 z) ∧ decide (0 ≤ z) = l.any pb) ∧ Below w.heap.size w w' := by
 have HI := hdd h
 have HM := hdd hm
 have KF := hdd hF
 obtain ⟨okb, hokb⟩ := qx (l.any pb)
 have HOK := hdd hokb
 rw [← hokb]
 clear h hm hokb hF
 go_enter Tryz.func62, Tryz.ntmps62
 go_wp2_with fail
 go_loopw [8] (fun iv wr => ∃ i : Nat, i ≤ m ∧ iv = .int .i64 i ∧ Hi (Below w.heap.size w wr) ∧ Hi (∀ j z, j < i → l[j]? = some z → pb z = false)) (fun iv _ => m - (intOf iv).toNat)
 case atStart => exact ⟨0, Nat.zero_le _, rfl, hdd qb, hdd (fun j z hj => absurd hj (Nat.not_lt_zero _))⟩
 case round =>
  obtain ⟨i, hi, rfl, hZ, hno⟩ := hrel
  obtain ⟨wo, rfl⟩ : ∃ wo : World, wo = wr := ⟨_, rfl⟩
  by_cases hin : i < m
  ·
   have t0 : decide ((i : Int) < (m : Int)) = true := by simp; omega
   obtain ⟨z, B, off, hz, ha, hzb, hc⟩ := HI.o.at (i := i) (by have := HM.o; omega)
   subst ha
   have e1 := hc wo hZ.o
   have HLZ := hdd hz
   clear hc hz
   obtain ⟨bz, hbz⟩ := qx (pb z)
   have HBZ := hdd hbz
   go_wp2_with fail
   refine (KF.o i z _ HLZ.o hZ.o).mono ?_
   rintro en2 w2 ⟨rfl, hb2⟩
   rw [← hbz]
   have HZ2 := hdd (q0q hZ.o hb2)
   clear hb2 hbz
   cases bz with
   | true =>
    have HE : Hi (true = okb) := hdd (by
     rw [HOK.o]
     exact (List.any_eq_true.2 ⟨z, List.mem_of_getElem? HLZ.o, HBZ.o.symm⟩).symm)
    go_wp2_with fail
    go_ret
    exact ⟨⟨_, rfl, by rw [← HE.o]; simp⟩, HZ2.o⟩
   | false =>
    have HN9 : Hi (∀ j z, j < i + 1 → l[j]? = some z → pb z = false) := hdd (fun j y hj hy => by
     by_cases hji : j = i
     ·
      subst hji
      rw [HLZ.o] at hy
      cases hy
      exact HBZ.o.symm
     ·
      exact hno.o j y (by omega) hy)
    go_wp2_with fail
    go_roundw
    case rel => exact ⟨i + 1, by omega, by go_num, HZ2, HN9⟩
    case measure => simp [intOf]; omega
  ·
   have t0 : decide ((i : Int) < (m : Int)) = false := by simp; omega
   have HE : Hi (false = okb) := hdd (by
    rw [HOK.o]
    exact ((y0z (fun j z hj hz => hno.o j z (by have := HM.o; omega) hz)).2).symm)
   go_wp2_with fail
   go_ret
   exact ⟨⟨_, rfl, by rw [← HE.o]; simp⟩, hZ.o⟩
theorem g5h {pb : Int → Bool} (h : v8q w a l) (hm : m = l.length) (hm9 : m ≤ 1000) (hF : ∀ (i : Nat) (z : Int) (w' : World), l[i]? = some z → Below w.heap.size w w' → Calls Tryz.prog 68 (#[.int .i64 z] ++ #[.pointer (some ⟨p, 0, none⟩)]) w' fun e w'' => e = .returned (.bool (pb z)) ∧ Below w'.heap.size w' w'') :
  Calls Tryz.prog 30 #[.slice a m c, .func (.func 68) #[] #[.pointer (some ⟨p, 0, none⟩)]] w fun e w' => e = .returned (.bool (l.any pb)) ∧ Below w.heap.size w w' := by
 have KF := hdd (g6w (c := c) h hm hm9 hF)
 obtain ⟨okb, hokb⟩ := qx (l.any pb)
 rw [← hokb] at KF ⊢
 clear h hm hokb hF
 go_enter Tryz.func30, Tryz.ntmps30
 go_wp2_with fail
 refine KF.o.mono ?_
 rintro en2 w2 ⟨⟨z, rfl, hz⟩, hb2⟩
 have HZ := hdd hz
 have t0 : decide (z ≥ 0) = okb := hz
 clear hz
 cases okb with
 | true =>
  go_wp2_with fail
  go_ret
  exact ⟨rfl, hb2⟩
 | false =>
  go_wp2_with fail
  go_ret
  exact ⟨rfl, hb2⟩
theorem g0h {pb : Int → Bool} (h : v8q w a l) (hm : m = l.length) (hm9 : m ≤ 1000) (hF : ∀ (i : Nat) (z : Int) (w' : World), l[i]? = some z → Below w.heap.size w w' → Calls Tryz.prog 78 (#[.int .i64 z] ++ #[.pointer (some ⟨p, 0, none⟩), .pointer (some ⟨p2, 0, none⟩)]) w' fun e w'' => e = .returned (.bool (pb z)) ∧ Below w'.heap.size w' w'') :
  Calls Tryz.prog 62 #[.slice a m c, .func (.func 78) #[] #[.pointer (some ⟨p, 0, none⟩), .pointer (some ⟨p2, 0, none⟩)]] w fun e w' => (∃ z, e = .returned (.int .i64 z) ∧ decide (0 ≤ z) = l.any pb) ∧ Below w.heap.size w w' := by
 have HI := hdd h
 have HM := hdd hm
 have KF := hdd hF
 obtain ⟨okb, hokb⟩ := qx (l.any pb)
 have HOK := hdd hokb
 rw [← hokb]
 clear h hm hokb hF
 go_enter Tryz.func62, Tryz.ntmps62
 go_wp2_with fail
 go_loopw [8] (fun iv wr => ∃ i : Nat, i ≤ m ∧ iv = .int .i64 i ∧ Hi (Below w.heap.size w wr) ∧ Hi (∀ j z, j < i → l[j]? = some z → pb z = false)) (fun iv _ => m - (intOf iv).toNat)
 case atStart => exact ⟨0, Nat.zero_le _, rfl, hdd qb, hdd (fun j z hj => absurd hj (Nat.not_lt_zero _))⟩
 case round =>
  obtain ⟨i, hi, rfl, hZ, hno⟩ := hrel
  obtain ⟨wo, rfl⟩ : ∃ wo : World, wo = wr := ⟨_, rfl⟩
  by_cases hin : i < m
  ·
   have t0 : decide ((i : Int) < (m : Int)) = true := by simp; omega
   obtain ⟨z, B, off, hz, ha, hzb, hc⟩ := HI.o.at (i := i) (by have := HM.o; omega)
   subst ha
   have e1 := hc wo hZ.o
   have HLZ := hdd hz
   clear hc hz
   obtain ⟨bz, hbz⟩ := qx (pb z)
   have HBZ := hdd hbz
   go_wp2_with fail
   refine (KF.o i z _ HLZ.o hZ.o).mono ?_
   rintro en2 w2 ⟨rfl, hb2⟩
   rw [← hbz]
   have HZ2 := hdd (q0q hZ.o hb2)
   clear hb2 hbz
   cases bz with
   | true =>
    have HE : Hi (true = okb) := hdd (by
     rw [HOK.o]
     exact (List.any_eq_true.2 ⟨z, List.mem_of_getElem? HLZ.o, HBZ.o.symm⟩).symm)
    go_wp2_with fail
    go_ret
    exact ⟨⟨_, rfl, by rw [← HE.o]; simp⟩, HZ2.o⟩
   | false =>
    have HN9 : Hi (∀ j z, j < i + 1 → l[j]? = some z → pb z = false) := hdd (fun j y hj hy => by
     by_cases hji : j = i
     ·
      subst hji
      rw [HLZ.o] at hy
      cases hy
      exact HBZ.o.symm
     ·
      exact hno.o j y (by omega) hy)
    go_wp2_with fail
    go_roundw
    case rel => exact ⟨i + 1, by omega, by go_num, HZ2, HN9⟩
    case measure => simp [intOf]; omega
  ·
   have t0 : decide ((i : Int) < (m : Int)) = false := by simp; omega
   have HE : Hi (false = okb) := hdd (by
    rw [HOK.o]
    exact ((y0z (fun j z hj hz => hno.o j z (by have := HM.o; omega) hz)).2).symm)
   go_wp2_with fail
   go_ret
   exact ⟨⟨_, rfl, by rw [← HE.o]; simp⟩, hZ.o⟩
theorem v4x {pb : Int → Bool} (h : v8q w a l) (hm : m = l.length) (hm9 : m ≤ 1000) (hF : ∀ (i : Nat) (z : Int) (w' : World), l[i]? = some z → Below w.heap.size w w' → Calls Tryz.prog 78 (#[.int .i64 z] ++ #[.pointer (some ⟨p, 0, none⟩), .pointer (some ⟨p2, 0, none⟩)]) w' fun e w'' => e = .returned (.bool (pb z)) ∧ Below w'.heap.size w' w'') :
  Calls Tryz.prog 30 #[.slice a m c, .func (.func 78) #[] #[.pointer (some ⟨p, 0, none⟩), .pointer (some ⟨p2, 0, none⟩)]] w fun e w' => e = .returned (.bool (l.any pb)) ∧ Below w.heap.size w w' := by
 have KF := hdd (g0h (c := c) h hm hm9 hF)
 obtain ⟨okb, hokb⟩ := qx (l.any pb)
 rw [← hokb] at KF ⊢
 clear h hm hokb hF
 go_enter Tryz.func30, Tryz.ntmps30
 go_wp2_with fail
 refine KF.o.mono ?_
 rintro en2 w2 ⟨⟨z, rfl, hz⟩, hb2⟩
 have HZ := hdd hz
 have t0 : decide (z ≥ 0) = okb := hz
 clear hz
 cases okb with
 | true =>
  go_wp2_with fail
  go_ret
  exact ⟨rfl, hb2⟩
 | false =>
  go_wp2_with fail
  go_ret
  exact ⟨rfl, hb2⟩
theorem u3k {bs : List Bool} {b : Bool} (hb : Below w0.heap.size w0 w) (hp : w.cell? ⟨p, 1, none⟩ = some (.slice fa fn fc)) (hB : f3q w0 fa bs) (hn : fn = bs.length) (h0 : 0 ≤ z) (hz : bs[z.toNat]? = some b) :
  Calls Tryz.prog 68 #[.int .i64 z, .pointer (some ⟨p, 0, none⟩)] w fun e w' => e = .returned (.bool b) ∧ Below w.heap.size w w' := by
 obtain ⟨v, rfl⟩ : ∃ v : Nat, z = (v : Int) := ⟨z.toNat, by omega⟩
 rw [Int.toNat_natCast] at hz
 have hlt : v < fn := by rw [hn]; exact (List.getElem?_eq_some_iff.1 hz).1
 obtain ⟨B, off, ha, hc⟩ := hB v b hz
 subst ha
 have e1 := q3q hb hc
 have hlt1 := g9q hp
 clear hb hB hc hz h0 hn
 go_enter Tryz.func68, Tryz.ntmps68
 go_wp2_with fail
 go_ret
 exact ⟨rfl, Below.refl _ _⟩
def p0q (P : Pm) (z : Int) : Bool := (P.free[z.toNat]?).getD false
theorem x2x (h : y9q N w v P) (hrb : j7q P = true) (hv1 : P.vars ≤ 160) (hl : v8q w a l) (hm : m = l.length) (hm9 : m ≤ 1000) :
  Calls Tryz.prog 37 #[v, .slice a m c] w fun e w' => e = .returned (.bool (okV P.vars l && !(l.any (p0q P)))) ∧ Below w.heap.size w w' := by
 obtain ⟨fa, fc, ga, gc, ra, rc, rfl, -, -, hB, -, -⟩ := h
 have hg := j2q hrb
 obtain ⟨n, hn⟩ : ∃ n : Nat, P.vars = (n : Int) := ⟨P.vars.toNat, by omega⟩
 have hfl : P.free.length = n := by omega
 have HBO := hdd hB
 have HI := hdd hl
 have HM := hdd hm
 obtain ⟨gn, hgn⟩ := qx (P.goal.length)
 obtain ⟨rn, hrn⟩ := qx (P.rows.length)
 rw [← hgn, ← hrn, hfl, hn]
 have HFL := hdd hfl
 have hn160 : n ≤ 160 := by omega
 clear hB hl hm hg hgn hrn hrb hv1 hn hfl
 obtain ⟨w1, hw1, HB1, HX1⟩ := al1 w #[.int .i64 (n : Int), .slice fa n fc, .slice ga gn gc, .slice ra rn rc] 26
 have HW1 := hdd hw1.symm
 clear hw1
 have RX := hdd (q1q HX1.o)
 obtain ⟨x0, x1, x2, x3⟩ := qz RX.o qb
 have KD := hdd (u0h (n := n) (fa := fa) (ga := ga) (ra := ra) (fn := n) (fc := fc) (gn := gn) (gc := gc) (rn := rn) (rc := rc) (c := c) (HI.o.below HB1.o) HM.o (by omega) (by omega))
 have hmf : ∀ (fn : Fn) (first cap : Array Value) (w : World), (Instr.makeFunc fn first cap).run Tryz.prog w = .ok (.func fn first cap) w := fun _ _ _ _ => rfl
 have KA : Hi (okV (n : Int) l = true → ∀ w', Below w1.heap.size w1 w' → Calls Tryz.prog 30 #[.slice a m c, .func (.func 68) #[] #[.pointer (some ⟨w.heap.size, 0, none⟩)]] w' fun e w'' => e = .returned (.bool (l.any (p0q P))) ∧ Below w'.heap.size w' w'') := hdd (fun ho w' hb => g5h (pb := p0q P) (HI.o.below (q0q HB1.o hb)) HM.o (by omega) (fun i z w'' hz hb9 => by
  have hr := l6q ho hz
  have hlt : z.toNat < P.free.length := by rw [HFL.o]; omega
  have e : p0q P z = P.free[z.toNat] := by unfold p0q; rw [List.getElem?_eq_getElem hlt]; rfl
  rw [e]
  exact u3k (w0 := w) (fn := n) (q0q HB1.o (q0q hb hb9)) (RX.o 1 _ rfl _ (q0q hb hb9)) HBO.o HFL.o.symm hr.1 (List.getElem?_eq_getElem hlt)))
 obtain ⟨ob, hob⟩ := qx (okV (n : Int) l)
 obtain ⟨ab, hab⟩ := qx (l.any (p0q P))
 rw [← hob] at KD KA ⊢
 rw [← hab] at KA ⊢
 clear hob hab
 go_enter Tryz.func37, Tryz.ntmps37
 go_wp2_with fail
 rw [HW1.o]
 refine KD.o.mono ?_
 rintro en2 w2 ⟨rfl, hb2⟩
 have HZ2 := hdd hb2
 clear hb2 x0 x1 x2 x3
 cases ob with
 | false =>
  go_wp2_with fail
  go_ret
  exact ⟨rfl, q0q HB1.o HZ2.o⟩
 | true =>
  go_wp2_with fail
  refine (KA.o (by first | rfl | trivial) _ HZ2.o).mono ?_
  rintro en3 w3 ⟨rfl, hb3⟩
  have HZ3 := hdd (q0q HZ2.o hb3)
  clear hb3
  go_wp2_with fail
  go_ret
  exact ⟨by simp, q0q HB1.o HZ3.o⟩
def zB (q : Rat) : Bool := decide (z7q q 0 = 0)
def n4q (q : Rat) : Bool := zB q || decide (z7q q 1 = 0)
theorem y6j (h : InF w v q) : ∃ b a n c a' n' c', v = .agg #[.bool b, .slice a n c, .slice a' n' c'] := by
 obtain ⟨b, l, m, ⟨u, d, rfl, hu, hd⟩, -⟩ := h
 obtain ⟨a1, c1, rfl, -⟩ := hu
 obtain ⟨a2, c2, rfl, -⟩ := hd
 exact ⟨_, _, _, _, _, _, _, rfl⟩
theorem y1h (hx : InF w x q) : Calls Tryz.prog 44 #[x] w fun e w' => e = .returned (.bool (zB q)) ∧ Below w.heap.size w w' := by
 obtain ⟨b, a1, n1, c1, a2, n2, c2, rfl⟩ := y6j hx
 have HX := hdd hx
 obtain ⟨w1, hw1, HB1, HX1⟩ := al1 w #[.bool b, .slice a1 n1 c1, .slice a2 n2 c2] 43
 have HW1 := hdd hw1.symm
 have RX := hdd (q1q HX1.o)
 have x0 := RX.o 0 _ rfl _ qb
 have x1 := RX.o 1 _ rfl _ qb
 have x2 := RX.o 2 _ rfl _ qb
 clear hw1 hx
 have K := hdd (j1k (HX.o.below HB1.o))
 obtain ⟨o, ho⟩ := qx (z7q q 0)
 have HO := hdd ho
 rw [← ho] at K
 clear ho
 by_cases h0 : o = 0
 ·
  have u0 : (o == 0) = true := by simpa using h0
  have u1 : decide (o = 0) = true := by simpa using h0
  have HZ : Hi (zB q = true) := hdd (by unfold zB; rw [← HO.o]; exact u1)
  rw [HZ.o]
  clear h0
  go_enter Tryz.func44, Tryz.ntmps44
  go_wp2_with fail
  rw [HW1.o]
  refine K.o.mono ?_
  rintro en2 w2 ⟨rfl, hb2⟩
  go_wp2_with fail
  go_ret
  exact ⟨by first | rfl | (rw [← u0]; rfl) | (simp [u0, u1]), q0q HB1.o hb2⟩
 ·
  have u0 : (o == 0) = false := by simpa using h0
  have u1 : decide (o = 0) = false := by simpa using h0
  have HZ : Hi (zB q = false) := hdd (by unfold zB; rw [← HO.o]; exact u1)
  rw [HZ.o]
  go_enter Tryz.func44, Tryz.ntmps44
  go_wp2_with fail
  rw [HW1.o]
  refine K.o.mono ?_
  rintro en2 w2 ⟨rfl, hb2⟩
  go_wp2_with fail
  go_ret
  exact ⟨by first | rfl | (rw [← u0]; rfl) | (simp [u0, u1]), q0q HB1.o hb2⟩
theorem g1z (hx : InF w x q) : Calls Tryz.prog 72 #[x] w fun e w' => e = .returned (.bool (n4q q)) ∧ Below w.heap.size w w' := by
 obtain ⟨b, a1, n1, c1, a2, n2, c2, rfl⟩ := y6j hx
 have HX := hdd hx
 obtain ⟨w1, hw1, HB1, HX1⟩ := al1 w #[.bool b, .slice a1 n1 c1, .slice a2 n2 c2] 43
 have HW1 := hdd hw1.symm
 have RX := hdd (q1q HX1.o)
 have x0 := RX.o 0 _ rfl _ qb
 have x1 := RX.o 1 _ rfl _ qb
 have x2 := RX.o 2 _ rfl _ qb
 clear hw1 hx
 have KZ := hdd (fun w' (hb : Below w1.heap.size w1 w') => y1h (w := w') (HX.o.below (q0q HB1.o hb)))
 have KI := hdd (fun w' => j3x (w := w') a9q (by decide) (by decide))
 have KC := hdd (fun w' y (hb : Below w1.heap.size w1 w') (hy : j3q w' y 1) => z4j (w := w') (HX.o.below (q0q HB1.o hb)) (hy.inF (by decide +kernel)))
 obtain ⟨ONE, hONE⟩ := qx ((1 : Rat))
 obtain ⟨o, ho⟩ := qx (z7q q 1)
 have HBB : Hi (n4q q = (zB q || decide (o = 0))) := hdd (by rw [ho]; rfl)
 rw [← ho] at KC
 rw [← hONE] at KI KC
 rw [HBB.o]
 obtain ⟨zb, hzb⟩ := qx (zB q)
 rw [← hzb] at KZ ⊢
 clear ho hONE hzb HBB
 cases zb with
 | true =>
  rw [Bool.true_or]
  go_enter Tryz.func72, Tryz.ntmps72
  go_wp2_with fail
  rw [HW1.o]
  have hz : Below w1.heap.size w1 w1.drew := q5q qb 1
  refine wp_region_held_drew (S := (fun w' => w'.cell? ⟨w.heap.size, 0, none⟩ = some (.bool b) ∧ w'.cell? ⟨w.heap.size, 1, none⟩ = some (.slice a1 n1 c1) ∧ w'.cell? ⟨w.heap.size, 2, none⟩ = some (.slice a2 n2 c2))) (by kernel_rfl) ?_ (fun hHeld => ?_)
  ·
   (try dsimp only); refine ⟨?_, ?_, ?_⟩ <;> (first | exact RX.o _ _ rfl _ (by assumption))
  refine jq 0 ?_
  refine wpAnyH_ready (rs := [1]) (by kernel_rfl) (by simp) (AllReadyH.cons (o := _) rfl (fun K hK => ?_) AllReadyH.nil)
  go_simp
  refine (KZ.o _ hz).mono ?_
  rintro en2 w2 ⟨rfl, hb2⟩
  have hz := q0q hz hb2
  try go_wp2_with fail
  refine hK.out _ _ ?_ (fun hHeld => ?_)
  ·
   (try dsimp only); refine ⟨?_, ?_, ?_⟩ <;> (first | exact RX.o _ _ rfl _ (by assumption))
  clear hK K
  try refine lyh ?_
  refine jq 2 ?_
  refine qj 3 ?_
  refine qj 4 ?_
  refine qj 5 ?_
  refine qj 6 ?_
  refine jq 7 ?_
  refine jq 8 ?_
  refine wpAnyH_done (by kernel_rfl) ?_ _
  have HZ9 := hdd hz
  clear hz
  go_wp2_with fail
  go_ret
  exact ⟨by first | rfl | (simp [*]), q0q HB1.o HZ9.o⟩
 | false =>
  rw [Bool.false_or]
  by_cases h0 : o = 0
  ·
   have u0 : (o == 0) = true := by simpa using h0
   have u1 : decide (o = 0) = true := by simpa using h0
   rw [u1]
   clear h0
   go_enter Tryz.func72, Tryz.ntmps72
   go_wp2_with fail
   rw [HW1.o]
   have hz : Below w1.heap.size w1 w1.drew := q5q qb 1
   refine wp_region_held_drew (S := (fun w' => w'.cell? ⟨w.heap.size, 0, none⟩ = some (.bool b) ∧ w'.cell? ⟨w.heap.size, 1, none⟩ = some (.slice a1 n1 c1) ∧ w'.cell? ⟨w.heap.size, 2, none⟩ = some (.slice a2 n2 c2))) (by kernel_rfl) ?_ (fun hHeld => ?_)
   ·
    (try dsimp only); refine ⟨?_, ?_, ?_⟩ <;> (first | exact RX.o _ _ rfl _ (by assumption))
   refine jq 0 ?_
   refine wpAnyH_ready (rs := [1]) (by kernel_rfl) (by simp) (AllReadyH.cons (o := _) rfl (fun K hK => ?_) AllReadyH.nil)
   go_simp
   refine (KZ.o _ hz).mono ?_
   rintro en2 w2 ⟨rfl, hb2⟩
   have hz := q0q hz hb2
   try go_wp2_with fail
   refine hK.out _ _ ?_ (fun hHeld => ?_)
   ·
    (try dsimp only); refine ⟨?_, ?_, ?_⟩ <;> (first | exact RX.o _ _ rfl _ (by assumption))
   clear hK K
   try refine lyh ?_
   refine jq 2 ?_
   refine jq 3 ?_
   refine wpAnyH_ready (rs := [4]) (by kernel_rfl) (by simp) (AllReadyH.cons (o := _) rfl (fun K hK => ?_) AllReadyH.nil)
   go_simp
   refine (KI.o _).mono ?_
   rintro en3 w3 ⟨⟨r3, rfl, f3⟩, hb3⟩
   obtain ⟨a3, n3, c3, i3, j3, k3, hq3⟩ := q8q f3
   subst hq3
   obtain ⟨bq, hbq⟩ := qx (decide (ONE.num < 0))
   rw [← hbq] at f3
   rw [← hbq]
   clear hbq
   have hz := q0q hz hb3
   try go_wp2_with fail
   refine hK.out _ _ ?_ (fun hHeld => ?_)
   ·
    (try dsimp only); refine ⟨?_, ?_, ?_⟩ <;> (first | exact RX.o _ _ rfl _ (by assumption))
   clear hK K
   try refine lyh ?_
   refine wpAnyH_ready (rs := [5]) (by kernel_rfl) (by simp) (AllReadyH.cons (o := _) rfl (fun K hK => ?_) AllReadyH.nil)
   go_simp
   refine (KC.o _ _ hz f3).mono ?_
   rintro en4 w4 ⟨rfl, hb4⟩
   have hz := q0q hz hb4
   try go_wp2_with fail
   refine hK.out _ _ ?_ (fun hHeld => ?_)
   ·
    (try dsimp only); refine ⟨?_, ?_, ?_⟩ <;> (first | exact RX.o _ _ rfl _ (by assumption))
   clear hK K
   try refine lyh ?_
   refine jq 6 ?_
   refine jq 7 ?_
   refine jq 8 ?_
   refine wpAnyH_done (by kernel_rfl) ?_ _
   have HZ9 := hdd hz
   clear hz
   go_wp2_with fail
   go_ret
   exact ⟨by first | rfl | (simp [*]), q0q HB1.o HZ9.o⟩
  ·
   have u0 : (o == 0) = false := by simpa using h0
   have u1 : decide (o = 0) = false := by simpa using h0
   rw [u1]
   go_enter Tryz.func72, Tryz.ntmps72
   go_wp2_with fail
   rw [HW1.o]
   have hz : Below w1.heap.size w1 w1.drew := q5q qb 1
   refine wp_region_held_drew (S := (fun w' => w'.cell? ⟨w.heap.size, 0, none⟩ = some (.bool b) ∧ w'.cell? ⟨w.heap.size, 1, none⟩ = some (.slice a1 n1 c1) ∧ w'.cell? ⟨w.heap.size, 2, none⟩ = some (.slice a2 n2 c2))) (by kernel_rfl) ?_ (fun hHeld => ?_)
   ·
    (try dsimp only); refine ⟨?_, ?_, ?_⟩ <;> (first | exact RX.o _ _ rfl _ (by assumption))
   refine jq 0 ?_
   refine wpAnyH_ready (rs := [1]) (by kernel_rfl) (by simp) (AllReadyH.cons (o := _) rfl (fun K hK => ?_) AllReadyH.nil)
   go_simp
   refine (KZ.o _ hz).mono ?_
   rintro en2 w2 ⟨rfl, hb2⟩
   have hz := q0q hz hb2
   try go_wp2_with fail
   refine hK.out _ _ ?_ (fun hHeld => ?_)
   ·
    (try dsimp only); refine ⟨?_, ?_, ?_⟩ <;> (first | exact RX.o _ _ rfl _ (by assumption))
   clear hK K
   try refine lyh ?_
   refine jq 2 ?_
   refine jq 3 ?_
   refine wpAnyH_ready (rs := [4]) (by kernel_rfl) (by simp) (AllReadyH.cons (o := _) rfl (fun K hK => ?_) AllReadyH.nil)
   go_simp
   refine (KI.o _).mono ?_
   rintro en3 w3 ⟨⟨r3, rfl, f3⟩, hb3⟩
   obtain ⟨a3, n3, c3, i3, j3, k3, hq3⟩ := q8q f3
   subst hq3
   obtain ⟨bq, hbq⟩ := qx (decide (ONE.num < 0))
   rw [← hbq] at f3
   rw [← hbq]
   clear hbq
   have hz := q0q hz hb3
   try go_wp2_with fail
   refine hK.out _ _ ?_ (fun hHeld => ?_)
   ·
    (try dsimp only); refine ⟨?_, ?_, ?_⟩ <;> (first | exact RX.o _ _ rfl _ (by assumption))
   clear hK K
   try refine lyh ?_
   refine wpAnyH_ready (rs := [5]) (by kernel_rfl) (by simp) (AllReadyH.cons (o := _) rfl (fun K hK => ?_) AllReadyH.nil)
   go_simp
   refine (KC.o _ _ hz f3).mono ?_
   rintro en4 w4 ⟨rfl, hb4⟩
   have hz := q0q hz hb4
   try go_wp2_with fail
   refine hK.out _ _ ?_ (fun hHeld => ?_)
   ·
    (try dsimp only); refine ⟨?_, ?_, ?_⟩ <;> (first | exact RX.o _ _ rfl _ (by assumption))
   clear hK K
   try refine lyh ?_
   refine jq 6 ?_
   refine jq 7 ?_
   refine jq 8 ?_
   refine wpAnyH_done (by kernel_rfl) ?_ _
   have HZ9 := hdd hz
   clear hz
   go_wp2_with fail
   go_ret
   exact ⟨by first | rfl | (simp [*]), q0q HB1.o HZ9.o⟩
theorem g5w (hb : Below w0.heap.size w0 w) (hp : w.cell? ⟨p, 0, none⟩ = some (.func (.func 44) #[] #[])) (hp2 : w.cell? ⟨p2, 0, none⟩ = some (.slice xa xn xc)) (hX : z1q N w0 (.slice xa xn xc) xs) (h0 : 0 ≤ z) (hz : z < (xn : Int)) :
  Calls Tryz.prog 78 #[.int .i64 z, .pointer (some ⟨p, 0, none⟩), .pointer (some ⟨p2, 0, none⟩)] w fun e w' => e = .returned (.bool (!(zB (q9q xs z.toNat)))) ∧ Below w.heap.size w w' := by
 obtain ⟨v, rfl⟩ : ∃ v : Nat, z = (v : Int) := ⟨z.toNat, by omega⟩
 rw [Int.toNat_natCast]
 have hlt : v < xn := by omega
 obtain ⟨q, B, off, b, a1, n1, c1, a2, n2, c2, hq, ha, hc, hf⟩ := hX.at hlt
 subst ha
 rw [v9q hq]
 have HP0 := hdd hp
 have HP1 := hdd hp2
 have HCE : Hi (∀ w', Below w.heap.size w w' → w'.cell? ⟨B, off + v * 3, none⟩ = some (.bool b) ∧ w'.cell? ⟨B, off + v * 3 + 1, none⟩ = some (.slice a1 n1 c1) ∧ w'.cell? ⟨B, off + v * 3 + 2, none⟩ = some (.slice a2 n2 c2)) := hdd (fun w' hb9 => hc w' (q0q hb hb9))
 have KI := hdd (fun w' (hb9 : Below w.heap.size w w') => y1h (w := w') ((hf.below (q0q hb hb9)).inF))
 have hl1 := g9q hp
 have hl2 := g9q hp2
 obtain ⟨zb, hzb⟩ := qx (zB q)
 rw [← hzb] at KI ⊢
 clear hb hp hp2 hX hc hf hq h0 hz hzb
 go_enter Tryz.func78, Tryz.ntmps78
 go_wp2_with fail
 have hz : Below w.heap.size w w.drew := q5q qb 1
 refine wp_region_held_drew (S := (fun w' => w'.cell? ⟨p, 0, none⟩ = some (.func (.func 44) #[] #[]) ∧ w'.cell? ⟨p2, 0, none⟩ = some (.slice (some ⟨B, off, none⟩) xn xc) ∧ w'.cell? ⟨B, off + v * 3, none⟩ = some (.bool b) ∧ w'.cell? ⟨B, off + v * 3 + 1, none⟩ = some (.slice a1 n1 c1) ∧ w'.cell? ⟨B, off + v * 3 + 2, none⟩ = some (.slice a2 n2 c2))) (by kernel_rfl) ?_ (fun hHeld => ?_)
 ·
  (try dsimp only); refine ⟨?_, ?_, ?_, ?_, ?_⟩ <;> (first | exact q3q (by assumption) HP0.o | exact q3q (by assumption) HP1.o | exact (HCE.o _ (by assumption)).1 | exact (HCE.o _ (by assumption)).2.1 | exact (HCE.o _ (by assumption)).2.2)
 refine jq 0 ?_
 refine jq 1 ?_
 refine jq 2 ?_
 refine jq 3 ?_
 refine jq 4 ?_
 refine wpAnyH_ready (rs := [5]) (by kernel_rfl) (by simp) (AllReadyH.cons (o := _) rfl (fun K hK => ?_) AllReadyH.nil)
 go_simp
 refine (KI.o _ hz).mono ?_
 rintro en2 w2 ⟨rfl, hb2⟩
 have hz := q0q hz hb2
 try go_wp2_with fail
 refine hK.out _ _ ?_ (fun hHeld => ?_)
 ·
  (try dsimp only); refine ⟨?_, ?_, ?_, ?_, ?_⟩ <;> (first | exact q3q (by assumption) HP0.o | exact q3q (by assumption) HP1.o | exact (HCE.o _ (by assumption)).1 | exact (HCE.o _ (by assumption)).2.1 | exact (HCE.o _ (by assumption)).2.2)
 clear hK K
 try refine lyh ?_
 refine jq 6 ?_
 refine jq 7 ?_
 refine wpAnyH_done (by kernel_rfl) ?_ _
 have HZ9 := hdd hz
 clear hz
 go_wp2_with fail
 go_ret
 exact ⟨rfl, HZ9.o⟩
theorem g5k (hb : Below w0.heap.size w0 w) (hp : w.cell? ⟨p, 0, none⟩ = some (.func (.func 72) #[] #[])) (hp2 : w.cell? ⟨p2, 0, none⟩ = some (.slice xa xn xc)) (hX : z1q N w0 (.slice xa xn xc) xs) (h0 : 0 ≤ z) (hz : z < (xn : Int)) :
  Calls Tryz.prog 78 #[.int .i64 z, .pointer (some ⟨p, 0, none⟩), .pointer (some ⟨p2, 0, none⟩)] w fun e w' => e = .returned (.bool (!(n4q (q9q xs z.toNat)))) ∧ Below w.heap.size w w' := by
 obtain ⟨v, rfl⟩ : ∃ v : Nat, z = (v : Int) := ⟨z.toNat, by omega⟩
 rw [Int.toNat_natCast]
 have hlt : v < xn := by omega
 obtain ⟨q, B, off, b, a1, n1, c1, a2, n2, c2, hq, ha, hc, hf⟩ := hX.at hlt
 subst ha
 rw [v9q hq]
 have HP0 := hdd hp
 have HP1 := hdd hp2
 have HCE : Hi (∀ w', Below w.heap.size w w' → w'.cell? ⟨B, off + v * 3, none⟩ = some (.bool b) ∧ w'.cell? ⟨B, off + v * 3 + 1, none⟩ = some (.slice a1 n1 c1) ∧ w'.cell? ⟨B, off + v * 3 + 2, none⟩ = some (.slice a2 n2 c2)) := hdd (fun w' hb9 => hc w' (q0q hb hb9))
 have KI := hdd (fun w' (hb9 : Below w.heap.size w w') => g1z (w := w') ((hf.below (q0q hb hb9)).inF))
 have hl1 := g9q hp
 have hl2 := g9q hp2
 obtain ⟨zb, hzb⟩ := qx (n4q q)
 rw [← hzb] at KI ⊢
 clear hb hp hp2 hX hc hf hq h0 hz hzb
 go_enter Tryz.func78, Tryz.ntmps78
 go_wp2_with fail
 have hz : Below w.heap.size w w.drew := q5q qb 1
 refine wp_region_held_drew (S := (fun w' => w'.cell? ⟨p, 0, none⟩ = some (.func (.func 72) #[] #[]) ∧ w'.cell? ⟨p2, 0, none⟩ = some (.slice (some ⟨B, off, none⟩) xn xc) ∧ w'.cell? ⟨B, off + v * 3, none⟩ = some (.bool b) ∧ w'.cell? ⟨B, off + v * 3 + 1, none⟩ = some (.slice a1 n1 c1) ∧ w'.cell? ⟨B, off + v * 3 + 2, none⟩ = some (.slice a2 n2 c2))) (by kernel_rfl) ?_ (fun hHeld => ?_)
 ·
  (try dsimp only); refine ⟨?_, ?_, ?_, ?_, ?_⟩ <;> (first | exact q3q (by assumption) HP0.o | exact q3q (by assumption) HP1.o | exact (HCE.o _ (by assumption)).1 | exact (HCE.o _ (by assumption)).2.1 | exact (HCE.o _ (by assumption)).2.2)
 refine jq 0 ?_
 refine jq 1 ?_
 refine jq 2 ?_
 refine jq 3 ?_
 refine jq 4 ?_
 refine wpAnyH_ready (rs := [5]) (by kernel_rfl) (by simp) (AllReadyH.cons (o := _) rfl (fun K hK => ?_) AllReadyH.nil)
 go_simp
 refine (KI.o _ hz).mono ?_
 rintro en2 w2 ⟨rfl, hb2⟩
 have hz := q0q hz hb2
 try go_wp2_with fail
 refine hK.out _ _ ?_ (fun hHeld => ?_)
 ·
  (try dsimp only); refine ⟨?_, ?_, ?_, ?_, ?_⟩ <;> (first | exact q3q (by assumption) HP0.o | exact q3q (by assumption) HP1.o | exact (HCE.o _ (by assumption)).1 | exact (HCE.o _ (by assumption)).2.1 | exact (HCE.o _ (by assumption)).2.2)
 clear hK K
 try refine lyh ?_
 refine jq 6 ?_
 refine jq 7 ?_
 refine wpAnyH_done (by kernel_rfl) ?_ _
 have HZ9 := hdd hz
 clear hz
 go_wp2_with fail
 go_ret
 exact ⟨rfl, HZ9.o⟩
theorem k1y (hl : v8q w a l) (hm : m = l.length) (hm9 : m ≤ 1000) (hX : z1q N w (.slice xa xn xc) xs) (hr : ∀ (i : Nat) (z : Int), l[i]? = some z → 0 ≤ z ∧ z < (xn : Int)) :
  Calls Tryz.prog 43 #[.slice a m c, .slice xa xn xc, .func (.func 44) #[] #[]] w fun e w' => e = .returned (.bool (!(l.any (fun z => !(zB (q9q xs z.toNat)))))) ∧ Below w.heap.size w w' := by
 obtain ⟨w1, hw1, HB1, HX1, HF1⟩ := al2 w #[.slice xa xn xc] 23 #[Value.func (.func 44) #[] #[]] 77
 have HW1 := hdd hw1.symm
 have hmf : ∀ (fn : Fn) (first cap : Array Value) (w : World), (Instr.makeFunc fn first cap).run Tryz.prog w = .ok (.func fn first cap) w := fun _ _ _ _ => rfl
 have K := hdd (v4x (w := w1) (c := c) (p := w.heap.size + 1) (p2 := w.heap.size) (pb := fun z => !(zB (q9q xs z.toNat))) (hl.below HB1.o) hm hm9 (fun i z w' hz hb9 => g5w (w0 := w) (q0q HB1.o hb9) (q3q hb9 (q1q HF1.o 0 _ rfl _ qb)) (q3q hb9 (q1q HX1.o 0 _ rfl _ qb)) hX (hr i z hz).1 (hr i z hz).2))
 obtain ⟨ab, hab⟩ := qx (l.any (fun z => !(zB (q9q xs z.toNat))))
 rw [← hab] at K ⊢
 clear hw1 hl hm hX hr hab
 go_enter Tryz.func43, Tryz.ntmps43
 go_wp2_with fail
 rw [HW1.o]
 refine K.o.mono ?_
 rintro en2 w2 ⟨rfl, hb2⟩
 go_wp2_with fail
 go_ret
 exact ⟨rfl, q0q HB1.o hb2⟩
theorem k1z (hl : v8q w a l) (hm : m = l.length) (hm9 : m ≤ 1000) (hX : z1q N w (.slice xa xn xc) xs) (hr : ∀ (i : Nat) (z : Int), l[i]? = some z → 0 ≤ z ∧ z < (xn : Int)) :
  Calls Tryz.prog 43 #[.slice a m c, .slice xa xn xc, .func (.func 72) #[] #[]] w fun e w' => e = .returned (.bool (!(l.any (fun z => !(n4q (q9q xs z.toNat)))))) ∧ Below w.heap.size w w' := by
 obtain ⟨w1, hw1, HB1, HX1, HF1⟩ := al2 w #[.slice xa xn xc] 23 #[Value.func (.func 72) #[] #[]] 77
 have HW1 := hdd hw1.symm
 have hmf : ∀ (fn : Fn) (first cap : Array Value) (w : World), (Instr.makeFunc fn first cap).run Tryz.prog w = .ok (.func fn first cap) w := fun _ _ _ _ => rfl
 have K := hdd (v4x (w := w1) (c := c) (p := w.heap.size + 1) (p2 := w.heap.size) (pb := fun z => !(n4q (q9q xs z.toNat))) (hl.below HB1.o) hm hm9 (fun i z w' hz hb9 => g5k (w0 := w) (q0q HB1.o hb9) (q3q hb9 (q1q HF1.o 0 _ rfl _ qb)) (q3q hb9 (q1q HX1.o 0 _ rfl _ qb)) hX (hr i z hz).1 (hr i z hz).2))
 obtain ⟨ab, hab⟩ := qx (l.any (fun z => !(n4q (q9q xs z.toNat))))
 rw [← hab] at K ⊢
 clear hw1 hl hm hX hr hab
 go_enter Tryz.func43, Tryz.ntmps43
 go_wp2_with fail
 rw [HW1.o]
 refine K.o.mono ?_
 rintro en2 w2 ⟨rfl, hb2⟩
 go_wp2_with fail
 go_ret
 exact ⟨rfl, q0q HB1.o hb2⟩
theorem z1j {α : Type} {p : α → Bool} {l : List α} : (!(l.any (fun z => !(p z)))) = l.all p := by
 induction l with
 | nil => rfl
 | cons x l ih =>
  rw [List.any_cons, List.all_cons, ← ih, Bool.not_or, Bool.not_not]
theorem v2y (h : y9q N w v P) (hx : z1q N w x xs) (hfit : Fit P) (hN : N ≤ 50) (hx100 : xs.length ≤ 100) (hNn : N * xs.length ≤ 1000) (hl : v8q w a l) (hm : m = l.length) (hm9 : m ≤ 1000) (hok : okV P.vars l = true) :
  Calls Tryz.prog 39 #[v, .slice a m c, x] w fun e w' => e = .returned (.bool (v5q P xs && l.all (fun z => n4q (q9q xs z.toNat)))) ∧ Below w.heap.size w w' := by
 have KF := hdd (fun w' (hb : Below w.heap.size w w') => j1v (h.below hb) (hx.below hb) hfit hN hx100 hNn)
 obtain ⟨xa, xc, rfl, -⟩ := id hx
 have HFL : Hi (v5q P xs = true → (xs.length : Int) = P.vars) := hdd (fun hf => by
  unfold v5q at hf
  simp only [Bool.and_eq_true, decide_eq_true_eq] at hf
  exact hf.1.1.2)
 have KA : Hi (v5q P xs = true → ∀ w', Below w.heap.size w w' → Calls Tryz.prog 43 #[.slice a m c, .slice xa xs.length xc, .func (.func 72) #[] #[]] w' fun e w'' => e = .returned (.bool (l.all (fun z => n4q (q9q xs z.toNat)))) ∧ Below w'.heap.size w' w'') := hdd (fun hf w' hb => by
  rw [← z1j]
  exact k1z (hl.below hb) hm hm9 (hx.below hb) (fun i z hz => by
   have h1 := l6q hok hz
   have h2 := HFL.o hf
   omega))
 obtain ⟨fa, fc, ga, gc, ra, rc, rfl, -, -, -, -, -⟩ := h
 obtain ⟨z, hz⟩ := qx (P.vars)
 obtain ⟨fn, hfn⟩ := qx (P.free.length)
 obtain ⟨gn, hgn⟩ := qx (P.goal.length)
 obtain ⟨rn, hrn⟩ := qx (P.rows.length)
 obtain ⟨xn, hxn⟩ := qx (xs.length)
 simp only [← hz, ← hfn, ← hgn, ← hrn, ← hxn] at KF KA ⊢
 clear hz hfn hgn hrn hxn hx hfit hN hx100 hNn hl hm hok HFL
 obtain ⟨w1, hw1, HB1, HX1⟩ := al1 w #[.int .i64 z, .slice fa fn fc, .slice ga gn gc, .slice ra rn rc] 26
 have HW1 := hdd hw1.symm
 clear hw1
 have RX := hdd (q1q HX1.o)
 obtain ⟨x0, x1, x2, x3⟩ := qz RX.o qb
 obtain ⟨fb, hfb⟩ := qx (v5q P xs)
 obtain ⟨ab, hab⟩ := qx (l.all (fun z => n4q (q9q xs z.toNat)))
 rw [← hfb] at KF KA ⊢
 rw [← hab] at KA ⊢
 clear hfb hab
 go_enter Tryz.func39, Tryz.ntmps39
 go_wp2_with fail
 rw [HW1.o]
 refine (KF.o _ HB1.o).mono ?_
 rintro en2 w2 ⟨rfl, hb2⟩
 have HZ2 := hdd hb2
 clear hb2 x0 x1 x2 x3
 cases fb with
 | false =>
  go_wp2_with fail
  go_ret
  exact ⟨rfl, q0q HB1.o HZ2.o⟩
 | true =>
  go_wp2_with fail
  refine (KA.o (by first | rfl | trivial) _ (q0q HB1.o HZ2.o)).mono ?_
  rintro en3 w3 ⟨rfl, hb3⟩
  have HZ3 := hdd (q0q HZ2.o hb3)
  clear hb3
  go_wp2_with fail
  go_ret
  exact ⟨by first | rfl | simp, q0q HB1.o HZ3.o⟩
theorem g1j {v : Int} (h : v8q w a l) (hm : m = l.length) (hm9 : m ≤ 1000) :
  Calls Tryz.prog 136 #[.slice a m c, .int .i64 v] w fun e w' => (∃ z, e = .returned (.int .i64 z) ∧ decide (0 ≤ z) = l.contains v) ∧ Below w.heap.size w w' := by
 have HI := hdd h
 have HM := hdd hm
 obtain ⟨okb, hokb⟩ := qx (l.contains v)
 have HOK := hdd hokb
 rw [← hokb]
 clear h hm hokb
 go_enter Tryz.func136, Tryz.ntmps136
 go_wp2_with fail
 go_loopw [8] (fun iv wr => ∃ i : Nat, i ≤ m ∧ iv = .int .i64 i ∧ Hi (Below w.heap.size w wr) ∧ Hi (∀ (j : Nat) (z : Int), j < i → l[j]? = some z → z ≠ v)) (fun iv _ => m - (intOf iv).toNat)
 case atStart => exact ⟨0, Nat.zero_le _, rfl, hdd qb, hdd (fun j z hj => absurd hj (Nat.not_lt_zero _))⟩
 case round =>
  obtain ⟨i, hi, rfl, hZ, hno⟩ := hrel
  obtain ⟨wo, rfl⟩ : ∃ wo : World, wo = wr := ⟨_, rfl⟩
  by_cases hin : i < m
  ·
   have t0 : decide ((i : Int) < (m : Int)) = true := by simp; omega
   obtain ⟨z, B, off, hz, ha, hzb, hc⟩ := HI.o.at (i := i) (by have := HM.o; omega)
   subst ha
   have e1 := hc wo hZ.o
   have HLZ := hdd hz
   clear hc hz
   by_cases hzv : z = v
   ·
    subst hzv
    have u1 : (z == z) = true := by simp
    have HE : Hi (true = okb) := hdd (by
     rw [HOK.o]
     exact (List.contains_iff_mem.2 (List.mem_of_getElem? HLZ.o)).symm)
    go_wp2_with fail
    go_ret
    exact ⟨⟨_, rfl, by rw [← HE.o]; simp⟩, hZ.o⟩
   ·
    have t1 : (z == v) = false := by simpa using hzv
    have t2 : decide (z = v) = false := by simpa using hzv
    have t3 : (v == z) = false := by simpa using fun e : v = z => hzv e.symm
    have t4 : decide (v = z) = false := by simpa using fun e : v = z => hzv e.symm
    have HN9 : Hi (∀ (j : Nat) (z : Int), j < i + 1 → l[j]? = some z → z ≠ v) := hdd (fun j y hj hy => by
     by_cases hji : j = i
     ·
      subst hji
      rw [HLZ.o] at hy
      cases hy
      exact hzv
     ·
      exact hno.o j y (by omega) hy)
    go_wp2_with fail
    go_roundw
    case rel => exact ⟨i + 1, by omega, by go_num, hZ, HN9⟩
    case measure => simp [intOf]; omega
  ·
   have t0 : decide ((i : Int) < (m : Int)) = false := by simp; omega
   have HE : Hi (false = okb) := hdd (by
    rw [HOK.o]
    cases hc : l.contains v with
    | false => rfl
    | true =>
     exfalso
     obtain ⟨j, hj⟩ := List.getElem?_of_mem (List.contains_iff_mem.1 hc)
     exact hno.o j v (by have := (List.getElem?_eq_some_iff.1 hj).1; have := HM.o; omega) hj rfl)
   go_wp2_with fail
   go_ret
   exact ⟨⟨_, rfl, by rw [← HE.o]; simp⟩, hZ.o⟩
theorem z4z {v : Int} (h : v8q w a l) (hm : m = l.length) (hm9 : m ≤ 1000) :
  Calls Tryz.prog 105 #[.slice a m c, .int .i64 v] w fun e w' => e = .returned (.bool (l.contains v)) ∧ Below w.heap.size w w' := by
 have KF := hdd (g1j (c := c) (v := v) h hm hm9)
 obtain ⟨okb, hokb⟩ := qx (l.contains v)
 rw [← hokb] at KF ⊢
 clear h hm hokb
 go_enter Tryz.func105, Tryz.ntmps105
 go_wp2_with fail
 refine KF.o.mono ?_
 rintro en2 w2 ⟨⟨z, rfl, hz⟩, hb2⟩
 have t0 : decide (z ≥ 0) = okb := hz
 clear hz
 cases okb with
 | true =>
  go_wp2_with fail
  go_ret
  exact ⟨rfl, hb2⟩
 | false =>
  go_wp2_with fail
  go_ret
  exact ⟨rfl, hb2⟩
theorem y9q.parts {M : Nat} {ga ra : Option Addr} {gn gc rn rc : Nat} (h : y9q M w (.agg #[.int .i64 z, .slice fa fn fc, .slice ga gn gc, .slice ra rn rc]) P) : z = P.vars ∧ fn = P.free.length ∧ gn = P.goal.length ∧ rn = P.rows.length ∧ f3q w fa P.free ∧ z1q M w (.slice ga gn gc) P.goal ∧ d6q M w ra P.rows := by
 obtain ⟨fa', fc', ga', gc', ra', rc', hv, -, -, hB, hG, hR⟩ := h
 simp only [Value.agg.injEq, Array.mk.injEq, List.cons.injEq, Value.int.injEq, Value.slice.injEq, and_true, true_and] at hv
 obtain ⟨rfl, ⟨rfl, rfl, rfl⟩, ⟨rfl, rfl, rfl⟩, ⟨rfl, rfl, rfl⟩⟩ := hv
 exact ⟨rfl, rfl, rfl, rfl, hB, hG, hR⟩
def LIo (w : World) (base : Nat) (v : Value) (zs : List Int) : Prop := w.ownsRow base 3 1 v zs.length (zs.map (Value.int .i64)) ∧ Clean w v
theorem LIo.nil (w : World) (base : Nat) : LIo w base (.slice none 0 0) [] := ⟨World.ownsRow_nil w base _ 1, fun _ _ _ _ h => by simp [Value.ownBlock] at h⟩
theorem LIo.lt (h : LIo w base v zs) : ∀ g, v.ownBlock = some g → base ≤ g ∧ g < w.heap.size := fun g hg => World.ownsRow.lt h.1 g hg
theorem LIo.form (h : LIo w base v zs) : ∃ a c, v = .slice a zs.length c := by
 rcases h.1.2 with ⟨rfl, h0⟩ | ⟨g, cap, cur, rfl, -⟩
 ·
  exact ⟨none, 0, by rw [h0]⟩
 ·
  exact ⟨_, _, rfl⟩
theorem LIo.keep {row : Option Nat} (h : LIo w base v zs) (hg : w.grownBy w' row) (hne : ∀ g, v.ownBlock = some g → row ≠ some g) : LIo w' base v zs := by
 refine ⟨World.ownsRow.kept (row := row) h.1 hg (by
  cases hv : v.ownBlock with
  | none => simp
  | some g => exact Or.inr (fun e => hne g hv e.symm)), fun g cs e fr hv hh => h.2 g cs e fr hv (by rw [← hg.block g (h.lt g hv).2 (fun e => hne g hv e.symm)]; exact hh)⟩
theorem LIo.below (h : LIo w base v zs) (hb : Below w.heap.size w w') : LIo w' base v zs :=
 h.keep (row := none) ⟨hb.os, hb.tape, hb.output, hb.size, fun k hk _ => hb.block k hk⟩ (fun _ _ e => by cases e)
theorem LIo.other {B : Nat} (h : LIo w base v zs) (ho : z9q B w w') (hlow : B < base) : LIo w' base v zs :=
 h.keep (c3q ho) (fun g hg e => by have := (h.lt g hg).1; cases e; omega)
theorem LIo.ints (h : LIo w base (.slice a n c) zs) (hr : ∀ z ∈ zs, -9223372036854775808 ≤ z ∧ z ≤ 9223372036854775807) : v8q w a zs := fun i z hi => by
 have hlt : i < zs.length := (List.getElem?_eq_some_iff.1 hi).1
 have hcells := fun g hg => World.ownsRow.cells h.1 (g := g) hg
 rcases h.1.2 with ⟨h0, h1⟩ | ⟨g, cap, cur, hv, -⟩
 ·
  omega
 ·
  simp only [Value.slice.injEq] at hv
  obtain ⟨rfl, -, -⟩ := hv
  have k0 := hcells g rfl i (.int .i64 z) (by rw [List.getElem?_map, hi]; rfl)
  rw [Addr.add_lit] at k0
  exact ⟨g, 0, rfl, k0, hr z (List.mem_of_getElem? hi)⟩
theorem LIo.pop (h : LIo w base (.slice a (n + 1) c) (zs ++ [z])) : LIo w base (.slice a n c) zs ∧ n = zs.length := by
 obtain ⟨⟨hl, ho⟩, hc⟩ := h
 rcases ho with ⟨h0, -⟩ | ⟨g, cap, cur, hv, hbg, hh, hnc, hcm, hcs, htake⟩
 ·
  simp only [Value.slice.injEq] at h0
  omega
 ·
  simp only [Value.slice.injEq] at hv
  obtain ⟨rfl, hn, rfl⟩ := hv
  rw [List.length_append, List.length_singleton] at hn hnc htake
  have hn9 : n = zs.length := by omega
  refine ⟨⟨⟨by simp, .inr ⟨g, c, cur, by rw [hn9], hbg, hh, by omega, hcm, hcs, ?_⟩⟩, fun g' cs e fr hv hh' => hc g' cs e fr hv hh'⟩, hn9⟩
  have h1 : cur.toList.take (zs.length * 1) = (cur.toList.take ((zs.length + 1) * 1)).take (zs.length * 1) := by rw [List.take_take, Nat.min_eq_left (by omega)]
  rw [h1, htake, List.map_append, List.take_append_of_le_length (by simp), List.take_of_length_le (by simp)]
theorem y0k : (Tryz.prog.info? 3).map (fun i => (i.zero, i.size, i.bytes)) = some (some (Value.int .i64 0), 1, 8) := by kernel_rfl
theorem m6q {o : Oper} {a : Act} {C : Act → World → Prop} {Q : Exit → Act → World → Prop} (s x : Operand)
  (ho : o.op = .call { callee := .builtin .append, args := #[s, x], argTypes := #[27, 27] }) (base : Nat) (v : Value) (zs : List Int) (hs : a.eval s = v) (hown : LIo w base v zs)
  (g cc : Nat) (b : Int) (hx : a.eval x = .slice (some ⟨g, 0, none⟩) 1 cc) (hrow : w.heap[g]? = some (.cells #[.int .i64 b] 3 (0, 0))) (hlen : zs.length ≤ 1000000) (hbase : base ≤ w.heap.size)
  (h : ∀ v' w', LIo w' base v' (zs ++ [b]) → w.grownBy w' v.ownBlock → (∀ W, Below base W w → Below base W w') → (v'.ownBlock = v.ownBlock ∨ v'.ownBlock = some w.heap.size) → C (a.put o.dst v') w') :
  Oper.wp Tryz.prog o a w C Q := by
 obtain ⟨i0, hi0, hz0, hz1, hz2⟩ := info_parts y0k
 have hlt := hown.lt
 obtain ⟨hxs, hcl⟩ := hown
 obtain ⟨v', w', hr, h2, h3, h4, h5, -, -⟩ := f1q (P := Tryz.prog) (w := w) base 27 o.type 3 i0 (.int .i64 0) 1 8 Tryz.underlying27 hi0 hz0 hz1 hz2 rfl (by decide) v zs.length (zs.map (Value.int .i64)) hxs ⟨g, 0, none⟩ 1 cc
  [Value.int .i64 b] rfl (by
   intro j u hu
   rw [Addr.add_lit, cell_of_row _ _ _ _ _ _ hrow]
   simpa using hu) (by intro u hu; simp at hu; rcases hu with rfl; rfl) (by unfold maxLen; omega) (by omega) hbase (by decide)
  (by intro u hu k; simp [Value.cells] at hu; rcases hu with rfl; intro e; cases e) (by intro u hu k; simp at hu; rcases hu with rfl; intro e; cases e) hcl
 unfold Oper.wp execOp
 simp only [ho, resolve, invoke, builtin, Sem.run_bind, Sem.run_pure, Result.andThen_ok, List.map_toArray, List.map_cons, List.map_nil, hs, hx, hr]
 refine h v' w' ⟨by rw [List.length_append, List.map_append]; exact h2, h5⟩ h3 ?_ h4
 intro W hW
 exact hW.grown h3 hbase (fun k hk => (hlt k hk).1)
end Go.Proofs.YtkkbmlkpgknhgaaGreat
