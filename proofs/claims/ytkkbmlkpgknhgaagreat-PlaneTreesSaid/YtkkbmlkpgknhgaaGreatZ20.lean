import Derived.Test.YtkkbmlkpgknhgaaGreatZ19
import Derived.Deep.RegionHeld3
import Derived.Deep.DrawnRows
import Derived.Test.YtkkbmlkpgknhgaaGreatZ17
set_option maxRecDepth 100000
set_option maxHeartbeats 16000000
namespace Go.Proofs.YtkkbmlkpgknhgaaGreat
open Go.RowKit
attribute [local go_sem ↓] Go.wp_at_zero Go.wp_at_succ
variable {K : t1q} {M N bc cn fc fn fuel gc gn m rc rn vc xc xn yc yn zc zn : Nat} {P : Pm} {W w w' : World} {ba ca fa ga ra va xa ya za : Option Addr} {bs l : List Int} {k : Int} {v : Value}
def b6q (P : Pm) (l : List Int) : Pm := { P with rows := P.rows ++ m5q P.vars.toNat l l.length }
def u7q (P : Pm) (l vs bs : List Int) : Pm := j6x (b6q P l) vs bs
theorem z9k {i : Nat} {r : List Rat × Int × Rat} (hr : (b6q P l).rows[i]? = some r) : P.rows[i]? = some r ∨ ∃ k, r = a0q P.vars.toNat l k := by
 have h9 : (P.rows ++ m5q P.vars.toNat l l.length)[i]? = some r := hr
 by_cases hi : i < P.rows.length
 ·
  rw [List.getElem?_append_left hi] at h9
  exact .inl h9
 ·
  rw [List.getElem?_append_right (by omega)] at h9
  obtain ⟨k, -, hk⟩ := List.mem_map.1 (List.mem_of_getElem? h9)
  exact .inr ⟨k, hk.symm⟩
theorem q8x (h : j7q P = true) : j7q (b6q P l) = true := by
 have hg := j2q h
 have h1 := h
 unfold j7q at h1 ⊢
 simp only [Bool.and_eq_true] at h1 ⊢
 refine ⟨h1.1, j2w fun i r _ hr => ?_⟩
 rcases z9k hr with h9 | ⟨k, rfl⟩
 ·
  exact List.all_eq_true.1 h1.2 r (List.mem_of_getElem? h9)
 ·
  simp only [b2q, decide_eq_true_eq]
  show ((x5q P.vars.toNat ((l[k]?).getD 0).toNat).length : Int) = P.vars ∧ (-1 : Int) ≤ -1 ∧ (-1 : Int) ≤ 1
  rw [f9q]
  omega
theorem x0x (hM : 2 ≤ M) (h : c9q M P) : c9q M (b6q P l) := by
 refine ⟨h.1, fun i r hr => ?_⟩
 rcases z9k hr with h9 | ⟨k, rfl⟩
 ·
  exact h.2 i r h9
 ·
  exact ⟨j8k hM, Nat.le_trans o7q hM⟩
theorem r3q.otherF {base B : Nat} {z : Int} (h : r3q (rkF M) w base v P) (hB : w.heap[B]? = some (.cells #[.int .i64 z, .slice fa fn fc, .slice ga gn gc, .slice ra rn rc] 26 (0, 0))) (ho : z9q B w w') (hlow : B < base) : r3q (rkF M) w' base v P := by
 obtain ⟨fa', fc', ga', gc', ra', rc', mid, hv, hF, hG, hR, h1, h2, h3, h4⟩ := h
 exact ⟨fa', fc', ga', gc', ra', rc', mid, hv, hF.other hB k3q ho, (rkF M).otherL hG hB u1q ho (fun g hg e => by obtain ⟨cs, h9⟩ := z8v hG g hg; rw [e, hB] at h9; simp at h9), hR.other hB u1q ho (by omega), h1, h2, h3, by rw [ho.size]; exact h4⟩
theorem g2h {m2 vc2 : Nat} {va2 : Option Addr} {vs : List Int} (h : y9q N w v P) (hrb : j7q P = true) (hs : c9q M P) (hN : N ≤ 1000) (hM2 : 2 ≤ M) (hM : M ≤ 1000) (hv1 : P.vars ≤ 160) (hr1 : P.rows.length + l.length ≤ 200) (hl : v8q w va l) (hm : m = l.length) (hok : okV P.vars l = true) (hvs : v8q w va2 vs) (hbs : v8q w ba bs) (hm2 : m2 = vs.length) (hlb : vs.length = bs.length) (hm9 : m2 ≤ 160) (hvc : m2 ≤ vc2) (hok2 : okV P.vars vs = true) (hbit : bs.any j6j = false) :
  Calls Tryz.prog 82 #[v, .slice va m vc, .slice va2 m2 vc2, .slice ba m2 bc] w fun e w' => (∃ r base, e = .returned (.tuple #[r, .bool true]) ∧ r3q (rkF M) w' base r (u7q P l vs bs)) ∧ Below w.heap.size w w' := by
 have HRB := hdd hrb
 have HP := hdd h
 have KFX := hdd (fun w' (hb : Below w.heap.size w w') => y7w (h.below hb) hrb hs hN (by omega) hv1 (by omega))
 have HS := hdd hs
 have HN : Hi (N ≤ 1000) := hdd hN
 have HMM : Hi (2 ≤ M ∧ M ≤ 1000) := hdd ⟨hM2, hM⟩
 have HI := hdd hl
 have HIV := hdd hvs
 have HIB := hdd hbs
 have HM : Hi (m = l.length) := hdd hm
 have HMV : Hi (m2 = vs.length ∧ vs.length = bs.length ∧ m2 ≤ 160 ∧ m2 ≤ vc2) := hdd ⟨hm2, hlb, hm9, hvc⟩
 have HOKV : Hi (∀ (i : Nat) (v : Int), l[i]? = some v → 0 ≤ v ∧ v < P.vars) := hdd (fun i v hv => l6q hok hv)
 have HOK2 := hdd hok2
 have HBIT := hdd hbit
 have HRL2 : Hi (P.rows.length + l.length ≤ 200) := hdd hr1
 obtain ⟨fa, fc, ga, gc, ra, rc, rfl, -, -, hB, hG, hR⟩ := h
 have HBO := hdd hB
 have HR := hdd hR
 obtain ⟨z, hz⟩ := qx (P.vars)
 obtain ⟨fn, hfn⟩ := qx (P.free.length)
 obtain ⟨gn, hgn⟩ := qx (P.goal.length)
 obtain ⟨rn, hrn⟩ := qx (P.rows.length)
 rw [← hz] at HP ⊢
 rw [← hfn] at HP ⊢
 rw [← hgn] at HP hG ⊢
 rw [← hrn] at HP ⊢
 simp only [← hz, ← hfn, ← hgn, ← hrn] at KFX
 have HG := hdd hG
 have HEQ := hdd (And.intro hz (And.intro hfn (And.intro hgn hrn)))
 have HZF : Hi (z = (gn : Int) ∧ fn = gn ∧ 0 < gn ∧ gn ≤ 160 ∧ rn ≤ 200) := hdd (by have := j2q hrb; omega)
 obtain ⟨hzg, hfg, hg0, hg160, hr200⟩ := HZF.o
 clear hs hM2 hM hl hvs hbs hm hm2 hlb hm9 hvc hok hok2 hbit hN hB hR hG hz hfn hgn hrn hrb hv1 hr1
 subst hfg
 subst hzg
 obtain ⟨w1, hw1, HB1, HX1, HO1⟩ := al2 w #[.int .i64 (fn : Int), .slice fa fn fc, .slice ga fn gc, .slice ra rn rc] 26 #[.int .i64 0, .slice none 0 0, .slice none 0 0, .slice none 0 0] 26
 have HW1 := hdd hw1.symm
 clear hw1
 have RX := hdd (q1q HX1.o)
 have hb1 := Below.refl w1.heap.size w1
 obtain ⟨x0, x1, x2, x3⟩ := qz RX.o hb1
 have HOKI : Hi (∀ (i : Nat) (v : Int), l[i]? = some v → 0 ≤ v ∧ v < (fn : Int)) := hdd (fun i v hv => by rw [HEQ.o.1]; exact HOKV.o i v hv)
 have hm200 : m ≤ 200 := by have := HM.o; have := HRL2.o; omega
 have HZ0 : Hi (Below w1.heap.size w1 w1) := hdd qb
 go_enter Tryz.func82, Tryz.ntmps82
 go_wp2_with fail
 rw [HW1.o]
 refine (KFX.o _ (q0q HB1.o HZ0.o)).mono ?_
 rintro en3 w3 ⟨⟨r3, rfl, hn3⟩, hb3⟩
 obtain ⟨fa', fc', ga', gc', oa, oc, mid, hq3, hBF, hGL, hRO, hm1, hm2, hm3, hm4⟩ := hn3
 rw [← HEQ.o.1, ← HEQ.o.2.1, ← HEQ.o.2.2.1, ← HEQ.o.2.2.2] at hq3
 subst hq3
 rw [← HEQ.o.2.2.1] at hGL hm3
 rw [← HEQ.o.2.2.2] at hRO
 have HRN : Hi (P.rows.length = rn) := hdd HEQ.o.2.2.2.symm
 have HZ3 := hdd (q0q HZ0.o hb3)
 have HBF := hdd hBF
 have HGL := hdd hGL
 have HRO := hdd hRO
 have HM1 : Hi (w1.heap.size ≤ mid) := hdd (Nat.le_trans HZ0.o.size hm1)
 have HM2 := hdd hm2
 have HM3 := hdd hm3
 have HM4 := hdd hm4
 clear hBF hGL hRO hm1 hm2 hm3 hm4 hb3 x0 x1 x2 x3 KFX
 go_wp2_with ((with_reducible refine j9q ?_); refine q6q rfl _ _ _ rfl w3.heap.size rfl _ rfl _ _ (heap_alloc_new _ _) g8q rfl b9q ?_; intro w4 h4 hon4; refine y0q ?_)
 have hb4 : Below w3.heap.size w3 w4 := q4q ((qb).alloc qm _) hon4 qm
 obtain ⟨XB, hXB⟩ := qx (w3.heap.size)
 have HXB : Hi (mid ≤ XB) := hdd (by rw [hXB]; exact HM4.o)
 have HXW : Hi (w1.heap.size ≤ XB) := hdd (by rw [hXB]; exact HZ3.o.size)
 have HK4 : Hi (∀ k, (Value.slice oa (rn + 0) oc).ownBlock = some k → k ≠ XB) := hdd (fun k hk e => by have := (HRO.o.lt k hk).2; omega)
 rw [← hXB] at h4 ⊢
 have HG4 : Hi (w4.heap[XB]? = some (.cells #[.int .i64 (fn : Int), .slice fa' fn fc', .slice ga' fn gc', .slice oa (rn + 0) oc] 26 (0, 0))) := hdd h4
 have HL4 : Hi (LRo (rkF M) w4 mid (.slice oa (rn + 0) oc) (P.rows ++ m5q fn l 0)) := hdd (by
  rw [show m5q fn l 0 = [] from rfl, List.append_nil]
  exact HRO.o.below hb4)
 have HF4 := hdd (HBF.o.below hb4)
 have HGL4 := hdd ((rkF M).belowL HGL.o hb4)
 have HZ4 := hdd (q0q HZ3.o hb4)
 have HXL : Hi (XB < w4.heap.size) := hdd (lt_of_block h4)
 clear h4 hon4 hb4 hXB
 refine z2q ?_
 go_wp2_with fail
 go_loopw [18] (fun iv wr => ∃ (j : Nat) (oa : Option Addr) (oc : Nat), j ≤ m ∧ iv = .int .i64 j ∧ Hi (wr.heap[XB]? = some (.cells #[.int .i64 (fn : Int), .slice fa' fn fc', .slice ga' fn gc', .slice oa (rn + j) oc] 26 (0, 0))) ∧ Hi (LRo (rkF M) wr mid (.slice oa (rn + j) oc) (P.rows ++ m5q fn l j)) ∧ Hi (f3q wr fa' P.free) ∧ Hi ((rkF M).L wr (.slice ga' fn gc') P.goal) ∧ Hi (Below w1.heap.size w1 wr) ∧ Hi (w4.heap.size ≤ wr.heap.size) ∧ Hi (∀ k, (Value.slice oa (rn + j) oc).ownBlock = some k → k ≠ XB)) (fun iv _ => m - (intOf iv).toNat)
 case atStart => exact ⟨0, _, _, Nat.zero_le _, rfl, HG4, HL4, HF4, HGL4, HZ4, hdd qm, HK4⟩
 case round =>
  obtain ⟨j, oa, oc, hj, rfl, hG, hO, hF, hGL2, hZ2, hsz, hob⟩ := hrel
  obtain ⟨wo, rfl⟩ : ∃ wo : World, wo = wr := ⟨_, rfl⟩
  by_cases hjn : j < m
  ·
   have t0 : decide ((j : Int) < (m : Int)) = true := by simp; omega
   obtain ⟨z, Bv, offv, hz, ha, hzb, hcv⟩ := HI.o.at (i := j) (by have := HM.o; omega)
   obtain ⟨v, rfl⟩ : ∃ v : Nat, z = (v : Int) := ⟨z.toNat, by have := (HOKI.o j z hz).1; omega⟩
   have hvn : v < fn := by have := (HOKI.o j _ hz).2; omega
   subst ha
   have e1 := hcv wo (q0q HB1.o hZ2.o)
   have HBR : Hi ((a0q fn l j).1 = x5q fn v ∧ (a0q fn l j).2.2 = 1) := hdd (by
    unfold a0q
    rw [hz]
    exact ⟨rfl, rfl⟩)
   have KA := hdd (fun w' => x2v (M := M) (v := v) (w := w') (s := -1) (show fn ≤ 1000 by omega) a9q (by decide) (by decide) HMM.o.1 (by have := HMM.o; omega) (Nat.le_trans o7q HMM.o.1))
   have RY := hdd (q1q hG.o)
   have RXW := hdd (fun w' (hb : Below wo.heap.size wo w') => RX.o 0 _ rfl w' (q0q hZ2.o hb))
   have hz : Below wo.heap.size wo wo.drew := q5q qb 1
   clear hcv
   go_wp2_with fail
   refine h2q 9 (fun w' => w'.cell? ⟨w.heap.size, 0, none⟩ = some (.int .i64 (fn : Nat)) ∧ w'.cell? ⟨XB, 3, none⟩ = some (.slice oa (rn + j) oc)) (by kernel_rfl) (by (try dsimp only); refine ⟨?_, ?_⟩ <;> (first | exact RY.o 3 _ rfl _ (by assumption) | exact RXW.o _ (by assumption))) (fun hHeld => ?_)
   refine tt 0 ?_
   refine tt 1 ?_
   refine tt 2 ?_
   refine tt 3 ?_
   refine tt 4 ?_
   refine y6q (rs := [5]) (by kernel_rfl) (by simp) (z0q.cons (o := _) rfl (fun K hK => ?_) z0q.nil)
   go_simp
   refine (KA.o _).mono ?_
   rintro en7 w7 ⟨⟨base7, ar7, rc7, bb7, a7, n7, c7, i7, j7, k7, rfl, hl7, hf7, hn7⟩, hb7⟩
   have hn7 : ∀ k, (Value.slice ar7 fn rc7).ownBlock = some k → wo.heap.size ≤ k := fun k hk => Nat.le_trans hz.size (Nat.le_trans hn7 (hl7.lt k hk).1)
   have hlk7 : ∀ k, (Value.slice ar7 fn rc7).ownBlock = some k → k < w7.heap.size := fun k hk => (hl7.lt k hk).2
   have hz := q0q hz hb7
   try go_wp2_with fail
   refine hK.out _ _ (fun _ => ?_) (fun hHeld => ?_)
   ·
    (try dsimp only); refine ⟨?_, ?_⟩ <;> (first | exact RY.o 3 _ rfl _ (by assumption) | exact RXW.o _ (by assumption))
   replace hHeld := hHeld (by decide)
   clear hK K
   try refine lyt ?_
   refine y6q (rs := [6]) (by kernel_rfl) (by simp) (z0q.cons (o := _) rfl (fun K hK => ?_) z0q.nil)
   go_simp
   obtain ⟨w8, hw8⟩ : ∃ w', w' = w7.alloc (Obj.cells #[.slice ar7 fn rc7, .int .i64 (-1), .bool bb7, .slice a7 n7 c7, .slice i7 j7 k7] 45) := ⟨_, rfl⟩
   have hb8 : Below w7.heap.size w7 w8 := by rw [hw8]; exact (qb).alloc qm _
   have hr8 : w8.heap[w7.heap.size]? = some (.cells #[.slice ar7 fn rc7, .int .i64 (-1), .bool bb7, .slice a7 n7 c7, .slice i7 j7 k7] 45 (0, 0)) := by rw [hw8]; exact heap_alloc_new w7 _
   rw [← hw8]
   clear hw8
   have hz := q0q hz hb8
   have hl8 := hl7.below hb8
   have hf8 := hf7.below hb8
   refine hK.out _ _ (fun _ => ?_) (fun hHeld => ?_)
   ·
    (try dsimp only); refine ⟨?_, ?_⟩ <;> (first | exact RY.o 3 _ rfl _ (by assumption) | exact RXW.o _ (by assumption))
   replace hHeld := hHeld (by decide)
   clear hK K
   try refine lyt ?_
   refine y6q (rs := [7]) (by kernel_rfl) (by simp) (z0q.cons (o := _) rfl (fun K hK => ?_) z0q.nil)
   rw [if_pos (by kernel_rfl)]
   have HO8 := hO.o.below hz
   have hlt8 := hO.o.lt
   have hmo : mid ≤ wo.heap.size := Nat.le_trans HXB.o (Nat.le_trans (Nat.le_of_lt HXL.o) hsz.o)
   refine l7q (K := (rkF M)) _ _ rfl mid (Value.slice oa (rn + j) oc) (P.rows ++ m5q fn l j) rfl HO8 w7.heap.size 1 ar7 fn rc7 bb7 a7 i7 n7 c7 j7 k7 (a0q fn l j) rfl hr8 (by rw [show (a0q fn l j).1 = x5q fn v from HBR.o.1]; exact ⟨_, hl8⟩) (by rw [show (a0q fn l j).2.2 = 1 from HBR.o.2]; exact hf8) (fun k hk => ⟨fun e => by have h1 := hn7 k hk; have h2 := (hlt8 k e).2; omega, Nat.lt_of_lt_of_le (hlk7 k hk) hb8.size, by have h1 := hn7 k hk; omega⟩) (by rw [List.length_append, n5q]; have := HRN.o; omega) (Nat.le_trans hmo hz.size) ?_
   intro v9 w9 hown9 hg9 hbel9 hat9
   rw [List.append_assoc, z9x] at hown9
   have hB9 : Below mid wo w9 := hbel9 wo (hz.mono hmo)
   have HX9 := (hg9.block _ (Nat.lt_of_lt_of_le (lt_of_block hG.o) hz.size) (fun e => hob.o _ e.symm rfl)).trans ((hz.block _ (lt_of_block hG.o)).trans hG.o)
   have HZ9 : Below w1.heap.size w1 w9 := hZ2.o.trans (hB9.mono HM1.o)
   have HF9 := hF.o.belowN HM2.o hB9
   have HL9 := (rkF M).keepL ((rkF M).belowL hGL2.o hz) HO8.clean hg9 (fun g hg e => by have h1 := HM3.o g hg; have h2 := (hlt8 g e).1; omega)
   have HS9 := Nat.le_trans hsz.o (Nat.le_trans hz.size hg9.size)
   obtain ⟨na, nc, hv9⟩ := hown9.form
   rw [List.length_append, n5q, HRN.o, ← Nat.add_assoc] at hv9
   subst hv9
   have HOB9 : ∀ k, (Value.slice na (rn + j + 1) nc).ownBlock = some k → k ≠ XB := fun k hk => by
    rcases hat9 with e4 | e4
    ·
     rw [e4] at hk; exact hob.o k hk
    ·
     rw [e4] at hk
     have h1 := Option.some.inj hk
     have h2 := Nat.le_trans hsz.o hz.size
     have h3 := HXL.o
     omega
   refine hK.out _ _ (fun _ => ?_) (fun hHeld => ?_)
   ·
    (try dsimp only); refine ⟨?_, ?_⟩ <;> (first | exact q1q HX9 3 _ rfl _ qb | exact RX.o 0 _ rfl _ HZ9)
   replace hHeld := hHeld (by decide)
   clear hK K
   try refine lyt ?_
   refine tt 8 ?_
   refine y6q (rs := [9]) (by kernel_rfl) (by simp) (z0q.cons (o := _) rfl (fun K hK => ?_) z0q.nil)
   have g3 := q1q HX9 3 _ rfl _ qb
   have g4 := frozen_of_row _ _ 3 _ _ HX9
   go_simp
   refine hK.out _ _ (fun h => absurd rfl h) (fun _ => ?_)
   clear hK K
   try refine lyt ?_
   refine d3q (by kernel_rfl) ?_ _
   have HON := w6q w9 XB (Value.slice na (rn + j + 1) nc)
   have HG10 := hdd (a4q HX9 (v := Value.slice na (rn + j + 1) nc))
   have HO10 := hdd (hown9.otherT (v4w _) HX9 (by decide) (by decide) u1q HON)
   have HF10 := hdd (HF9.other HX9 k3q HON)
   have HL10 := hdd ((rkF M).otherL HL9 HX9 u1q HON (fun g hg e => by have h1 := HM3.o g hg; have h2 := HXB.o; omega))
   have HZ10 := hdd (q4q HZ9 HON HXW.o)
   have HS10 : Hi (w4.heap.size ≤ (w9.setCell ⟨XB, 3, none⟩ (Value.slice na (rn + j + 1) nc)).heap.size) := hdd (by rw [HON.size]; exact HS9)
   have HOB10 := hdd HOB9
   clear HON HX9 HF9 HL9 HZ9 HS9 HOB9 hB9 hown9
   go_wp2_with fail
   go_roundw
   case rel => exact ⟨j + 1, _, _, by omega, by go_num, HG10, HO10, HF10, HL10, HZ10, HS10, HOB10⟩
   case measure => simp [intOf]; omega
  ·
   have t0 : decide ((j : Int) < (m : Int)) = false := by simp; omega
   obtain rfl : j = m := by omega
   have HMW : Hi (mid ≤ wo.heap.size) := hdd (Nat.le_trans HXB.o (Nat.le_trans (Nat.le_of_lt HXL.o) hsz.o))
   have HPN : Hi (r3q (rkF M) wo 0 (.agg #[.int .i64 (fn : Nat), .slice fa' fn fc', .slice ga' fn gc', .slice oa (rn + j) oc]) (b6q P l)) := hdd ⟨fa', fc', ga', gc', oa, oc, mid, by
    show _ = Value.agg #[.int .i64 P.vars, .slice fa' P.free.length fc', .slice ga' P.goal.length gc', .slice oa (P.rows ++ m5q P.vars.toNat l l.length).length oc]
    rw [List.length_append, n5q, ← HEQ.o.1, ← HEQ.o.2.1, ← HEQ.o.2.2.1, ← HEQ.o.2.2.2, ← HM.o], hF.o, by
    show (rkF M).L _ (.slice ga' P.goal.length gc') P.goal
    rw [← HEQ.o.2.2.1]
    exact hGL2.o, by
    show LRo (rkF M) _ mid (.slice oa (P.rows ++ m5q P.vars.toNat l l.length).length oc) (P.rows ++ m5q P.vars.toNat l l.length)
    rw [List.length_append, n5q, ← HEQ.o.1, ← HEQ.o.2.2.2, ← HM.o, Int.toNat_natCast]
    exact hO.o, Nat.zero_le _, HM2.o, by
    show ∀ g, (Value.slice ga' P.goal.length gc').ownBlock = some g → g < mid
    rw [← HEQ.o.2.2.1]
    exact HM3.o, HMW.o⟩
   have HRB' : Hi (j7q (b6q P l) = true) := hdd (q8x HRB.o)
   have KF := hdd (x6z (N := M) (M := M) (m := m2) (vc := vc2) (bc := bc) (HPN.o.readF HRB'.o (by show P.vars ≤ 1000; have := HEQ.o; omega)) HRB'.o (x0x HMM.o.1 HS.o) (by have := HMM.o; omega) HMM.o.1 (by have := HMM.o; omega) (by show P.vars ≤ 160; have := HEQ.o; omega) (by show (P.rows ++ m5q P.vars.toNat l l.length).length ≤ 200; rw [List.length_append, n5q]; exact HRL2.o) (HIV.o.below (q0q HB1.o hZ2.o)) (HIB.o.below (q0q HB1.o hZ2.o)) HMV.o.1 HMV.o.2.1 HMV.o.2.2.1 HMV.o.2.2.2 HOK2.o HBIT.o)
   have g0 := q1q hG.o 0 _ rfl _ qb
   have g1 := q1q hG.o 1 _ rfl _ qb
   have g2 := q1q hG.o 2 _ rfl _ qb
   have g3 := q1q hG.o 3 _ rfl _ qb
   have HRW := hdd ((hZ2.o.block _ (lt_of_block HO1.o)).trans HO1.o)
   go_wp2_with fail
   refine KF.o.mono ?_
   rintro en5 w5 ⟨⟨r5, rfl, hp5⟩, hb5⟩
   obtain ⟨fa5, fc5, ga5, gc5, oa5, oc5, mid5, hq5, -⟩ := id hp5
   obtain ⟨r5', hr5'⟩ : ∃ x, x = r5 := ⟨_, rfl⟩
   have HP5 := hdd hp5
   obtain ⟨z5, hz5⟩ := qx ((j6x (b6q P l) vs bs).vars)
   obtain ⟨f5, hf5⟩ := qx ((j6x (b6q P l) vs bs).free.length)
   obtain ⟨gl5, hg5⟩ := qx ((j6x (b6q P l) vs bs).goal.length)
   obtain ⟨rl5, hrl5⟩ := qx ((j6x (b6q P l) vs bs).rows.length)
   rw [← hz5, ← hf5, ← hg5, ← hrl5] at hq5
   subst hq5
   have HX5 := (hb5.block _ (lt_of_block hG.o)).trans hG.o
   have HR5 := hdd ((hb5.block _ (lt_of_block HRW.o)).trans HRW.o)
   have HXW5 : Hi (XB < wo.heap.size) := hdd (lt_of_block hG.o)
   have HRW5 : Hi (w.heap.size + 1 < wo.heap.size) := hdd (lt_of_block HRW.o)
   have HRX : Hi (w.heap.size + 1 ≠ XB) := hdd (by have h1 := lt_of_block HO1.o; have h2 := HXW.o; omega)
   have HZ5 := hdd (q0q hZ2.o hb5)
   clear hp5 hb5 g0 g1 g2 g3 hz5 hf5 hg5 hrl5 hr5' KF
   go_wp2_with ((with_reducible refine j9q ?_); refine q6q rfl _ _ _ rfl XB rfl _ rfl _ _ HX5 g8q rfl b9q ?_; intro w6 h6 hon6; refine y0q ?_)
   refine z2q ?_
   have HP6 := hdd (HP5.o.otherF HX5 hon6 HXW5.o)
   have HZ6 := hdd (q4q HZ5.o hon6 HXW.o)
   have HR6 := (hon6.block _ HRX.o).trans HR5.o
   have k0 := q1q h6 0 _ rfl _ qb
   have k1 := q1q h6 1 _ rfl _ qb
   have k2 := q1q h6 2 _ rfl _ qb
   have k3 := q1q h6 3 _ rfl _ qb
   go_wp2_with ((with_reducible refine j9q ?_); refine q6q rfl _ _ _ rfl (w.heap.size + 1) rfl _ rfl _ _ HR6 g8q rfl b9q ?_; intro w7 h7 hon7; refine y0q ?_)
   refine z2q ?_
   have HP7 := HP6.o.otherF HR6 hon7 HRW5.o
   go_wp2_with fail
   exact bodyPost_ret (h1q rfl _ _ (w.heap.size + 1) _ _ _ _ rfl h7 Tryz.underlying26 rfl g8q) rfl ⟨⟨_, _, rfl, HP7⟩, q4q (q0q HB1.o HZ6.o) hon7 (Nat.le_succ _)⟩
end Go.Proofs.YtkkbmlkpgknhgaaGreat
namespace Go.Proofs.YtkkbmlkpgknhgaaGreat
open Go.ChangeShapes Go.WideShapes Go.ChangeAt Go.RowKit
variable {K : t1q} {M N bc cn fc fn fuel gc gn m rc rn vc xc xn yc yn zc zn : Nat} {P : Pm} {W w w' : World} {ba ca fa ga ra va xa ya za : Option Addr} {bs l : List Int} {k : Int} {v : Value}
def z3x (w : World) (cs : List Value) : Prop :=
 ∃ k xa xn xc ya yn yc za zn zc, cs = [.int .i64 k, .slice xa xn xc, .slice ya yn yc, .slice za zn zc] ∧ -9223372036854775808 ≤ k ∧ k ≤ 9223372036854775807 ∧ g1q w (.slice xa xn xc) xa xn xc ∧ g1q w (.slice ya yn yc) ya yn yc ∧ g1q w (.slice za zn zc) za zn zc
theorem u4w {H : Type} {enc : TypeId × Value → H} {cs : List Value} {x : DataW H × List MemPlace}
  (h : DataW.trod enc Tryz.prog W 0 (fun _ => true) true fuel 66 cs = some x) : z3x W cs := by
 obtain ⟨xs, n, _, rfl, hl, hlen, hf⟩ := DataW.trod_struct Tryz.underlying66 h
 rw [u0z] at hl
 obtain ⟨v0, v1, v2, v3, rfl⟩ : ∃ v0 v1 v2 v3, cs = [v0, v1, v2, v3] := by
  match cs, hl with
  | [c0, c1, c2, c3], _ => exact ⟨c0, c1, c2, c3, rfl⟩
 obtain ⟨y0, y1, y2, y3, rfl⟩ : ∃ y0 y1 y2 y3, xs = [y0, y1, y2, y3] := by
  match xs, hlen with
  | [c0, c1, c2, c3], _ => exact ⟨c0, c1, c2, c3, rfl⟩
 have h0 : DataW.trod enc Tryz.prog W 0 (fun _ => true) true n 3 [v0] = some y0 := hf 0 _ rfl
 have h1 : DataW.trod enc Tryz.prog W 0 (fun _ => true) true n 23 [v1] = some y1 := hf 1 _ rfl
 have h2 : DataW.trod enc Tryz.prog W 0 (fun _ => true) true n 23 [v2] = some y2 := hf 2 _ rfl
 have h3 : DataW.trod enc Tryz.prog W 0 (fun _ => true) true n 23 [v3] = some y3 := hf 3 _ rfl
 obtain ⟨z, rfl, hz1, hz2⟩ := a2q h0
 obtain ⟨xa, xn, xc, hX⟩ := w1q h1
 obtain rfl := hX.1
 obtain ⟨ya, yn, yc, hY⟩ := w1q h2
 obtain rfl := hY.1
 obtain ⟨za, zn, zc, hZ⟩ := w1q h3
 obtain rfl := hZ.1
 exact ⟨z, xa, xn, xc, ya, yn, yc, za, zn, zc, rfl, hz1, hz2, hX, hY, hZ⟩
def v8w (w : World) (cs : List Value) : Prop :=
 ∃ a b c ds, cs = [.int .i64 a, .int .i64 b, .int .i64 c] ++ ds ∧ (-9223372036854775808 ≤ a ∧ a ≤ 9223372036854775807) ∧ (-9223372036854775808 ≤ b ∧ b ≤ 9223372036854775807) ∧ (-9223372036854775808 ≤ c ∧ c ≤ 9223372036854775807) ∧ z3x w ds
theorem z3k : Tryz.prog.cellsOf 68 = 7 := by kernel_rfl
theorem u4x {H : Type} {enc : TypeId × Value → H} {cs : List Value} {x : DataW H × List MemPlace}
  (h : DataW.trod enc Tryz.prog W 0 (fun _ => true) true fuel 68 cs = some x) : v8w W cs := by
 obtain ⟨xs, n, _, rfl, hl, hlen, hf⟩ := DataW.trod_struct Tryz.underlying68 h
 rw [z3k] at hl
 obtain ⟨v0, v1, v2, v3, v4, v5, v6, rfl⟩ : ∃ v0 v1 v2 v3 v4 v5 v6, cs = [v0, v1, v2, v3, v4, v5, v6] := by
  match cs, hl with
  | [c0, c1, c2, c3, c4, c5, c6], _ => exact ⟨c0, c1, c2, c3, c4, c5, c6, rfl⟩
 obtain ⟨y0, y1, y2, y3, rfl⟩ : ∃ y0 y1 y2 y3, xs = [y0, y1, y2, y3] := by
  match xs, hlen with
  | [c0, c1, c2, c3], _ => exact ⟨c0, c1, c2, c3, rfl⟩
 have h0 : DataW.trod enc Tryz.prog W 0 (fun _ => true) true n 3 [v0] = some y0 := hf 0 _ rfl
 have h1 : DataW.trod enc Tryz.prog W 0 (fun _ => true) true n 3 [v1] = some y1 := hf 1 _ rfl
 have h2 : DataW.trod enc Tryz.prog W 0 (fun _ => true) true n 3 [v2] = some y2 := hf 2 _ rfl
 have h3 : DataW.trod enc Tryz.prog W 0 (fun _ => true) true n 66 [v3, v4, v5, v6] = some y3 := hf 3 _ rfl
 obtain ⟨a, rfl, ha1, ha2⟩ := a2q h0
 obtain ⟨b, rfl, hb1, hb2⟩ := a2q h1
 obtain ⟨c, rfl, hc1, hc2⟩ := a2q h2
 exact ⟨a, b, c, _, rfl, ⟨ha1, ha2⟩, ⟨hb1, hb2⟩, ⟨hc1, hc2⟩, u4w h3⟩
def z3v (w : World) (a : Option Addr) (n : Nat) : Prop := ∀ i, i < n → ∃ B off cs, a = some ⟨B, off, none⟩ ∧ cs.length = 7 ∧ v8w w cs ∧ ∀ (k : Nat) (u : Value), cs[k]? = some u → w.cell? ⟨B, off + i * 7 + k, none⟩ = some u
theorem v9h {H : Type} {enc : TypeId × Value → H} {x : DataW H × List MemPlace}
  (h : DataW.trod enc Tryz.prog W 0 (fun _ => true) true fuel 35 [v] = some x) : ∃ a n c, v = .slice a n c ∧ z3v W a n := by
 rcases DataW.trod_slice Tryz.underlying35 h with ⟨h0, _⟩ | ⟨a', len, cap, elems, rest, m, _, hcs, _, _, hl, hm, hlen, hel, _, _⟩
 ·
  simp at h0
  exact ⟨none, 0, 0, h0, fun i hi => absurd hi (Nat.not_lt_zero i)⟩
 ·
  simp at hcs
  subst hcs
  refine ⟨_, _, _, rfl, fun i hi => ?_⟩
  have each : ∀ j, j < len → ∃ cs, W.cells? 0 (a'.add (j * 7)) 7 = some cs ∧ v8w W cs := by
   intro j hj
   have h1 := hel j hj
   rw [z3k, List.getElem?_eq_getElem (by omega), Option.bind_eq_some_iff] at h1
   obtain ⟨cs, hc1, hc2⟩ := h1
   exact ⟨cs, hc1, u4x hc2⟩
  have hsp : ∃ B off, a' = ⟨B, off, none⟩ := by
   obtain ⟨cs, hc1, a, b, c, ds, rfl, -⟩ := each 0 (by omega)
   obtain ⟨-, -, hcell⟩ := World.cells?_some hc1
   have e0 := hcell 0 (by omega)
   rw [Nat.zero_mul] at e0
   have e0' : W.cell? a' = _ := e0
   obtain ⟨B, off, h, -⟩ := i1q e0'
   exact ⟨B, off, h⟩
  obtain ⟨B, off, rfl⟩ := hsp
  obtain ⟨cs, hc1, hc2⟩ := each i hi
  obtain ⟨-, hcl, hcell⟩ := World.cells?_some hc1
  refine ⟨B, off, cs, rfl, hcl, hc2, fun k u hu => ?_⟩
  have hk : k < 7 := by rw [← hcl]; exact (List.getElem?_eq_some_iff.1 hu).1
  have e := hcell k (by omega)
  simp only [e8q] at e
  rw [e]
  exact hu
def q8j (w : World) (v : Value) (k : Int) (xa : Option Addr) (xn xc : Nat) (za : Option Addr) (zn zc : Nat) (ca : Option Addr) (cn cc : Nat) : Prop :=
 v = .agg #[.int .i64 k, .slice xa xn xc, .slice za zn zc, .slice ca cn cc] ∧ -9223372036854775808 ≤ k ∧ k ≤ 9223372036854775807 ∧ g1q w (.slice xa xn xc) xa xn xc ∧ g1q w (.slice za zn zc) za zn zc ∧ z3v w ca cn
theorem u0x : Tryz.prog.cellsOf 37 = 4 := by kernel_rfl
theorem g5j {H : Type} {enc : TypeId × Value → H} {d : DataW H} {p : List MemPlace}
  (hv : Value.okWide Tryz.prog W .any 0 37 v) (h : DataW.Trod enc Tryz.prog W 0 (fun _ => true) true 37 v d p) :
  ∃ k xa xn xc za zn zc ca cn cc, q8j W v k xa xn xc za zn zc ca cn cc := by
 obtain ⟨v0, v1, v2, v3, y0, y1, y2, y3, m, rfl, rfl, rfl, h0, h1, h2, h3⟩ := Go.Joins.open_agg4 Tryz.underlying37 (by kernel_rfl) u0x hv h
 obtain ⟨z, rfl, hz1, hz2⟩ := a2q h0
 obtain ⟨xa, xn, xc, hX⟩ := w1q h1
 obtain rfl := hX.1
 obtain ⟨za, zn, zc, hZ⟩ := w1q h2
 obtain rfl := hZ.1
 obtain ⟨ca, cn, cc, rfl, hC⟩ := v9h h3
 exact ⟨z, xa, xn, xc, za, zn, zc, ca, cn, cc, rfl, hz1, hz2, hX, hZ, hC⟩
end Go.Proofs.YtkkbmlkpgknhgaaGreat
namespace Go.Proofs.YtkkbmlkpgknhgaaGreat
open Go.RowKit
attribute [local go_sem ↓] Go.wp_at_zero Go.wp_at_succ
variable {K : t1q} {M N bc cn fc fn fuel gc gn m rc rn vc xc xn yc yn zc zn : Nat} {P : Pm} {W w w' : World} {ba ca fa ga ra va xa ya za : Option Addr} {bs l : List Int} {k : Int} {v : Value}
theorem k1k : (Tryz.prog.info? 68).map (·.size) = some 7 := by kernel_rfl
theorem y4v {a b c : Int} : ∀ v ∈ (#[Value.int .i64 a, Value.int .i64 b, Value.int .i64 c, Value.int .i64 k, Value.slice xa xn xc, Value.slice ya yn yc, Value.slice za zn zc] : Array Value).toList, v.oneCell' = true := by
 intro v hv; simp at hv; rcases hv with rfl | rfl | rfl | rfl | rfl | rfl | rfl <;> rfl
theorem g1q.none0 (w : World) : g1q w (.slice none 0 0) none 0 0 := ⟨rfl, fun i hi => absurd hi (Nat.not_lt_zero i)⟩
theorem q1v.back (h : q1v w' M xa xn ya yn za zn) (hC : q7k w v k xa xn xc ya yn yc za zn zc) (hb : Below w.heap.size w w') : q1v w M xa xn ya yn za zn :=
 ⟨h.1, hC.2.2.2.1.few_back hb h.2.1, hC.2.2.2.2.1.few_back hb h.2.2.1, hC.2.2.2.2.2.few_back hb h.2.2.2⟩
def j5w (w : World) (ca : Option Addr) (cn : Nat) : Prop := ∀ i, i < cn → ∃ B off a b c k xa xn xc ya yn yc za zn zc, ca = some ⟨B, off, none⟩ ∧
 q7k w (.agg #[.int .i64 k, .slice xa xn xc, .slice ya yn yc, .slice za zn zc]) k xa xn xc ya yn yc za zn zc ∧ q1v w 41 xa xn ya yn za zn ∧ (-9223372036854775808 ≤ a ∧ a ≤ 9223372036854775807) ∧ (-9223372036854775808 ≤ b ∧ b ≤ 9223372036854775807) ∧ (-9223372036854775808 ≤ c ∧ c ≤ 9223372036854775807) ∧
 ∀ (j : Nat) (u : Value), [Value.int .i64 a, Value.int .i64 b, Value.int .i64 c, Value.int .i64 k, Value.slice xa xn xc, Value.slice ya yn yc, Value.slice za zn zc][j]? = some u → w.cell? ⟨B, off + i * 7 + j, none⟩ = some u
theorem z3v.at (h : z3v w ca cn) {i : Nat} (hi : i < cn) : ∃ B off a b c k xa xn xc ya yn yc za zn zc, ca = some ⟨B, off, none⟩ ∧
 q7k w (.agg #[.int .i64 k, .slice xa xn xc, .slice ya yn yc, .slice za zn zc]) k xa xn xc ya yn yc za zn zc ∧ (-9223372036854775808 ≤ a ∧ a ≤ 9223372036854775807) ∧ (-9223372036854775808 ≤ b ∧ b ≤ 9223372036854775807) ∧ (-9223372036854775808 ≤ c ∧ c ≤ 9223372036854775807) ∧
 ∀ (j : Nat) (u : Value), [Value.int .i64 a, Value.int .i64 b, Value.int .i64 c, Value.int .i64 k, Value.slice xa xn xc, Value.slice ya yn yc, Value.slice za zn zc][j]? = some u → w.cell? ⟨B, off + i * 7 + j, none⟩ = some u := by
 obtain ⟨B, off, cs, ha, -, ⟨a, b, c, ds, rfl, h1, h2, h3, k, xa, xn, xc, ya, yn, yc, za, zn, zc, rfl, hk1, hk2, hX, hY, hZ⟩, hc⟩ := h i hi
 exact ⟨B, off, a, b, c, k, xa, xn, xc, ya, yn, yc, za, zn, zc, ha, ⟨rfl, hk1, hk2, hX, hY, hZ⟩, h1, h2, h3, hc⟩
theorem g5z {cc : Nat} (h : q8j w v k xa xn xc za zn zc ca cn cc) :
  Calls Tryz.prog 13 #[v] w fun e w' => (∃ bb, e = .returned (.bool bb) ∧ (bb = true → cn ≤ 800 ∧ q1v w 41 xa xn none 0 za zn ∧ j5w w ca cn)) ∧ Below w.heap.size w w' := by
 obtain ⟨rfl, hk1, hk2, hX, hZ, hC⟩ := h
 have HC := hdd hC
 have HCI : Hi (q7k w (.agg #[.int .i64 0, .slice xa xn xc, .slice none 0 0, .slice za zn zc]) 0 xa xn xc none 0 0 za zn zc) := hdd ⟨rfl, by decide, by decide, hX, g1q.none0 w, hZ⟩
 obtain ⟨w1, hw1, HB1, HX1⟩ := al1 w #[.int .i64 k, .slice xa xn xc, .slice za zn zc, .slice ca cn cc] 37
 have HW1 := hdd hw1.symm
 clear hw1 hX hZ hC
 have RX := hdd (q1q HX1.o)
 have x1 := RX.o 1 _ rfl _ qb
 have x2 := RX.o 2 _ rfl _ qb
 have x3 := RX.o 3 _ rfl _ qb
 have KX : Hi (Calls Tryz.prog 36 #[.agg #[.int .i64 0, .slice xa xn xc, .slice none 0 0, .slice za zn zc], .int .i64 41] w1 fun e w' => (∃ bb, e = .returned (.bool bb) ∧ (bb = true → q1v w 41 xa xn none 0 za zn)) ∧ Below w1.heap.size w1 w') := hdd ((v5j (M := 41) (HCI.o.below HB1.o) (by omega)).mono fun e w' h => by
  obtain ⟨⟨bb, he, hs⟩, hb⟩ := h
  exact ⟨⟨bb, he, fun e9 => (hs e9).back HCI.o HB1.o⟩, hb⟩)
 go_enter Tryz.func13, Tryz.ntmps13
 by_cases hcn : cn ≤ 800
 rotate_left
 ·
  have t1 : decide ((800 : Int) < (cn : Int)) = true := by simp; omega
  have t2 : decide ((cn : Int) > 800) = true := by simp; omega
  go_wp2_with fail
  rw [HW1.o]
  go_ret
  exact ⟨⟨_, rfl, fun h => by cases h⟩, HB1.o⟩
 have t1 : decide ((800 : Int) < (cn : Int)) = false := by simp; omega
 have t2 : decide ((cn : Int) > 800) = false := by simp; omega
 go_wp2_with fail
 rw [HW1.o]
 refine KX.o.mono ?_
 rintro en2 w2 ⟨⟨b2, rfl, hs2⟩, hb2⟩
 have HZ2 := hdd hb2
 have x3 := RX.o 3 _ rfl _ hb2
 clear hb2 x1 x2
 cases b2 with
 | false =>
  clear hs2
  go_wp2_with fail
  go_ret
  exact ⟨⟨_, rfl, fun h => by cases h⟩, q0q HB1.o HZ2.o⟩
 | true =>
 have HS2 := hdd (hs2 rfl)
 clear hs2
 go_wp2_with fail
 clear x3
 go_loopw [21] (fun iv wr => ∃ i : Nat, i ≤ cn ∧ iv = .int .i64 i ∧ Hi (Below w1.heap.size w1 wr) ∧ Hi (j5w w ca i)) (fun iv _ => cn - (intOf iv).toNat)
 case atStart => exact ⟨0, Nat.zero_le _, rfl, HZ2, hdd (fun i hi => absurd hi (Nat.not_lt_zero i))⟩
 case round =>
  obtain ⟨i, hi, rfl, hZ, hT⟩ := hrel
  obtain ⟨wo, rfl⟩ : ∃ wo : World, wo = wr := ⟨_, rfl⟩
  by_cases hin : i < cn
  ·
   have t0 : decide ((i : Int) < (cn : Int)) = true := by simp; omega
   obtain ⟨B, off, ca1, cb1, cc1, ck, pa, pn, pc, qa, qn, qc, ra, rn, rc, hca, hci, ha1, hb1, hc1, hcell⟩ := HC.o.at hin
   have HCA := hdd hca
   subst hca
   have HCI9 := hdd hci
   have HCL := hdd hcell
   have hw := q0q HB1.o hZ.o
   have f0 := q3q hw (hcell 0 _ rfl)
   have f1 := q3q hw (hcell 1 _ rfl)
   have f2 := q3q hw (hcell 2 _ rfl)
   have f3 := q3q hw (hcell 3 _ rfl)
   have f4 := q3q hw (hcell 4 _ rfl)
   have f5 := q3q hw (hcell 5 _ rfl)
   have f6 := q3q hw (hcell 6 _ rfl)
   have HRNG := hdd (And.intro ha1 (And.intro hb1 hc1))
   have HWO := hdd hw
   simp only [Nat.add_zero] at f0
   clear hci hcell hw ha1 hb1 hc1
   go_wp2_with ((with_reducible refine j9q ?_); refine q6q rfl _ _ _ rfl wo.heap.size rfl _ rfl _ _ (heap_alloc_new _ _) k1k rfl y4v ?_; intro w5 h5 hon5; refine y0q ?_)
   have hb5 : Below wo.heap.size wo w5 := q4q ((qb).alloc qm _) hon5 qm
   have HB5 := hdd hb5
   have y3 := q1q h5 3 _ rfl _ qb
   have y4 := q1q h5 4 _ rfl _ qb
   have y5 := q1q h5 5 _ rfl _ qb
   have y6 := q1q h5 6 _ rfl _ qb
   have KC : Hi (Calls Tryz.prog 36 #[.agg #[.int .i64 ck, .slice pa pn pc, .slice qa qn qc, .slice ra rn rc], .int .i64 41] w5 fun e w' => (∃ bb, e = .returned (.bool bb) ∧ (bb = true → q1v w 41 pa pn qa qn ra rn)) ∧ Below w5.heap.size w5 w') := hdd ((v5j (M := 41) (HCI9.o.below (q0q HWO.o HB5.o)) (by omega)).mono fun e w' h => by
    obtain ⟨⟨bb, he, hs⟩, hb⟩ := h
    exact ⟨⟨bb, he, fun e9 => (hs e9).back HCI9.o (q0q HWO.o HB5.o)⟩, hb⟩)
   clear h5 hon5 hb5 f0 f1 f2 f3 f4 f5 f6
   refine z2q ?_
   go_wp2_with fail
   refine KC.o.mono ?_
   rintro en6 w6 ⟨⟨b6, rfl, hs6⟩, hb6⟩
   have HZ6 := hdd (q0q hZ.o (q0q HB5.o hb6))
   clear hb6 y3 y4 y5 y6
   cases b6 with
   | false =>
    clear hs6
    go_wp2_with fail
    go_ret
    exact ⟨⟨_, rfl, fun h => by cases h⟩, q0q HB1.o HZ6.o⟩
   | true =>
    have HT9 : Hi (j5w w (some ⟨B, off, none⟩) (i + 1)) := hdd (fun j hj => by
     by_cases hji : j = i
     ·
      subst hji
      exact ⟨B, off, ca1, cb1, cc1, ck, pa, pn, pc, qa, qn, qc, ra, rn, rc, rfl, HCI9.o, hs6 rfl, HRNG.o.1, HRNG.o.2.1, HRNG.o.2.2, HCL.o⟩
     ·
      exact hT.o j (by omega))
    clear hs6
    go_wp2_with fail
    go_roundw
    case rel => exact ⟨i + 1, by omega, by go_num, HZ6, HT9⟩
    case measure => simp [intOf]; omega
  ·
   have t0 : decide ((i : Int) < (cn : Int)) = false := by simp; omega
   obtain rfl : i = cn := by omega
   go_wp2_with fail
   go_ret
   exact ⟨⟨_, rfl, fun _ => ⟨hcn, HS2.o, hT.o⟩⟩, q0q HB1.o hZ.o⟩
theorem z2v {o : Oper} {a : Act} {C : Act → World → Prop} {Q : Exit → Act → World → Prop} (s x : Operand)
  (ho : o.op = .call { callee := .builtin .append, args := #[s, x], argTypes := #[24, 24] }) (base base0 g : Nat) (hs : a.eval s = .slice (some ⟨g, 0, none⟩) 0 0) (hg : w.heap[g]? = some (.cells #[] 45 (0, 0))) (hbg : base ≤ g) (hb0 : base ≤ base0)
  (ar : Addr) (n c : Nat) (rs : List (List Rat × Int × Rat)) (hx : a.eval x = .slice (some ar) n c) (hown : LRo K w base0 (.slice (some ar) n c) rs) (hn : 0 < n) (hn9 : n ≤ 1000000)
  (hne0 : ∀ r ∈ rs, r.1 ≠ []) (hgn : ∀ (v : Value) (qs : List Rat), K.L w v qs → qs ≠ [] → v.ownBlock ≠ some g)
  (h : ∀ v' w', LRo K w' base v' rs → w.grownBy w' (some g) → (∀ W, Below g W w → Below g W w') → (∀ k, v'.ownBlock = some k → g ≤ k) → C (a.put o.dst v') w') :
  Oper.wp Tryz.prog o a w C Q := by
 obtain ⟨i0, hi0, hz0, hz1, hz2⟩ := info_parts j6h
 have hcells0 := hown
 obtain ⟨xs, hxs, hcl, hel⟩ := hown
 have hnl : n = rs.length := by
  rcases hxs.2 with ⟨h0, -⟩ | ⟨g', cap', cur', hv, -⟩
  ·
   cases h0
  ·
   simp only [Value.slice.injEq] at hv; exact hv.2.1
 have hcells := fun k hk => World.ownsRow.cells hxs (g := k) hk
 have hxl : xs.length = n * 5 := by rw [hnl]; exact hxs.1
 have hnoU : ∀ u ∈ xs, NoU u := by
  rcases hxs.2 with ⟨h0, -⟩ | ⟨g', cap', cur', hv, -, hh, -, -, -, htake⟩
  ·
   cases h0
  ·
   intro u hu
   rw [← htake] at hu
   have h9 : (Value.slice (some ar) n c).ownBlock = some g' := by rw [hv]; rfl
   exact hcl g' cur' _ (0, 0) h9 hh u (List.mem_of_mem_take hu)
 obtain ⟨g1, har⟩ : ∃ g1, ar = ⟨g1, 0, none⟩ := by
  rcases hxs.2 with ⟨h0, -⟩ | ⟨g', cap', cur', hv, -⟩
  ·
   cases h0
  ·
   simp only [Value.slice.injEq, Option.some.injEq] at hv; exact ⟨g', hv.1⟩
 subst har
 have h1c : ∀ u ∈ xs, u.oneCell' = true := by
  intro u hu
  obtain ⟨k, hk, rfl⟩ := List.mem_iff_getElem.1 hu
  have hk5 : k / 5 < rs.length := by omega
  obtain ⟨a', n', c', b, a1, n1, c1, a2, n2, c2, e0, e1, e2, e3, e4, -⟩ := hel (k / 5) _ (List.getElem?_eq_getElem hk5)
  have hk9 := List.getElem?_eq_getElem hk
  rcases (by omega : k = k / 5 * 5 ∨ k = k / 5 * 5 + 1 ∨ k = k / 5 * 5 + 2 ∨ k = k / 5 * 5 + 3 ∨ k = k / 5 * 5 + 4) with e | e | e | e | e
  ·
   rw [← e] at e0; rw [e0] at hk9; rw [← Option.some.inj hk9]; rfl
  ·
   rw [← e] at e1; rw [e1] at hk9; rw [← Option.some.inj hk9]; rfl
  ·
   rw [← e] at e2; rw [e2] at hk9; rw [← Option.some.inj hk9]; rfl
  ·
   rw [← e] at e3; rw [e3] at hk9; rw [← Option.some.inj hk9]; rfl
  ·
   rw [← e] at e4; rw [e4] at hk9; rw [← Option.some.inj hk9]; rfl
 have hgl : g < w.heap.size := lt_of_block hg
 obtain ⟨v', w', hr, h2, h3, h4, h5, -, -⟩ := f1q (P := Tryz.prog) (w := w) base 24 o.type 45 i0 (.agg #[Value.slice none 0 0, Value.int .i64 0, Value.bool false, Value.slice none 0 0, Value.slice none 0 0]) 5 88 Tryz.underlying24 hi0 hz0 hz1 hz2 rfl (by decide) (.slice (some ⟨g, 0, none⟩) 0 0) 0 [] (q8v hg hbg) ⟨g1, 0, none⟩ n c
  xs hxl (by
   intro j u hu
   exact hcells g1 rfl j u hu) h1c (by unfold maxLen; omega) (by omega) (by omega) hn
  (by intro u hu k; simp [Value.cells] at hu; rcases hu with rfl | rfl | rfl | rfl <;> (intro e; cases e)) hnoU (p1q hg)
 have hat : ∀ k, k < w.heap.size → k ≠ g → v'.ownBlock ≠ some k := by
  intro k hk hv e
  rcases h4 with e4 | e4
  ·
   rw [e4] at e; have h9 : some g = some k := e; exact hv (Option.some.inj h9).symm
  ·
   rw [e4] at e; simp only [Option.some.injEq] at e; omega
 unfold Oper.wp execOp
 simp only [ho, resolve, invoke, builtin, Sem.run_bind, Sem.run_pure, Result.andThen_ok, List.map_toArray, List.map_cons, List.map_nil, hs, hx, hr]
 refine h v' w' ⟨xs, by rw [← hnl]; simpa using h2, h5, fun j r' hr' => ?_⟩ h3 ?_ (fun k hk => by
  rcases h4 with e4 | e4
  ·
   rw [e4] at hk; have h9 : some g = some k := hk; exact Nat.le_of_eq (Option.some.inj h9)
  ·
   rw [e4] at hk; have h9 := Option.some.inj hk; omega)
 ·
  obtain ⟨a', n', c', b', a1', n1', c1', a2', n2', c2', e0, e1, e2, e3, e4, hl', hf', hne'⟩ := hel j r' hr'
  exact ⟨a', n', c', b', a1', n1', c1', a2', n2', c2', e0, e1, e2, e3, e4,
    K.keepL hl' (p1q hg) h3 (fun k hk e => by have h9 : some g = some k := e; exact hgn _ _ hl' (hne0 r' (List.mem_of_getElem? hr')) (by rw [hk, Option.some.inj h9])), K.keepF hf' (p1q hg) h3, fun k hk => ⟨hat k (hne' k hk).2.1 (fun e => hgn _ _ hl' (hne0 r' (List.mem_of_getElem? hr')) (by rw [hk, e])), Nat.lt_of_lt_of_le (hne' k hk).2.1 h3.size, Nat.le_trans hb0 (hne' k hk).2.2⟩⟩
 ·
  intro W hW
  exact hW.grown h3 (Nat.le_of_lt hgl) (fun k hk => by have h9 : some g = some k := hk; have := Option.some.inj h9; omega)
theorem j8h {ops : Array Oper} {rest : List Oper} {o : Oper} {a : Act} {Q : Exit → Act → World → Prop} (hgd : o.guard = none) (s x : Operand)
  (ho : o.op = .call { callee := .builtin .append, args := #[s, x], argTypes := #[24, 24] }) (base base0 g : Nat) (hs : a.eval s = .slice (some ⟨g, 0, none⟩) 0 0) (hg : w.heap[g]? = some (.cells #[] 45 (0, 0))) (hbg : base ≤ g) (hb0 : base ≤ base0)
  (ar : Addr) (n c : Nat) (rs : List (List Rat × Int × Rat)) (hx : a.eval x = .slice (some ar) n c) (hown : LRo K w base0 (.slice (some ar) n c) rs) (hn : 0 < n) (hn9 : n ≤ 1000000)
  (hne0 : ∀ r ∈ rs, r.1 ≠ []) (hgn : ∀ (v : Value) (qs : List Rat), K.L w v qs → qs ≠ [] → v.ownBlock ≠ some g)
  (h : ∀ v' w', LRo K w' base v' rs → w.grownBy w' (some g) → (∀ W, Below g W w → Below g W w') → (∀ k, v'.ownBlock = some k → g ≤ k) → wpList Tryz.prog ops Q rest (a.put o.dst v') w') :
  wpList Tryz.prog ops Q (o :: rest) a w :=
 wpList_plain hgd fun _ hK => z2v s x ho base base0 g hs hg hbg hb0 ar n c rs hx hown hn hn9 hne0 hgn fun v' w' h1 h2 h3 h4 => hK _ _ (h v' w' h1 h2 h3 h4)
theorem u9j (hK : x2w K) {w : World} {base n c : Nat} {a : Option Addr} {rs : List (List Rat × Int × Rat)} (h : LRo K w base (.slice a n c) rs) (hne0 : ∀ r ∈ rs, r.1 ≠ []) (hn9 : n ≤ 1000) (hb9 : base ≤ w.heap.size) :
  Calls Tryz.prog 63 #[.slice a n c] w fun e w' => (∃ a' c', e = .returned (.slice a' n c') ∧ LRo K w' base (.slice a' n c') rs ∧ ∀ g, (Value.slice a' n c').ownBlock = some g → w.heap.size ≤ g) ∧ Below w.heap.size w w' := by
 have hnl : n = rs.length := by
  obtain ⟨a', c', hq⟩ := h.form
  simp only [Value.slice.injEq] at hq
  exact hq.2.1
 have H := hdd h
 have HNL := hdd hnl
 have HNE0 := hdd hne0
 obtain ⟨w1, hw1, HB1, HG1⟩ := al1 w #[] 45
 have HW1 := hdd hw1.symm
 cases a with
 | none =>
  have hn0 : n = 0 := by
   obtain ⟨xs, ⟨-, ho⟩, -⟩ := h
   rcases ho with ⟨h0, -⟩ | ⟨g', cap', cur', hv, -⟩
   ·
    simp only [Value.slice.injEq] at h0; exact h0.2.1
   ·
    simp only [Value.slice.injEq] at hv; cases hv.1
  have hcz : c = 0 := by
   obtain ⟨xs, ⟨-, ho⟩, -⟩ := h
   rcases ho with ⟨h0, -⟩ | ⟨g', cap', cur', hv, -⟩
   ·
    simp only [Value.slice.injEq] at h0; exact h0.2.2
   ·
    simp only [Value.slice.injEq] at hv; cases hv.1
  subst hn0
  subst hcz
  have hcmp : ∀ w', Sem.run Tryz.prog (binOp BinOp.eql 24 (Value.slice none 0 0) (Value.slice none 0 0)) w' = Result.ok (Value.bool true) w' := fun _ => rfl
  clear h hnl hw1
  go_enter Tryz.func63, Tryz.ntmps63
  go_wp2_with fail
  go_ret
  exact ⟨⟨_, _, rfl, H.o, fun g hg => by simp [Value.ownBlock] at hg⟩, Below.refl _ _⟩
 | some ar =>
  have hcmp : ∀ w', Sem.run Tryz.prog (binOp BinOp.eql 24 (Value.slice (some ar) n c) (Value.slice none 0 0)) w' = Result.ok (Value.bool false) w' := fun _ => rfl
  clear h hnl hw1
  by_cases hn : 0 < n
  ·
   go_enter Tryz.func63, Tryz.ntmps63
   go_wp2_with (at_builtin; rw [HW1.o]; refine j8h (K := K) rfl _ _ rfl base base w.heap.size rfl HG1.o hb9 qm ar n c rs rfl (H.o.below HB1.o) hn (by omega) HNE0.o (fun v qs hl hq e => by
    obtain ⟨o9, b9, h9⟩ := hK hl hq _ e
    exact q6y h9 HG1.o j6v) ?_; intro v' w2 hl2 hg2 hb2 hk2; clear hg2; refine y0q ?_)
   refine z2q ?_
   have HL2 := hdd hl2
   have HK2 := hdd hk2
   have HZ2 := hdd (hb2 w HB1.o)
   obtain ⟨a2, c2, hq⟩ := hl2.form
   rw [← HNL.o] at hq
   subst hq
   clear hl2 hb2 hk2 hcmp
   go_wp2_with fail
   go_ret
   exact ⟨⟨_, _, rfl, HL2.o, HK2.o⟩, HZ2.o⟩
  ·
   have hn0 : n = 0 := by omega
   subst hn0
   have HR0 : Hi (rs = []) := hdd (List.eq_nil_of_length_eq_zero HNL.o.symm)
   have hap : ∀ w' : World, (Builtin.append_ #[24, 24] 24 #[.slice (some ⟨w.heap.size, 0, none⟩) 0 0, .slice (some ar) 0 c]).run Tryz.prog w' = .ok (.slice (some ⟨w.heap.size, 0, none⟩) 0 0) w' := fun _ => rfl
   go_enter Tryz.func63, Tryz.ntmps63
   go_wp2_with fail
   rw [HW1.o]
   go_ret
   exact ⟨⟨_, _, rfl, by rw [HR0.o]; exact ⟨[], q8v HG1.o hb9, p1q HG1.o, fun j r h => by simp at h⟩, fun g hg => by have h9 : some w.heap.size = some g := hg; exact Nat.le_of_eq (Option.some.inj h9)⟩, HB1.o⟩
theorem x3y {n : Nat} {rs : List (List Rat × Int × Rat)} (hL : LRo (rkI N) w 0 (.slice ra rn rc) rs) (hne0 : ∀ r ∈ rs, r.1 ≠ []) (hN : 2 ≤ N) (hN9 : N ≤ 4096) (hn0 : 0 < n) (hbit : ∀ (i : Nat) (z : Int), bs[i]? = some z → j5q (y4j z) ≤ N) (hl : v8q w va l) (hbs : v8q w ba bs) (hm : m = l.length) (hlb : l.length = bs.length) (hok : ∀ (i : Nat) (v : Int), l[i]? = some v → 0 ≤ v ∧ v < n) (hn : n ≤ 1000) (hrn : rn ≤ 1000) (hm9 : m ≤ 1000) :
  Calls Tryz.prog 32 #[.agg #[.int .i64 (n : Nat), .slice fa fn fc, .slice ga gn gc, .slice ra rn rc], .slice va m vc, .slice ba m bc] w fun e w' => (∃ oa oc, e = .returned (.agg #[.int .i64 (n : Nat), .slice fa fn fc, .slice ga gn gc, .slice oa (rn + m) oc]) ∧ LRo (rkI N) w' 0 (.slice oa (rn + m) oc) (rs ++ m4q n l bs m)) ∧ Below w.heap.size w w' := by
 have HRN : Hi (rs.length = rn) := hdd (by
  obtain ⟨a', c', hq⟩ := hL.form
  simp only [Value.slice.injEq] at hq
  exact hq.2.1.symm)
 have HI := hdd hl
 have HIB := hdd hbs
 have HM : Hi (m = l.length ∧ l.length = bs.length) := hdd ⟨hm, hlb⟩
 have HOKV := hdd hok
 have HNE0 := hdd hne0
 have HN2 : Hi (2 ≤ N ∧ N ≤ 4096) := hdd ⟨hN, hN9⟩
 have HBITL := hdd hbit
 have HNEB : Hi (∀ k, ∀ r ∈ rs ++ m4q n l bs k, r.1 ≠ []) := hdd (fun k r hr => by
  rcases List.mem_append.1 hr with h | h
  ·
   exact hne0 r h
  ·
   obtain ⟨i, -, rfl⟩ := List.mem_map.1 h
   exact z9z hn0)
 obtain ⟨w1, hw1, HB1, HX1, HO1⟩ := al2 w #[.int .i64 (n : Int), .slice fa fn fc, .slice ga gn gc, .slice ra rn rc] 26 #[.int .i64 0, .slice none 0 0, .slice none 0 0, .slice none 0 0] 26
 have HS1 : Hi (w1.heap.size = w.heap.size + 2) := hdd (by rw [hw1]; simp)
 have HW1 := hdd hw1.symm
 have KC := hdd (u9j (c0q N) (hL.below HB1.o) hne0 hrn (Nat.zero_le _))
 have x3 := q1q HX1.o 3 _ rfl _ qb
 clear hL hne0 hN hN9 hbit hl hbs hm hlb hok hw1
 go_enter Tryz.func32, Tryz.ntmps32
 go_wp2_with fail
 rw [HW1.o]
 refine KC.o.mono ?_
 rintro en2 w2 ⟨⟨a2, c2, rfl, hl2, hk2⟩, hb2⟩
 obtain ⟨XB, hXB⟩ := qx (w.heap.size)
 have HXB : Hi (w.heap.size = XB) := hdd hXB.symm
 have HRX : Hi (w.heap.size + 1 ≠ XB) := hdd (by omega)
 have HX2 : Hi (w2.heap[XB]? = some (.cells #[.int .i64 (n : Int), .slice fa fn fc, .slice ga gn gc, .slice ra rn rc] 26 (0, 0))) := hdd (by rw [hXB]; exact (hb2.block _ (lt_of_block HX1.o)).trans HX1.o)
 rw [← hXB]
 have HON := hdd (w6q w2 XB (Value.slice a2 rn c2))
 have HG3 : Hi ((w2.setCell ⟨XB, 3, none⟩ (Value.slice a2 rn c2)).heap[XB]? = some (.cells #[.int .i64 (n : Int), .slice fa fn fc, .slice ga gn gc, .slice a2 (rn + 0) c2] 26 (0, 0))) := hdd (a4q HX2.o)
 have HL3 : Hi (LRo (rkI N) (w2.setCell ⟨XB, 3, none⟩ (Value.slice a2 rn c2)) 0 (.slice a2 (rn + 0) c2) (rs ++ m4q n l bs 0)) := hdd (by
  rw [show m4q n l bs 0 = [] from rfl, List.append_nil]
  exact hl2.otherB (c0q N) HNE0.o HX2.o (by decide) u1q k3q HON.o)
 have HR3 := hdd ((HON.o.block _ HRX.o).trans ((hb2.block _ (lt_of_block HO1.o)).trans HO1.o))
 have HZ3 := hdd (q4q (q0q HB1.o hb2) HON.o (Nat.le_of_eq HXB.o))
 have HS3 : Hi (w.heap.size ≤ (w2.setCell ⟨XB, 3, none⟩ (Value.slice a2 rn c2)).heap.size) := hdd (by rw [HON.o.size]; have := hb2.size; have := HS1.o; omega)
 have HS4 : Hi (w.heap.size + 2 ≤ (w2.setCell ⟨XB, 3, none⟩ (Value.slice a2 rn c2)).heap.size) := hdd (by rw [HON.o.size]; have := hb2.size; have := HS1.o; omega)
 have HK3 : Hi (∀ k, (Value.slice a2 (rn + 0) c2).ownBlock = some k → w.heap.size + 2 ≤ k) := hdd (fun k hk => by have h1 := hk2 k hk; have := HS1.o; omega)
 have g3 := q1q HX2.o 3 _ rfl _ qb
 have g4 := frozen_of_row _ _ 3 _ _ HX2.o
 clear hl2 hk2 hb2 hXB KC x3
 go_wp2_with fail
 clear g3 g4
 go_loopw [15] (fun iv wr => ∃ (i : Nat) (oa : Option Addr) (oc : Nat), i ≤ m ∧ iv = .int .i64 i ∧ Hi (wr.heap[XB]? = some (.cells #[.int .i64 (n : Int), .slice fa fn fc, .slice ga gn gc, .slice oa (rn + i) oc] 26 (0, 0))) ∧ Hi (LRo (rkI N) wr 0 (.slice oa (rn + i) oc) (rs ++ m4q n l bs i)) ∧ Hi (wr.heap[w.heap.size + 1]? = some (.cells #[.int .i64 0, .slice none 0 0, .slice none 0 0, .slice none 0 0] 26 (0, 0))) ∧ Hi (Below w.heap.size w wr) ∧ Hi (w.heap.size ≤ wr.heap.size) ∧ Hi (w.heap.size + 2 ≤ wr.heap.size) ∧ Hi (∀ k, (Value.slice oa (rn + i) oc).ownBlock = some k → w.heap.size + 2 ≤ k)) (fun iv _ => m - (intOf iv).toNat)
 case atStart => exact ⟨0, _, _, Nat.zero_le _, rfl, HG3, HL3, HR3, HZ3, HS3, HS4, HK3⟩
 case round =>
  obtain ⟨i, oa, oc, hi, rfl, hG, hO, hR, hZ, hsz, hsz2, hob⟩ := hrel
  obtain ⟨wo, rfl⟩ : ∃ wo : World, wo = wr := ⟨_, rfl⟩
  by_cases hin : i < m
  ·
   have t0 : decide ((i : Int) < (m : Int)) = true := by simp; omega
   obtain ⟨z, Bv, offv, hz, ha, hzb, hcv⟩ := HI.o.at (i := i) (by have := HM.o; omega)
   obtain ⟨bz, Bb, offb, hbz, hab, hzb2, hcb⟩ := HIB.o.at (i := i) (by have := HM.o; omega)
   obtain ⟨v, rfl⟩ : ∃ v : Nat, z = (v : Int) := ⟨z.toNat, by have := (HOKV.o i z hz).1; omega⟩
   have hvn : v < n := by have := (HOKV.o i _ hz).2; omega
   subst ha
   subst hab
   have e1 := hcv wo hZ.o
   have HCBW : Hi (∀ w', Below w.heap.size w w' → w'.cell? ⟨Bb, offb + i, none⟩ = some (.int .i64 bz)) := hdd hcb
   have HCB : Hi (∀ w', Below wo.heap.size wo w' → w'.cell? ⟨Bb, offb + i, none⟩ = some (.int .i64 bz)) := hdd (fun w' hb => hcb w' (q0q hZ.o hb))
   obtain ⟨bq, hbq⟩ := qx (y4j bz)
   have HBQL : Hi (j5q bq ≤ N) := hdd (by rw [hbq]; exact HBITL.o i bz hbz)
   have HBR : Hi ((e9q n l bs i).1 = x5q n v ∧ (e9q n l bs i).2.2 = bq) := hdd (by
    unfold e9q
    rw [hz, hbz, hbq]
    exact ⟨rfl, rfl⟩)
   have KA := hdd (fun w' => v4v (w := w') (s := 0) hvn hn hbq.symm hzb2.1 hzb2.2)
   have RY := hdd (q1q hG.o)
   have hz : Below wo.heap.size wo wo.drew := q5q qb 1
   clear hcv hcb hbz hbq
   go_wp2_with fail
   refine h2q 13 (fun w' => w'.cell? ⟨XB, 0, none⟩ = some (.int .i64 (n : Nat)) ∧ w'.cell? ⟨XB, 3, none⟩ = some (.slice oa (rn + i) oc) ∧ w'.cell? ⟨Bb, offb + i, none⟩ = some (.int .i64 bz)) (by kernel_rfl) (by (try dsimp only); refine ⟨?_, ?_, ?_⟩ <;> (first | exact RY.o _ _ rfl _ (by assumption) | exact HCB.o _ (by assumption))) (fun hHeld => ?_)
   refine tt 0 ?_
   refine tt 1 ?_
   refine tt 2 ?_
   refine tt 3 ?_
   refine tt 4 ?_
   refine tt 5 ?_
   refine tt 6 ?_
   refine tt 7 ?_
   refine tt 8 ?_
   refine y6q (rs := [9]) (by kernel_rfl) (by simp) (z0q.cons (o := _) rfl (fun K hK => ?_) z0q.nil)
   go_simp
   refine (KA.o _).mono ?_
   rintro en7 w7 ⟨⟨ar7, bb7, a7, n7, c7, i7, j7, k7, rfl, hl7, hf7, hn7⟩, hb7⟩
   have hn7 : ∀ k, (Value.slice ar7 n n).ownBlock = some k → wo.heap.size ≤ k := fun k hk => Nat.le_trans hz.size (hn7 k hk)
   have hlk7 : ∀ k, (Value.slice ar7 n n).ownBlock = some k → k < w7.heap.size := fun k hk => hl7.lt9 k hk
   have hz := q0q hz hb7
   try go_wp2_with fail
   refine hK.out _ _ (fun _ => ?_) (fun hHeld => ?_)
   ·
    (try dsimp only); refine ⟨?_, ?_, ?_⟩ <;> (first | exact RY.o _ _ rfl _ (by assumption) | exact HCB.o _ (by assumption))
   replace hHeld := hHeld (by decide)
   clear hK K
   try refine lyt ?_
   refine y6q (rs := [10]) (by kernel_rfl) (by simp) (z0q.cons (o := _) rfl (fun K hK => ?_) z0q.nil)
   go_simp
   obtain ⟨w8, hw8⟩ : ∃ w', w' = w7.alloc (Obj.cells #[.slice ar7 n n, .int .i64 0, .bool bb7, .slice a7 n7 c7, .slice i7 j7 k7] 45) := ⟨_, rfl⟩
   have hb8 : Below w7.heap.size w7 w8 := by rw [hw8]; exact (qb).alloc qm _
   have hr8 : w8.heap[w7.heap.size]? = some (.cells #[.slice ar7 n n, .int .i64 0, .bool bb7, .slice a7 n7 c7, .slice i7 j7 k7] 45 (0, 0)) := by rw [hw8]; exact heap_alloc_new w7 _
   rw [← hw8]
   clear hw8
   have hz := q0q hz hb8
   have hl8 : z1q N w8 (.slice ar7 n n) (x5q n v) := z1q.below (g2q.list hl7 (j8k HN2.o.1) HN2.o.2) hb8
   have hf8 : v6q N w8 (.agg #[.bool bb7, .slice a7 n7 c7, .slice i7 j7 k7]) bq := v6q.below (a8q hf7 HBQL.o HN2.o.2) hb8
   refine hK.out _ _ (fun _ => ?_) (fun hHeld => ?_)
   ·
    (try dsimp only); refine ⟨?_, ?_, ?_⟩ <;> (first | exact RY.o _ _ rfl _ (by assumption) | exact HCB.o _ (by assumption))
   replace hHeld := hHeld (by decide)
   clear hK K
   try refine lyt ?_
   refine y6q (rs := [11]) (by kernel_rfl) (by simp) (z0q.cons (o := _) rfl (fun K hK => ?_) z0q.nil)
   rw [if_pos (by kernel_rfl)]
   have HO8 := hO.o.below hz
   have hlt8 := hO.o.lt
   refine l7q (K := (rkI N)) _ _ rfl 0 (Value.slice oa (rn + i) oc) (rs ++ m4q n l bs i) rfl HO8 w7.heap.size 1 ar7 n n bb7 a7 i7 n7 c7 j7 k7 (e9q n l bs i) rfl hr8 (by rw [show (e9q n l bs i).1 = x5q n v from HBR.o.1]; exact hl8) (by rw [show (e9q n l bs i).2.2 = bq from HBR.o.2]; exact hf8) (fun k hk => ⟨fun e => by have h1 := hn7 k hk; have h2 := (hlt8 k e).2; omega, Nat.lt_of_lt_of_le (hlk7 k hk) hb8.size, Nat.zero_le _⟩) (by rw [List.length_append, r6q]; have := HRN.o; omega) (Nat.zero_le _) ?_
   intro v9 w9 hown9 hg9 hbel9 hat9
   rw [List.append_assoc, z9v] at hown9
   have HX9 := (hg9.block _ (Nat.lt_of_lt_of_le (lt_of_block hG.o) hz.size) (fun e => by have h1 := hob.o _ e.symm; have h2 := HXB.o; omega)).trans ((hz.block _ (lt_of_block hG.o)).trans hG.o)
   have HR9 := (hg9.block _ (Nat.lt_of_lt_of_le (lt_of_block hR.o) hz.size) (fun e => by have h1 := hob.o _ e.symm; have h2 := HXB.o; omega)).trans ((hz.block _ (lt_of_block hR.o)).trans hR.o)
   have HW9 : Below w.heap.size w w9 := (q0q hZ.o hz).grown hg9 (Nat.le_trans hsz.o hz.size) (fun k hk => by have := hob.o k hk; omega)
   have HS9 := Nat.le_trans hsz.o (Nat.le_trans hz.size hg9.size)
   obtain ⟨na, nc, hv9⟩ := hown9.form
   rw [List.length_append, r6q, HRN.o, ← Nat.add_assoc] at hv9
   subst hv9
   have HOB9 : ∀ k, (Value.slice na (rn + i + 1) nc).ownBlock = some k → w.heap.size + 2 ≤ k := fun k hk => by
    rcases hat9 with e4 | e4
    ·
     rw [e4] at hk; exact hob.o k hk
    ·
     rw [e4] at hk
     have h1 := Option.some.inj hk
     have h2 := Nat.le_trans hsz2.o hz.size
     omega
   have HS29 := Nat.le_trans hsz2.o (Nat.le_trans hz.size hg9.size)
   refine hK.out _ _ (fun _ => ?_) (fun hHeld => ?_)
   ·
    (try dsimp only); refine ⟨?_, ?_, ?_⟩ <;> (first | exact q1q HX9 0 _ rfl _ qb | exact q1q HX9 3 _ rfl _ qb | exact HCBW.o _ HW9)
   replace hHeld := hHeld (by decide)
   clear hK K
   try refine lyt ?_
   refine tt 12 ?_
   refine y6q (rs := [13]) (by kernel_rfl) (by simp) (z0q.cons (o := _) rfl (fun K hK => ?_) z0q.nil)
   have g3 := q1q HX9 3 _ rfl _ qb
   have g4 := frozen_of_row _ _ 3 _ _ HX9
   go_simp
   refine hK.out _ _ (fun h => absurd rfl h) (fun _ => ?_)
   clear hK K
   try refine lyt ?_
   refine d3q (by kernel_rfl) ?_ _
   have HON := w6q w9 XB (Value.slice na (rn + i + 1) nc)
   have HG10 := hdd (a4q HX9 (v := Value.slice na (rn + i + 1) nc))
   have HO10 := hdd (hown9.otherB (c0q N) (HNEB.o (i + 1)) HX9 (by decide) u1q k3q HON)
   have HR10 := hdd ((HON.block _ (fun e => HRX.o e)).trans HR9)
   have HZ10 := hdd (q4q HW9 HON (Nat.le_of_eq HXB.o))
   have HS10 : Hi (w.heap.size ≤ (w9.setCell ⟨XB, 3, none⟩ (Value.slice na (rn + i + 1) nc)).heap.size) := hdd (by rw [HON.size]; exact HS9)
   have HS20 : Hi (w.heap.size + 2 ≤ (w9.setCell ⟨XB, 3, none⟩ (Value.slice na (rn + i + 1) nc)).heap.size) := hdd (by rw [HON.size]; exact HS29)
   have HOB10 := hdd HOB9
   clear HON HX9 HW9 HS9 HR9 HOB9 hown9
   go_wp2_with fail
   go_roundw
   case rel => exact ⟨i + 1, _, _, by omega, by go_num, HG10, HO10, HR10, HZ10, HS10, HS20, HOB10⟩
   case measure => simp [intOf]; omega
  ·
   have t0 : decide ((i : Int) < (m : Int)) = false := by simp; omega
   obtain rfl : i = m := by omega
   have hR9 : wo.heap[XB + 1]? = some (.cells #[.int .i64 0, .slice none 0 0, .slice none 0 0, .slice none 0 0] 26 (0, 0)) := by rw [← HXB.o]; exact hR.o
   have g0 := q1q hG.o 0 _ rfl _ qb
   have g1 := q1q hG.o 1 _ rfl _ qb
   have g2 := q1q hG.o 2 _ rfl _ qb
   have g3 := q1q hG.o 3 _ rfl _ qb
   go_wp2_with ((with_reducible refine j9q ?_); refine q6q rfl _ _ _ rfl (XB + 1) rfl _ rfl _ _ hR9 g8q rfl b9q ?_; intro w5 h5 hon5; refine y0q ?_)
   refine z2q ?_
   have HO5 := hO.o.otherB (c0q N) (HNEB.o i) hR9 (by decide) u1q k3q hon5
   go_wp2_with fail
   exact bodyPost_ret (results_cell_row rfl _ _ (XB + 1) _ _ _ _ rfl h5 Tryz.underlying26 rfl g8q) rfl ⟨⟨_, _, rfl, HO5⟩, q4q hZ.o hon5 (by have := HXB.o; omega)⟩
end Go.Proofs.YtkkbmlkpgknhgaaGreat
