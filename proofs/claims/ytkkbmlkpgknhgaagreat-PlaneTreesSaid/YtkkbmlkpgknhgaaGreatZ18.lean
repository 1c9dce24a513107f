import Derived.Test.YtkkbmlkpgknhgaaGreatZ17
import Derived.Test.YtkkbmlkpgknhgaaGreatZ16
import Derived.Deep.RegionHeld3
import Derived.Deep.DrawnRows
set_option maxRecDepth 100000
set_option maxHeartbeats 16000000
namespace Go.Proofs.YtkkbmlkpgknhgaaGreat
open Go.RowKit
variable {B M N base c g i j m n : Nat} {K : t1q} {P : Pm} {a : Option Addr} {l : List Int} {q : Rat} {qs : List Rat} {v : Value} {w w' : World}
def c9q (M : Nat) (P : Pm) : Prop := (∀ i, i < P.goal.length → j5q (q9q P.goal i) ≤ M) ∧ ∀ (i : Nat) (r : List Rat × Int × Rat), P.rows[i]? = some r → (∀ j, j < r.1.length → j5q (q9q r.1 j) ≤ M) ∧ j5q r.2.2 ≤ M
theorem z1q.lens (h : z1q N w (.slice a n c) qs) : ∀ j, j < n → j5q (q9q qs j) ≤ 2 * N + 1 := fun j hj => by
 obtain ⟨q, B', off', b', a4, n4, c4, a5, n5, c5, hq, -, -, hf⟩ := h.at hj
 rw [v9q hq]
 exact hf.len
theorem y9q.small (h : y9q N w v P) : c9q (2 * N + 1) P := by
 obtain ⟨fa, fc, ga, gc, ra, rc, -, -, -, -, hG, hR⟩ := h
 refine ⟨fun i hi => hG.lens i hi, fun i r hr => ?_⟩
 obtain ⟨r', B, off, a1, c1, b, a2, n2, c2, a3, n3, c3, hr', -, hlr, hf, -⟩ := hR.at (i := i) (List.getElem?_eq_some_iff.1 hr).1
 rw [hr] at hr'
 cases hr'
 exact ⟨fun j hj => hlr.lens j hj, hf.len⟩
theorem g2q.list (h : g2q w v qs) (hl : ∀ j, j < qs.length → j5q (q9q qs j) ≤ M) (hM : M ≤ 4096) : z1q M w v qs := by
 obtain ⟨B, rfl, h⟩ := h
 exact h.list rfl (fun i hi => ⟨(q0k (hl i hi)).1, (q0k (hl i hi)).2, Nat.le_trans (hl i hi) hM⟩)
theorem r3q.below (h : r3q K w base v P) (hb : Below w.heap.size w w') : r3q K w' base v P := by
 obtain ⟨fa, fc, ga, gc, ra, rc, mid, hv, hB, hG, hR, h1, h2, h3, h4⟩ := h
 exact ⟨fa, fc, ga, gc, ra, rc, mid, hv, hB.below hb, K.belowL hG hb, hR.below hb, h1, h2, h3, Nat.le_trans h4 hb.size⟩
theorem r3q.read (h : r3q rkV w base v P) (hs : c9q M P) (hM : M ≤ 4096) (hrb : j7q P = true) (hv2 : P.vars ≤ 1000) : y9q M w v P := by
 obtain ⟨fa, fc, ga, gc, ra, rc, mid, hv, hB, hG, hR, h1, h2, h3, h4⟩ := h
 have hg := j2q hrb
 refine ⟨fa, fc, ga, gc, ra, rc, hv, by omega, by omega, hB, g2q.list hG hs.1 hM, fun i r hr => ?_⟩
 obtain ⟨r', B, off, ar, nr, cr, b, a1, n1, c1, a2, n2, c2, hr', ha, hc, hl, hf, -⟩ := hR.at (i := i) (List.getElem?_eq_some_iff.1 hr).1
 rw [hr] at hr'
 cases hr'
 obtain ⟨k0, k1, k2, k3, k4⟩ := hc w qb
 have hl' : g2q w (.slice ar nr cr) r.1 := hl
 obtain ⟨ar', hq⟩ := hl'.form
 simp only [Value.slice.injEq] at hq
 obtain ⟨rfl, rfl, rfl⟩ := hq
 have hsn := q2j hrb hr
 exact ⟨B, off, ha, ar, _, b, a1, n1, c1, a2, n2, c2, k0, k1, k2, k3, k4, hl'.list (hs.2 i r hr).1 hM, a8q hf (hs.2 i r hr).2 hM, by omega, by omega⟩
theorem r3q.readF (h : r3q (rkF M) w base v P) (hrb : j7q P = true) (hv2 : P.vars ≤ 1000) : y9q M w v P := by
 obtain ⟨fa, fc, ga, gc, ra, rc, mid, hv, hB, hG, hR, h1, h2, h3, h4⟩ := h
 have hg := j2q hrb
 obtain ⟨bg, hG⟩ := hG
 refine ⟨fa, fc, ga, gc, ra, rc, hv, by omega, by omega, hB, hG.list, fun i r hr => ?_⟩
 obtain ⟨r', B, off, ar, nr, cr, b, a1, n1, c1, a2, n2, c2, hr', ha, hc, hl, hf, -⟩ := hR.at (i := i) (List.getElem?_eq_some_iff.1 hr).1
 rw [hr] at hr'
 cases hr'
 obtain ⟨k0, k1, k2, k3, k4⟩ := hc w qb
 obtain ⟨bl, hl'⟩ := hl
 obtain ⟨ar', cr', hq⟩ := hl'.form
 simp only [Value.slice.injEq] at hq
 obtain ⟨rfl, rfl, rfl⟩ := hq
 have hsn := q2j hrb hr
 exact ⟨B, off, ha, ar, _, b, a1, n1, c1, a2, n2, c2, k0, k1, k2, k3, k4, hl'.list, hf, by omega, by omega⟩
theorem LRo.own {off : Nat} {rs : List (List Rat × Int × Rat)} (h : LRo K w base (.slice (some ⟨B, off, none⟩) n c) rs) : off = 0 ∧ n = rs.length ∧ base ≤ B ∧ ∃ cur, w.heap[B]? = some (.cells cur 45 (0, 0)) ∧ rs.length * 5 ≤ cur.size ∧ ∀ (j k : Nat), cur[j]? ≠ some (U k) := by
 obtain ⟨xs, ⟨hxl, ho⟩, hcl, -⟩ := h
 rcases ho with ⟨h0, -⟩ | ⟨g, cap, cur, hv, hbg, hh, hnc, hcm, hcs, htake⟩
 ·
  cases h0
 ·
  simp only [Value.slice.injEq, Option.some.injEq, Addr.mk.injEq] at hv
  obtain ⟨⟨rfl, rfl, -⟩, hn, rfl⟩ := hv
  have h9 : rs.length * 5 ≤ c * 5 := Nat.mul_le_mul_right _ hnc
  refine ⟨rfl, hn, hbg, cur, hh, by omega, fun j k e => ?_⟩
  exact hcl B cur _ (0, 0) rfl hh (U k) (Array.mem_toList_iff.2 (Array.mem_of_getElem? e)) k rfl
end Go.Proofs.YtkkbmlkpgknhgaaGreat
namespace Go.Proofs.YtkkbmlkpgknhgaaGreat
open Go.RowKit
attribute [local go_sem ↓] Go.wp_at_zero Go.wp_at_succ
variable {B M N base c g i j m n : Nat} {K : t1q} {P : Pm} {a : Option Addr} {l : List Int} {q : Rat} {qs : List Rat} {v : Value} {w w' : World}
theorem z8v (h : (rkF M).L w v qs) : ∀ g, v.ownBlock = some g → ∃ cs, w.heap[g]? = some (.cells cs 43 (0, 0)) := by
 obtain ⟨b, xs, ⟨-, ho⟩, -⟩ := h
 intro g hg
 rcases ho with ⟨rfl, -⟩ | ⟨g', cap', cur', rfl, -, hh, -⟩
 ·
  simp [Value.ownBlock] at hg
 ·
  have h9 : some g' = some g := hg
  obtain rfl := Option.some.inj h9
  exact ⟨cur', hh⟩
theorem j3z (h : v6q N w v q) : ∃ a n c a' n' c' b, v = .agg #[.bool b, .slice a n c, .slice a' n' c'] := by
 obtain ⟨b, l, m, ⟨u, d, rfl, hu, hd⟩, -⟩ := h
 obtain ⟨a1, c1, rfl, -⟩ := hu
 obtain ⟨a2, c2, rfl, -⟩ := hd
 exact ⟨_, _, _, _, _, _, _, rfl⟩
theorem z2w {x : Value} {P : Rat} (hx : v6q N w x P) (hn : N ≤ 2048) : Calls Tryz.prog 59 #[x] w (h0q w P) := by
 obtain ⟨b, l, m, h1, rfl, hl1, hm1⟩ := hx
 exact e0q h1 (by omega)
theorem y4x (hx : z1q N w v qs) (hl : ∀ j, j < qs.length → j5q (q9q qs j) ≤ M) (hN : N ≤ 1000) (hM : M ≤ 1100) (hn : qs.length ≤ 1000) :
  Calls Tryz.prog 58 #[v] w fun e w' => (∃ r, e = .returned r ∧ LFs M w' w.heap.size r (qs)) ∧ Below w.heap.size w w' := by
 obtain ⟨a, c, rfl, -⟩ := id hx
 have HX := hdd hx
 have HLL := hdd hl
 obtain ⟨n, hnn⟩ := qx (qs.length)
 obtain ⟨ps, hps⟩ := qx (qs)
 have HPL : Hi (ps.length = n) := hdd (by rw [hps, hnn])
 have HPE : Hi (∀ (i : Nat) (q : Rat), qs[i]? = some q → ps[i]? = some (q)) := hdd (fun i q h => by rw [hps]; exact h)
 rw [← hnn] at HX HLL hn ⊢
 rw [← hps]
 clear hx hl hps hnn
 go_enter Tryz.func58, Tryz.ntmps58
 go_wp2_with fail
 go_loopw [3, 8] (fun lv iv wr => ∃ (i : Nat) (oa : Option Addr) (oc : Nat), i ≤ n ∧ iv = .int .i64 i ∧ lv = .slice oa i oc ∧ Hi (LFs M wr w.heap.size (.slice oa i oc) (ps.take i)) ∧ Hi (Below w.heap.size w wr)) (fun _ iv _ => n - (intOf iv).toNat)
 case atStart => exact ⟨0, none, 0, Nat.zero_le _, rfl, rfl, hdd (LFs.nil _ _ _), hdd qb⟩
 case round =>
  obtain ⟨i, oa, oc, hi, rfl, rfl, hO, hZ⟩ := hrel
  obtain ⟨wo, rfl⟩ : ∃ wo : World, wo = wr := ⟨_, rfl⟩
  by_cases hin : i < n
  ·
   have t0 : decide ((i : Int) < (n : Int)) = true := by simp; omega
   obtain ⟨q, B, off, b, a1, n1, c1, a2, n2, c2, hq, hB, hcB, hfB⟩ := HX.o.at hin
   subst hB
   have HPI := hdd (HPE.o i q hq)
   have HLQ : Hi (j5q q ≤ M) := hdd (by rw [← v9q hq]; exact HLL.o i hin)
   have HFB := hdd hfB
   obtain ⟨k0, k1, k2⟩ := hcB wo hZ.o
   clear hq hcB hfB
   obtain ⟨p, hp⟩ := qx (q)
   rw [← hp] at HPI
   have HPQ := hdd hp
   have HLP : Hi (j5q p ≤ M) := hdd (by rw [hp]; exact HLQ.o)
   have HTK : Hi (ps.take i ++ [p] = ps.take (i + 1) ∧ (ps.take i).length = i ∧ (ps.take (i + 1)).length = i + 1) := hdd (by
    have h9 : i < ps.length := by have := HPL.o; omega
    have h8 := HPI.o
    rw [List.getElem?_eq_getElem h9] at h8
    simp only [Option.some.injEq] at h8
    exact ⟨by rw [List.take_succ_eq_append_getElem h9, h8], by rw [List.length_take]; omega, by rw [List.length_take]; omega⟩)
   clear hp
   go_wp2_with ((with_reducible refine j9q ?_); refine q6q rfl _ _ _ rfl wo.heap.size rfl _ rfl _ _ (heap_alloc_new _ _) v0q rfl x3q ?_; intro w4 h4 hon4; refine y0q ?_)
   have hb4 : Below wo.heap.size wo w4 := q4q ((qb).alloc qm _) hon4 qm
   have HB4 := hdd hb4
   have HZ4 := hdd (q0q hZ.o hb4)
   have RY := hdd (q1q h4)
   have hb5 := Below.refl w4.heap.size w4
   have y0 := RY.o 0 _ rfl _ hb5
   have y1 := RY.o 1 _ rfl _ hb5
   have y2 := RY.o 2 _ rfl _ hb5
   have KF := hdd (z2w (HFB.o.below HZ4.o) (by omega))
   clear h4 hon4 hb4 k0 k1 k2 hb5
   refine z2q ?_
   go_wp2_with fail
   refine KF.o.mono ?_
   rintro en5 w5 ⟨⟨v5, rfl, f5⟩, hb5⟩
   clear y0 y1 y2
   rw [← HPQ.o] at f5
   have HB5 := hdd (q0q HB4.o hb5)
   obtain ⟨a5, n5, c5, i5, j5, k5, hq5⟩ := q8q f5
   subst hq5
   have HF5 := hdd (a8q f5 HLP.o (by omega))
   obtain ⟨bq, hbq⟩ := qx (decide (p.num < 0))
   rw [← hbq] at HF5
   rw [← hbq]
   clear hbq f5 hb5
   obtain ⟨w6, hw6⟩ := qx (w5.alloc (Obj.cells #[.bool bq, .slice a5 n5 c5, .slice i5 j5 k5] 43))
   have HB6 : Hi (Below w5.heap.size w5 w6) := hdd (by rw [hw6]; exact (qb).alloc qm _)
   have HR6 : Hi (w6.heap[w5.heap.size]? = some (.cells #[.bool bq, .slice a5 n5 c5, .slice i5 j5 k5] 43 (0, 0))) := hdd (by rw [hw6]; exact heap_alloc_new w5 _)
   have HZ6 := hdd (q0q HB5.o HB6.o)
   have HO6 := hdd (hO.o.below HZ6.o)
   have HF6 := hdd (HF5.o.below HB6.o)
   have hsz6 : Hi (w.heap.size ≤ w6.heap.size) := hdd (by have h1 := hZ.o.size; have h2 := HZ6.o.size; omega)
   go_wp2_with (at_builtin; rw [← hw6]; refine q7x rfl _ _ rfl M w.heap.size (Value.slice oa i oc) (ps.take i) rfl HO6.o w5.heap.size 1 bq a5 i5 n5 c5 j5 k5 p rfl HR6.o HF6.o (by have := HTK.o.2.1; omega) hsz6.o ?_; intro v7 w7 hown7 hgrow7 hbel7 hat7; refine y0q ?_)
   rw [HTK.o.1] at hown7
   have HO7 := hdd hown7
   have HB7 := hdd (hbel7 w (q0q hZ.o HZ6.o))
   obtain ⟨ga7, gc7, hgv⟩ := hown7.form
   rw [HTK.o.2.2] at hgv
   subst hgv
   clear hown7 hgrow7 hbel7 hat7 hw6
   refine z2q ?_
   go_wp2_with fail
   go_roundw
   case rel => exact ⟨i + 1, _, _, by omega, by go_num, by go_num, HO7, HB7⟩
   case measure => simp [intOf]; omega
  ·
   have t0 : decide ((i : Int) < (n : Int)) = false := by simp; omega
   have HE : Hi (LFs M wo w.heap.size (.slice oa i oc) ps) := hdd (by
    have h9 := hO.o
    rw [List.take_of_length_le (by have := HPL.o; omega)] at h9
    exact h9)
   go_wp2_with fail
   go_ret
   exact ⟨⟨_, rfl, HE.o⟩, hZ.o⟩
theorem y7w (h : y9q N w v P) (hrb : j7q P = true) (hs : c9q M P) (hN : N ≤ 1000) (hM : M ≤ 1100) (hv1 : P.vars ≤ 160) (hr1 : P.rows.length ≤ 400) :
  Calls Tryz.prog 24 #[v] w fun e w' => (∃ r, e = .returned r ∧ r3q (rkF M) w' w.heap.size r P) ∧ Below w.heap.size w w' := by
 have HRB := hdd hrb
 have HSP := hdd hs
 clear hs
 have HP := hdd h
 obtain ⟨fa, fc, ga, gc, ra, rc, rfl, -, -, hB, hG, hR⟩ := h
 have HBO := hdd hB
 have HR := hdd hR
 obtain ⟨z, hz⟩ := qx (P.vars)
 obtain ⟨fn, hfn⟩ := qx (P.free.length)
 obtain ⟨gn, hgn⟩ := qx (P.goal.length)
 obtain ⟨rn, hrn⟩ := qx (P.rows.length)
 rw [← hz] at HP ⊢
 rw [← hfn] at HP ⊢
 rw [← hgn] at HP hG ⊢
 rw [← hrn] at HP ⊢
 have HG := hdd hG
 have HEQ := hdd (And.intro hz (And.intro hfn (And.intro hgn hrn)))
 have HZF : Hi (z = (gn : Int) ∧ fn = gn ∧ 0 < gn ∧ gn ≤ 160 ∧ rn ≤ 400) := hdd (by have := j2q hrb; omega)
 obtain ⟨hzg, hfg, hg0, hg160, hr400⟩ := HZF.o
 clear hB hR hG hz hfn hgn hrn hrb hv1 hr1
 subst hfg
 subst hzg
 obtain ⟨w1, hw1, HB1, HX1, HO1⟩ := al2 w #[.int .i64 (fn : Int), .slice fa fn fc, .slice ga fn gc, .slice ra rn rc] 26 #[.int .i64 0, .slice none 0 0, .slice none 0 0, .slice none 0 0] 26
 have HW1 := hdd hw1.symm
 clear hw1
 have RX := hdd (q1q HX1.o)
 have hb1 := Below.refl w1.heap.size w1
 obtain ⟨x0, x1, x2, x3⟩ := qz RX.o hb1
 have KC := hdd (fun w' (hb : Below w.heap.size w w') => y4x (w := w') (M := M) (HG.o.below hb) HSP.o.1 hN hM (by have := HEQ.o; omega))
 go_enter Tryz.func24, Tryz.ntmps24
 go_wp2_with fail
 rw [HW1.o]
 go_cut [3] (fun sv wc => ∃ (G : Nat) (ga' : Option Addr) (gc' : Nat), sv = .pointer (some ⟨G, 0, none⟩) ∧ Hi (wc.heap[G]? = some (.cells #[.int .i64 (fn : Int), .slice fa fn fc, .slice ga' fn gc', .slice none 0 0] 26 (0, 0))) ∧ Hi ((rkF M).L wc (.slice ga' fn gc') P.goal) ∧ Hi (∀ g, (Value.slice ga' fn gc').ownBlock = some g → g ≠ G ∧ g < wc.heap.size) ∧ Hi (∀ g, (Value.slice ga' fn gc').ownBlock = some g → w1.heap.size ≤ g) ∧ Hi (Below w1.heap.size w1 wc) ∧ Hi (w1.heap.size ≤ G))
 case first =>
  have hz : Below w1.heap.size w1 w1.drew := q5q qb 1
  refine h2q 9 (fun w' => w'.cell? ⟨w.heap.size, 0, none⟩ = some (.int .i64 (fn : Int)) ∧ w'.cell? ⟨w.heap.size, 1, none⟩ = some (.slice fa fn fc) ∧ w'.cell? ⟨w.heap.size, 2, none⟩ = some (.slice ga fn gc) ∧ w'.cell? ⟨w.heap.size, 3, none⟩ = some (.slice ra rn rc)) (by kernel_rfl) (by (try dsimp only); refine ⟨?_, ?_, ?_, ?_⟩ <;> (first | exact RX.o _ _ rfl _ (by assumption))) (fun hHeld => ?_)
  refine tt 0 ?_
  refine tt 1 ?_
  refine tt 2 ?_
  refine tt 3 ?_
  refine tt 4 ?_
  refine tt 5 ?_
  refine y6q (rs := [6, 8]) (by kernel_rfl) (by simp) ?_
  refine z0q.cons (o := _) rfl (fun K hK => ?_) ?_
  ·
   go_simp
   refine (KC.o _ (q0q HB1.o hz)).mono ?_
   rintro en6 w6 ⟨⟨r6, rfl, hl6⟩, hb6⟩
   obtain ⟨ga6, gc6, hq6⟩ := hl6.form
   rw [← HEQ.o.2.2.1] at hq6
   subst hq6
   have hnb : ∀ g, (Value.slice ga6 fn gc6).ownBlock = some g → w1.heap.size ≤ g := fun g hg => Nat.le_trans hz.size (hl6.lt g hg).1
   have hz := q0q hz hb6
   try go_wp2_with fail
   refine hK.out _ _ (fun _ => ?_) (fun hHeld => ?_)
   ·
    (try dsimp only); refine ⟨?_, ?_, ?_, ?_⟩ <;> (first | exact RX.o _ _ rfl _ (by assumption))
   replace hHeld := hHeld (by decide)
   clear hK K
   try refine lyt ?_
   refine tt 7 ?_
   refine y6q (rs := [8]) (by kernel_rfl) (by simp) ?_
   refine z0q.cons (o := _) rfl (fun K hK => ?_) z0q.nil
   rw [if_pos (by kernel_rfl)]
   refine r4q rfl ?_
   intro G wA HBX hG hbA
   have hne : ∀ g, (Value.slice ga6 fn gc6).ownBlock = some g → g ≠ G ∧ g < wA.heap.size := fun g hg => ⟨by have h1 := (hl6.lt g hg).2; omega, Nat.lt_of_lt_of_le (hl6.lt g hg).2 hbA.size⟩
   have hG := Nat.le_trans hz.size hG
   have hz := q0q hz hbA
   have hl6 := hl6.below hbA
   refine hK.out _ _ (fun _ => ?_) (fun hHeld => ?_)
   ·
    (try dsimp only); refine ⟨?_, ?_, ?_, ?_⟩ <;> (first | exact RX.o _ _ rfl _ (by assumption))
   replace hHeld := hHeld (by decide)
   clear hK K
   try refine lyt ?_
   refine y6q (rs := [9]) (by kernel_rfl) (by simp) (z0q.cons (o := _) rfl (fun K hK => ?_) z0q.nil)
   rw [if_pos (by kernel_rfl)]
   refine r5q _ _ rfl G rfl _ _ _ _ rfl _ HBX rfl b9q ?_
   intro w9 hr9 ho9
   refine hK.out _ _ (fun h => absurd rfl h) (fun _ => ?_)
   clear hK K
   try refine lyt ?_
   refine d3q (by kernel_rfl) ?_ _
   go_wp2_with fail
   go_meet
   exact ⟨G, _, _, rfl, hdd hr9, hdd ((rkF M).otherL ⟨_, hl6⟩ HBX u1q ho9 (fun g hg => (hne g hg).1)), hdd (fun g hg => ⟨(hne g hg).1, by rw [ho9.size]; exact (hne g hg).2⟩), hdd hnb, hdd (q4q hz ho9 hG), hdd hG⟩
  refine z0q.cons (o := _) rfl (fun K hK => ?_) z0q.nil
  rw [if_pos (by kernel_rfl)]
  refine r4q rfl ?_
  intro G wA HBX hG hbA
  have hG := Nat.le_trans hz.size hG
  have hz := q0q hz hbA
  refine hK.out _ _ (fun _ => ?_) (fun hHeld => ?_)
  ·
   (try dsimp only); refine ⟨?_, ?_, ?_, ?_⟩ <;> (first | exact RX.o _ _ rfl _ (by assumption))
  replace hHeld := hHeld (by decide)
  clear hK K
  try refine lyt ?_
  refine y6q (rs := [6]) (by kernel_rfl) (by simp) ?_
  refine z0q.cons (o := _) rfl (fun K hK => ?_) z0q.nil
  go_simp
  refine (KC.o _ (q0q HB1.o hz)).mono ?_
  rintro en6 w6 ⟨⟨r6, rfl, hl6⟩, hb6⟩
  obtain ⟨ga6, gc6, hq6⟩ := hl6.form
  rw [← HEQ.o.2.2.1] at hq6
  subst hq6
  have hne : ∀ g, (Value.slice ga6 fn gc6).ownBlock = some g → g ≠ G ∧ g < w6.heap.size := fun g hg => ⟨by have h1 := (hl6.lt g hg).1; have h2 := lt_of_block HBX; omega, (hl6.lt g hg).2⟩
  have hnb : ∀ g, (Value.slice ga6 fn gc6).ownBlock = some g → w1.heap.size ≤ g := fun g hg => Nat.le_trans hz.size (hl6.lt g hg).1
  have hz := q0q hz hb6
  have HBX := (hb6.block _ (lt_of_block HBX)).trans HBX
  try go_wp2_with fail
  refine hK.out _ _ (fun _ => ?_) (fun hHeld => ?_)
  ·
   (try dsimp only); refine ⟨?_, ?_, ?_, ?_⟩ <;> (first | exact RX.o _ _ rfl _ (by assumption))
  replace hHeld := hHeld (by decide)
  clear hK K
  try refine lyt ?_
  refine tt 7 ?_
  refine y6q (rs := [9]) (by kernel_rfl) (by simp) (z0q.cons (o := _) rfl (fun K hK => ?_) z0q.nil)
  rw [if_pos (by kernel_rfl)]
  refine r5q _ _ rfl G rfl _ _ _ _ rfl _ HBX rfl b9q ?_
  intro w9 hr9 ho9
  refine hK.out _ _ (fun h => absurd rfl h) (fun _ => ?_)
  clear hK K
  try refine lyt ?_
  refine d3q (by kernel_rfl) ?_ _
  go_wp2_with fail
  go_meet
  exact ⟨G, _, _, rfl, hdd hr9, hdd ((rkF M).otherL ⟨_, hl6⟩ HBX u1q ho9 (fun g hg => (hne g hg).1)), hdd (fun g hg => ⟨(hne g hg).1, by rw [ho9.size]; exact (hne g hg).2⟩), hdd hnb, hdd (q4q hz ho9 hG), hdd hG⟩
 case rest =>
  obtain ⟨w2, rfl⟩ : ∃ w8 : World, w8 = wc := ⟨_, rfl⟩
  obtain ⟨G, ga', gc', rfl, HG2, HL2, HLN, HLNB, HZ2, HGB⟩ := hcut
  obtain ⟨x0, x1, x2, x3⟩ := qz RX.o HZ2.o
  have HGL : Hi (G < w2.heap.size) := hdd (lt_of_block HG2.o)
  have HW12 : Hi (w1.heap.size ≤ w2.heap.size) := hdd HZ2.o.size
  have HPL : Hi (w.heap.size < w2.heap.size) := hdd (Nat.lt_of_lt_of_le (lt_of_block HX1.o) HZ2.o.size)
  have HFB : Hi (∀ x, fa = some x → x.block < w2.heap.size) := hdd (by
   obtain ⟨b0, B0, off0, -, ha0, hc0⟩ := HBO.o.at (i := 0) (by have := HEQ.o; omega)
   intro x hx
   rw [ha0] at hx
   cases hx
   exact Nat.lt_trans (g9q (hc0 _ qb)) HPL.o)
  have HLB : Hi (∀ g, (Value.slice ga' fn gc').ownBlock = some g → g < w2.heap.size) := hdd (fun g hg => (HLN.o g hg).2)
  have HLG : Hi (∀ g, (Value.slice ga' fn gc').ownBlock = some g → g ≠ G) := hdd (fun g hg => (HLN.o g hg).1)
  have HLNO : Hi (∀ g, (Value.slice ga' fn gc').ownBlock = some g → g ≠ w.heap.size + 1) := hdd (fun g hg => by have h1 := HLNB.o g hg; have h2 := lt_of_block HO1.o; omega)
  clear KC
  go_wp2_with fail
  go_loopw [17] (fun iv wr => ∃ (i : Nat) (oa : Option Addr) (oc : Nat), i ≤ rn ∧ iv = .int .i64 i ∧ Hi (wr.heap[G]? = some (.cells #[.int .i64 (fn : Int), .slice fa fn fc, .slice ga' fn gc', .slice oa i oc] 26 (0, 0))) ∧ Hi (LRo (rkF M) wr w2.heap.size (.slice oa i oc) (P.rows.take i)) ∧ Hi ((rkF M).L wr (.slice ga' fn gc') P.goal) ∧ Hi (Below w1.heap.size w1 wr) ∧ Hi (w2.heap.size ≤ wr.heap.size)) (fun iv _ => rn - (intOf iv).toNat)
  case atStart => exact ⟨0, none, 0, Nat.zero_le _, rfl, HG2, hdd (LRo.nil _ _ _), HL2, HZ2, hdd qm⟩
  case round =>
   obtain ⟨i, oa, oc, hi, rfl, hG, hO, HGL2, hZ, hsz⟩ := hrel
   obtain ⟨wo, rfl⟩ : ∃ wo : World, wo = wr := ⟨_, rfl⟩
   by_cases hin : i < rn
   ·
    have t5 : decide ((i : Int) < (rn : Int)) = true := by simp; omega
    obtain ⟨r, B, off, a1, c1, b, a2, n2, c2, a3, n3, c3, hr, ha, hlr, hfr, hs3, hs4, hcr⟩ := HR.o.at (i := i) (by have := HEQ.o; omega)
    subst ha
    obtain ⟨f0, f1, f2, f3, f4⟩ := hcr wo (q0q HB1.o hZ.o)
    have HTK : Hi (P.rows.take i ++ [r] = P.rows.take (i + 1) ∧ (P.rows.take i ++ [r]).length = i + 1) := hdd (by
     have h9 : i < P.rows.length := by have := HEQ.o; omega
     have h8 := hr
     rw [List.getElem?_eq_getElem h9] at h8
     simp only [Option.some.injEq] at h8
     exact ⟨by rw [List.take_succ_eq_append_getElem h9, h8], by rw [List.length_append, List.length_take]; simp; omega⟩)
    have HSR := hdd (HSP.o.2 i r hr)
    have hrl0 := r2q HRB.o hr
    obtain ⟨rl, hrl⟩ := qx (r.1.length)
    have HRL := hdd hrl
    have hrln : rl = fn := by have := HEQ.o; omega
    rw [← hrl] at f0 hlr
    obtain ⟨sn, hsn⟩ := qx (r.2.1)
    rw [← hsn] at f1
    have HSN := hdd hsn.symm
    obtain ⟨Q, hQ⟩ := qx (r.2.2)
    rw [← hQ] at hfr
    have HQ2 := hdd hQ.symm
    have HFR := hdd hfr
    have HLR := hdd hlr
    have HW := hdd (q0q HB1.o hZ.o)
    clear hcr hr hrl hlr hfr hs3 hs4 hrl0 hsn hQ
    subst hrln
    go_wp2_with ((with_reducible refine j9q ?_); refine q6q rfl _ _ _ rfl wo.heap.size rfl _ rfl _ _ (heap_alloc_new _ _) w0q rfl f0q ?_; intro w4 h4 hon4; refine y0q ?_)
    have hb4 : Below wo.heap.size wo w4 := q4q ((qb).alloc qm _) hon4 qm
    have HB4 := hdd hb4
    have HS4 : Hi (wo.heap.size ≤ w4.heap.size) := hdd hb4.size
    have HY4 := hdd h4
    have RY := hdd (q1q h4)
    have RG := hdd (q1q ((hb4.block _ (lt_of_block hG.o)).trans hG.o))
    have KR2 := hdd (fun w' (hb : Below w4.heap.size w4 w') => y4x (w := w') (M := M) (HLR.o.below (q0q HW.o (q0q HB4.o hb))) HSR.o.1 hN hM (by have := HRL.o; omega))
    have KF2 := hdd (fun w' (hb : Below w4.heap.size w4 w') => z2w (HFR.o.below (q0q HW.o (q0q HB4.o hb))) (by omega))
    have HLQ : Hi (j5q Q ≤ M) := hdd (by rw [← HQ2.o]; exact HSR.o.2)
    clear h4 hon4 hb4 f0 f1 f2 f3 f4
    refine z2q ?_
    have hz : Below w4.heap.size w4 w4.drew := q5q qb 1
    go_wp2_with fail
    refine h2q 14 (fun w' => w'.cell? ⟨G, 3, none⟩ = some (.slice oa i oc) ∧ w'.cell? ⟨wo.heap.size, 0, none⟩ = some (.slice a1 rl c1) ∧ w'.cell? ⟨wo.heap.size, 1, none⟩ = some (.int .i64 sn) ∧ w'.cell? ⟨wo.heap.size, 2, none⟩ = some (.bool b) ∧ w'.cell? ⟨wo.heap.size, 3, none⟩ = some (.slice a2 n2 c2) ∧ w'.cell? ⟨wo.heap.size, 4, none⟩ = some (.slice a3 n3 c3)) (by kernel_rfl) (by (try dsimp only); refine ⟨?_, ?_, ?_, ?_, ?_, ?_⟩ <;> (first | exact RG.o _ _ rfl _ (by assumption) | exact RY.o _ _ rfl _ (by assumption))) (fun hHeld => ?_)
    refine tt 0 ?_
    refine tt 1 ?_
    refine tt 2 ?_
    refine tt 3 ?_
    refine tt 5 ?_
    refine tt 6 ?_
    refine tt 7 ?_
    refine tt 8 ?_
    refine y6q (rs := [4]) (by kernel_rfl) (by simp) (z0q.cons (o := _) rfl (fun K hK => ?_) z0q.nil)
    go_simp
    refine (KR2.o _ hz).mono ?_
    rintro en6 w6 ⟨⟨r6, rfl, hl6⟩, hb6⟩
    have hn6 := fun k hk => (hl6.lt k hk).1
    obtain ⟨ar, rcap, hq6⟩ := hl6.form
    rw [← HRL.o] at hq6
    subst hq6
    have hs5 : wo.heap.size ≤ w4.drew.heap.size := HS4.o
    have hz := q0q hz hb6
    try go_wp2_with fail
    refine hK.out _ _ (fun _ => ?_) (fun hHeld => ?_)
    ·
     (try dsimp only); refine ⟨?_, ?_, ?_, ?_, ?_, ?_⟩ <;> (first | exact RG.o _ _ rfl _ (by assumption) | exact RY.o _ _ rfl _ (by assumption))
    replace hHeld := hHeld (by decide)
    clear hK K
    try refine lyt ?_
    refine y6q (rs := [9]) (by kernel_rfl) (by simp) (z0q.cons (o := _) rfl (fun K hK => ?_) z0q.nil)
    go_simp
    refine (KF2.o _ hz).mono ?_
    rintro en7 w7 ⟨⟨v7, rfl, f7⟩, hb7⟩
    obtain ⟨a7, n7, c7, i7, j7, k7, hq7⟩ := q8q f7
    subst hq7
    have hz := q0q hz hb7
    have hl6 := hl6.below hb7
    obtain ⟨bq, hbq⟩ := qx (decide (Q.num < 0))
    have f7 := a8q f7 HLQ.o (by omega)
    rw [← hbq] at f7
    rw [← hbq]
    clear hbq
    try go_wp2_with fail
    refine hK.out _ _ (fun _ => ?_) (fun hHeld => ?_)
    ·
     (try dsimp only); refine ⟨?_, ?_, ?_, ?_, ?_, ?_⟩ <;> (first | exact RG.o _ _ rfl _ (by assumption) | exact RY.o _ _ rfl _ (by assumption))
    replace hHeld := hHeld (by decide)
    clear hK K
    try refine lyt ?_
    refine tt 10 ?_
    refine y6q (rs := [11]) (by kernel_rfl) (by simp) (z0q.cons (o := _) rfl (fun K hK => ?_) z0q.nil)
    go_simp
    obtain ⟨w8, hw8⟩ : ∃ w', w' = w7.alloc (Obj.cells #[.slice ar rl rcap, .int .i64 sn, .bool bq, .slice a7 n7 c7, .slice i7 j7 k7] 45) := ⟨_, rfl⟩
    have hb8 : Below w7.heap.size w7 w8 := by rw [hw8]; exact (qb).alloc qm _
    have hr8 : w8.heap[w7.heap.size]? = some (.cells #[.slice ar rl rcap, .int .i64 sn, .bool bq, .slice a7 n7 c7, .slice i7 j7 k7] 45 (0, 0)) := by rw [hw8]; exact heap_alloc_new w7 _
    rw [← hw8]
    clear hw8
    have hz := q0q hz hb8
    have hl6 := hl6.below hb8
    have f7 := f7.below hb8
    refine hK.out _ _ (fun _ => ?_) (fun hHeld => ?_)
    ·
     (try dsimp only); refine ⟨?_, ?_, ?_, ?_, ?_, ?_⟩ <;> (first | exact RG.o _ _ rfl _ (by assumption) | exact RY.o _ _ rfl _ (by assumption))
    replace hHeld := hHeld (by decide)
    clear hK K
    try refine lyt ?_
    refine y6q (rs := [12]) (by kernel_rfl) (by simp) (z0q.cons (o := _) rfl (fun K hK => ?_) z0q.nil)
    rw [if_pos (by kernel_rfl)]
    have hzo : Below wo.heap.size wo w8 := q0q HB4.o hz
    have HO8 := hO.o.below hzo
    have hlt8 := hO.o.lt
    refine l7q (K := rkF M) _ _ rfl w2.heap.size (Value.slice oa i oc) (P.rows.take i) rfl HO8 w7.heap.size 1 ar rl rcap bq a7 i7 n7 c7 j7 k7 r rfl (by rw [HSN.o]; exact hr8) ⟨_, hl6⟩ (by rw [HQ2.o]; exact f7) (fun k hk => ⟨fun e => by have h1 := hn6 k hk; have h2 := (hlt8 k e).2; omega, by have := (hl6.lt k hk).2; omega, by have h1 := hn6 k hk; have h2 := hsz.o; omega⟩) (by rw [List.length_take]; omega) (by have h1 := hzo.size; have h2 := hsz.o; omega) ?_
    intro v9 w9 hown9 hg9 hbel9 hat9
    have hB9 : Below w2.heap.size wo w9 := hbel9 wo (hzo.mono hsz.o)
    have HG9 := (hB9.block _ HGL.o).trans hG.o
    have HY9 : w9.heap[wo.heap.size]? = some (.cells #[.slice a1 rl c1, .int .i64 sn, .bool b, .slice a2 n2 c2, .slice a3 n3 c3] 45 (0, 0)) := (hg9.block _ (Nat.lt_of_lt_of_le (lt_of_block HY4.o) hz.size) (fun e => by have := (hlt8 _ e.symm).2; omega)).trans ((hz.block _ (lt_of_block HY4.o)).trans HY4.o)
    obtain ⟨na, nc, hv9⟩ := hown9.form
    rw [HTK.o.1] at hown9
    rw [HTK.o.2] at hv9
    subst hv9
    have HL9 := ((rkF M).keepL ((rkF M).belowL HGL2.o hzo) HO8.clean hg9 (fun g hg e => by have h1 := HLB.o g hg; have h2 := (hlt8 g e).1; omega))
    have HZ9 : Below w1.heap.size w1 w9 := hZ.o.trans (hB9.mono HW12.o)
    refine hK.out _ _ (fun _ => ?_) (fun hHeld => ?_)
    ·
     (try dsimp only); refine ⟨?_, ?_, ?_, ?_, ?_, ?_⟩ <;> (first | exact q1q HG9 3 _ rfl _ qb | exact q1q HY9 0 _ rfl _ qb | exact q1q HY9 1 _ rfl _ qb | exact q1q HY9 2 _ rfl _ qb | exact q1q HY9 3 _ rfl _ qb | exact q1q HY9 4 _ rfl _ qb)
    replace hHeld := hHeld (by decide)
    clear hK K
    try refine lyt ?_
    refine tt 13 ?_
    refine y6q (rs := [14]) (by kernel_rfl) (by simp) (z0q.cons (o := _) rfl (fun K hK => ?_) z0q.nil)
    have g3 := q1q HG9 3 _ rfl _ qb
    have g4 := frozen_of_row _ _ 3 _ _ HG9
    go_simp
    refine hK.out _ _ (fun h => absurd rfl h) (fun _ => ?_)
    clear hK K
    try refine lyt ?_
    refine d3q (by kernel_rfl) ?_ _
    have HON := w6q w9 G (Value.slice na (i + 1) nc)
    have HG10 := hdd (a4q HG9 (v := Value.slice na (i + 1) nc))
    have HO10 := hdd (hown9.other HG9 u1q HON HGL.o)
    have HL10 := hdd ((rkF M).otherL HL9 HG9 u1q HON (fun g hg => HLG.o g hg))
    have HZ10 := hdd (q4q HZ9 HON HGB.o)
    have HS10 : Hi (w2.heap.size ≤ (w9.setCell ⟨G, 3, none⟩ (Value.slice na (i + 1) nc)).heap.size) := hdd (by rw [HON.size]; exact Nat.le_trans hsz.o hB9.size)
    clear HON HG9 HY9 HL9 HZ9 hB9 hown9
    go_wp2_with fail
    go_roundw
    case rel => exact ⟨i + 1, _, _, by omega, by go_num, HG10, HO10, HL10, HZ10, HS10⟩
    case measure => simp [intOf]; omega
   ·
    have t5 : decide ((i : Int) < (rn : Int)) = false := by simp; omega
    obtain rfl : i = rn := by omega
    have g0 := q1q hG.o 0 _ rfl _ qb
    have g1 := q1q hG.o 1 _ rfl _ qb
    have g2 := q1q hG.o 2 _ rfl _ qb
    have g3 := q1q hG.o 3 _ rfl _ qb
    have HR9 := (hZ.o.block _ (lt_of_block HO1.o)).trans HO1.o
    have hlow : w.heap.size + 1 < w2.heap.size := Nat.lt_of_lt_of_le (lt_of_block HO1.o) HW12.o
    have HNE : w.heap.size + 1 ≠ G := by have := HGB.o; have := lt_of_block HO1.o; omega
    go_wp2_with ((with_reducible refine j9q ?_); refine q6q rfl _ _ _ rfl (w.heap.size + 1) rfl _ rfl _ _ HR9 g8q rfl b9q ?_; intro w5 h5 hon5; refine y0q ?_)
    refine z2q ?_
    have hrt : P.rows.take i = P.rows := List.take_of_length_le (by have := HEQ.o; omega)
    have HO5 := hO.o.other HR9 u1q hon5 hlow
    rw [hrt] at HO5
    have HL5 := (rkF M).otherL HGL2.o HR9 u1q hon5 (fun g hg => by have h1 := HLNO.o g hg; exact h1)
    go_wp2_with fail
    refine bodyPost_ret (results_cell_row rfl _ _ (w.heap.size + 1) _ _ _ _ rfl h5 Tryz.underlying26 rfl g8q) rfl ⟨⟨_, rfl, fa, fc, ga', gc', oa, oc, w2.heap.size, ?_, HBO.o.below (q4q (q0q HB1.o hZ.o) hon5 (Nat.le_succ _)), ?_, ?_, Nat.le_trans (Nat.le_succ _) (Nat.le_of_lt hlow), HFB.o, ?_, by rw [hon5.size]; exact hsz.o⟩, ?_⟩
    ·
     rw [← HEQ.o.1, ← HEQ.o.2.1, ← HEQ.o.2.2.1, ← HEQ.o.2.2.2]
    ·
     rw [← HEQ.o.2.2.1]
     exact HL5
    ·
     rw [← HEQ.o.2.2.2]
     exact HO5
    ·
     rw [← HEQ.o.2.2.1]
     exact HLB.o
    ·
     exact q4q (q0q HB1.o hZ.o) hon5 (Nat.le_succ _)
def v8q (w : World) (a : Option Addr) (l : List Int) : Prop := ∀ (i : Nat) (z : Int), l[i]? = some z → ∃ B off, a = some ⟨B, off, none⟩ ∧ w.cell? ⟨B, off + i, none⟩ = some (.int .i64 z) ∧ -9223372036854775808 ≤ z ∧ z ≤ 9223372036854775807
theorem v8q.below (h : v8q w a l) (hb : Below w.heap.size w w') : v8q w' a l := fun i z hz => by
 obtain ⟨B, off, ha, hc, h1⟩ := h i z hz
 exact ⟨B, off, ha, q3q hb hc, h1⟩
theorem v8q.at (h : v8q w a l) {i : Nat} (hi : i < l.length) :
  ∃ z B off, l[i]? = some z ∧ a = some ⟨B, off, none⟩ ∧ (-9223372036854775808 ≤ z ∧ z ≤ 9223372036854775807) ∧ ∀ w', Below w.heap.size w w' → w'.cell? ⟨B, off + i, none⟩ = some (.int .i64 z) := by
 obtain ⟨B, off, ha, hc, h1⟩ := h i _ (List.getElem?_eq_getElem hi)
 exact ⟨l[i], B, off, List.getElem?_eq_getElem hi, ha, h1, fun w' hb => q3q hb hc⟩
def w3q (n : Int) (l : List Int) (i : Nat) : Bool := match l[i]? with
 | some v => decide (0 ≤ v ∧ v < n) && !(l.take i).contains v
 | none => true
def okV (n : Int) (l : List Int) : Bool := (List.range l.length).all (w3q n l)
theorem z6j {n : Int} (hi : i < l.length) (h : w3q n l i = false) : okV n l = false := by
 unfold okV
 cases hh : (List.range l.length).all (w3q n l) with
 | false => rfl
 | true =>
  have h1 := List.all_eq_true.1 hh i (by simpa using hi)
  rw [h] at h1; cases h1
theorem z8z {n : Int} (h : ∀ i, i < l.length → w3q n l i = true) : okV n l = true := by
 unfold okV
 rw [List.all_eq_true]
 intro i hi
 exact h i (by simpa using hi)
theorem l6q {n : Int} (h : okV n l = true) {i : Nat} {v : Int} (hv : l[i]? = some v) : 0 ≤ v ∧ v < n := by
 have hi := (List.getElem?_eq_some_iff.1 hv).1
 have h1 := List.all_eq_true.1 h i (by simpa using hi)
 unfold w3q at h1
 rw [hv] at h1
 simp only [Bool.and_eq_true, decide_eq_true_eq] at h1
 exact h1.1
theorem o9q {n : Int} {v : Int} (hv : l[i]? = some v) : w3q n l i = (decide (0 ≤ v ∧ v < n) && !(l.take i).contains v) := by
 unfold w3q
 rw [hv]
def e7q (w : World) (B : Nat) (l : List Bool) : Prop := w.heap[B]? = some (.cells (l.map Value.bool).toArray 4 (0, 0))
theorem e7q.below {l : List Bool} (h : e7q w B l) (hb : Below w.heap.size w w') : e7q w' B l := (hb.block _ (lt_of_block h)).trans h
theorem e7q.cell {l : List Bool} (h : e7q w B l) {i : Nat} {b : Bool} (hb : l[i]? = some b) : w.cell? ⟨B, i, none⟩ = some (.bool b) := by
 rw [cell_of_row _ _ _ _ _ _ h, List.getElem?_toArray, List.getElem?_map, hb]
 rfl
theorem e7q.frozen {l : List Bool} (h : e7q w B l) (i : Nat) : w.frozen? ⟨B, i, none⟩ = false := frozen_of_row _ _ i _ _ h
theorem e7q.setCell {l : List Bool} (h : e7q w B l) (k : Nat) (b : Bool) : e7q (w.setCell ⟨B, k, none⟩ (.bool b)) B (l.set k b) := by
 have h' : w.heap[B]? = some (.cells (l.map Value.bool).toArray 4 (0, 0)) := h
 simp [e7q, World.setCell, Array.getElem?_modify, h', List.map_set]
theorem z0x {P : Program} {ops : Array Oper} {rest : List Oper} {o : Oper} {a : Act} {Q : Exit → Act → World → Prop}
  (hg : o.guard = none) (l c : Operand) (t : TypeId) (hop : o.op = Op.makeSlice t l c) (h1 : P.underlying t = some (.slice 4))
  (h2 : (P.info? 4).map (fun i => (i.zero, i.size, i.bytes)) = some (some (.bool false), 1, 1)) (n : Nat) (hl : a.eval l = .int .i64 n) (hc : a.eval c = .int .i64 n) (hn : n ≤ 1073741824)
  (hK : ∀ w', e7q w' w.heap.size (List.replicate n false) → Below w.heap.size w w' → Hi (w'.heap.size = w.heap.size + 1) → wpList P ops Q rest (a.put o.dst (.slice (some ⟨w.heap.size, 0, none⟩) n n)) w') :
  wpList P ops Q (o :: rest) a w := by
 obtain ⟨i, hi, hz, hs, hb⟩ := info_parts h2
 refine wpList_plain hg fun K hK' => ?_
 have hr := run_make (P := P) w t 4 i _ h1 hi hz .i64 .i64 n n (by omega) (Int.le_refl _) (by rw [hb]; omega) (by omega)
 simp only [Int.toNat_natCast, hs, Value.cells, j5v, Nat.mul_one] at hr
 unfold Oper.wp
 simp [execOp, hop, hl, hc, hr, Result.andThen]
 refine hK' _ _ (hK _ ?_ ((qb).alloc qm _) (hdd (by simp)))
 show (w.heap.push _)[w.heap.size]? = _
 simp
theorem v0h {v : Int} (hv : l[i]? = some v) : l.take (i + 1) = l.take i ++ [v] := by
 obtain ⟨hi, h9⟩ := List.getElem?_eq_some_iff.1 hv
 rw [List.take_succ_eq_append_getElem hi, h9]
def e5q (n : Nat) (l : List Int) : List Bool := (List.range n).map (fun (j : Nat) => l.contains (j : Int))
theorem j4w (hj : j < n) : (e5q n l)[j]? = some (l.contains (j : Int)) := by
 unfold e5q
 rw [List.getElem?_map, List.getElem?_range hj]
 rfl
theorem x0z (n : Nat) : e5q n [] = List.replicate n false := by
 unfold e5q
 apply List.ext_getElem?
 intro i
 rw [List.getElem?_map]
 by_cases hi : i < n
 ·
  rw [List.getElem?_range hi, List.getElem?_replicate, if_pos hi]; rfl
 ·
  rw [List.getElem?_eq_none (by simp; omega), List.getElem?_replicate, if_neg hi]; rfl
theorem x0y : (e5q n l).set j true = e5q n (l ++ [(j : Int)]) := by
 apply List.ext_getElem?
 intro i
 by_cases hi : i < n
 ·
  by_cases hij : i = j
  ·
   subst hij
   rw [List.getElem?_set_self (by simp [e5q]; exact hi), j4w hi]
   simp
  ·
   rw [List.getElem?_set_ne (fun e => hij e.symm), j4w hi, j4w hi]
   have h9 : ¬ ((i : Int) = (j : Int)) := by omega
   simp [h9]
 ·
  rw [List.getElem?_eq_none (by simp [e5q]; omega), List.getElem?_eq_none (by simp [e5q]; omega)]
theorem j4z {n v : Int} (hv : l[i]? = some v) (h : ¬ (0 ≤ v ∧ v < n)) : w3q n l i = false := by
 rw [o9q hv]
 simp [h]

theorem u0h {fa ga ra : Option Addr} {fn fc gn gc rn rc : Nat} (h : v8q w a l) (hm : m = l.length) (hn : n ≤ 1000) (hm9 : m ≤ 1000) :
  Calls Tryz.prog 29 #[.agg #[.int .i64 (n : Nat), .slice fa fn fc, .slice ga gn gc, .slice ra rn rc], .slice a m c] w fun e w' => e = .returned (.bool (okV n l)) ∧ Below w.heap.size w w' := by
 have HI := hdd h
 have HM := hdd hm
 obtain ⟨w1, hw1, HB1, HX1⟩ := al1 w #[.int .i64 (n : Int), .slice fa fn fc, .slice ga gn gc, .slice ra rn rc] 26
 have HW1 := hdd hw1.symm
 clear h hm hw1
 have RX := hdd (q1q HX1.o)
 have x0 := RX.o 0 _ rfl _ qb
 obtain ⟨okb, hokb⟩ := qx (okV (n : Int) l)
 have HOK := hdd hokb
 rw [← hokb]
 clear hokb
 go_enter Tryz.func29, Tryz.ntmps29
 go_wp2_with (at_make; rw [HW1.o]; refine z0x rfl _ _ _ rfl Tryz.underlying22 u1k n rfl rfl (by omega) ?_; intro w2 hr2 hb2 hs2; refine y0q ?_)
 refine z2q ?_
 obtain ⟨G, hG⟩ := qx (w1.heap.size)
 rw [← hG] at hr2 ⊢
 have HGB : Hi (w.heap.size < G) := hdd (by rw [hG]; exact lt_of_block HX1.o)
 have HT2 : Hi (e7q w2 G (e5q n (l.take 0))) := hdd (by rw [List.take_zero, x0z]; exact hr2)
 have HZ2 : Hi (Below w1.heap.size w1 w2) := hdd hb2
 have HGW : Hi (w1.heap.size ≤ G) := hdd (by omega)
 clear hr2 hb2 hs2 hG x0
 go_wp2_with fail
 go_loopw [13] (fun iv wr => ∃ i : Nat, i ≤ m ∧ iv = .int .i64 i ∧ Hi (e7q wr G (e5q n (l.take i))) ∧ Hi (Below w1.heap.size w1 wr) ∧ Hi (∀ j, j < i → w3q (n : Int) l j = true)) (fun iv _ => m - (intOf iv).toNat)
 case atStart => exact ⟨0, Nat.zero_le _, rfl, HT2, HZ2, hdd (fun j hj => absurd hj (Nat.not_lt_zero _))⟩
 case round =>
  obtain ⟨i, hi, rfl, hT, hZ, hok⟩ := hrel
  obtain ⟨wo, rfl⟩ : ∃ wo : World, wo = wr := ⟨_, rfl⟩
  by_cases hin : i < m
  ·
   have t0 : decide ((i : Int) < (m : Int)) = true := by simp; omega
   obtain ⟨z, B, off, hz, ha, hzb, hc⟩ := HI.o.at (i := i) (by have := HM.o; omega)
   subst ha
   have e1 := hc wo (q0q HB1.o hZ.o)
   have x0 := RX.o 0 _ rfl _ hZ.o
   have HLZ := hdd hz
   clear hc hz
   by_cases hz0 : z < 0
   ·
    have t1 : decide (z < 0) = true := by simpa using hz0
    have HE : Hi (false = okb) := hdd (by rw [HOK.o]; exact (z6j (by have := HM.o; omega) (j4z HLZ.o (by omega))).symm)
    go_wp2_with fail
    go_ret
    exact ⟨by rw [← HE.o]; rfl, q0q HB1.o hZ.o⟩
   ·
    have t1 : decide (z < 0) = false := by simpa using hz0
    obtain ⟨v, rfl⟩ : ∃ v : Nat, z = (v : Int) := ⟨z.toNat, by omega⟩
    by_cases hvn : v < n
    ·
     have t2 : decide ((n : Int) ≤ (v : Int)) = false := by simp; omega
     have t3 : decide ((v : Int) ≥ (n : Int)) = false := by simp; omega
     obtain ⟨sb, hsb⟩ := qx ((l.take i).contains (v : Int))
     have e2 : wo.cell? ⟨G, v, none⟩ = some (.bool sb) := hT.o.cell (by rw [hsb]; exact j4w hvn)
     have HSB := hdd hsb
     have HOA : Hi (w3q (n : Int) l i = !sb) := hdd (by
      rw [o9q HLZ.o, hsb]
      have h9 : decide (0 ≤ (v : Int) ∧ (v : Int) < (n : Int)) = true := by simp; omega
      rw [h9, Bool.true_and])
     clear hsb
     cases sb with
     | true =>
      have HE : Hi (false = okb) := hdd (by rw [HOK.o]; exact (z6j (by have := HM.o; omega) HOA.o).symm)
      go_wp2_with fail
      go_ret
      exact ⟨by rw [← HE.o]; rfl, q0q HB1.o hZ.o⟩
     | false =>
      have z0 := hT.o.frozen v
      have HT9 : Hi (e7q (wo.setCell ⟨G, v, none⟩ (.bool true)) G (e5q n (l.take (i + 1)))) := hdd (by rw [v0h HLZ.o, ← x0y]; exact hT.o.setCell v true)
      have HZ9 : Hi (Below w1.heap.size w1 (wo.setCell ⟨G, v, none⟩ (.bool true))) := hdd (q4q hZ.o ((z9q.refl G wo).setCell v _) HGW.o)
      have HOK9 : Hi (∀ j, j < i + 1 → w3q (n : Int) l j = true) := hdd (fun j hj => by
       by_cases hji : j = i
       ·
        rw [hji]; exact HOA.o
       ·
        exact hok.o j (by omega))
      go_wp2_with fail
      go_roundw
      case rel => exact ⟨i + 1, by omega, by go_num, HT9, HZ9, HOK9⟩
      case measure => simp [intOf]; omega
    ·
     have t2 : decide ((n : Int) ≤ (v : Int)) = true := by simp; omega
     have t3 : decide ((v : Int) ≥ (n : Int)) = true := by simp; omega
     have HE : Hi (false = okb) := hdd (by rw [HOK.o]; exact (z6j (by have := HM.o; omega) (j4z HLZ.o (by omega))).symm)
     go_wp2_with fail
     go_ret
     exact ⟨by rw [← HE.o]; rfl, q0q HB1.o hZ.o⟩
  ·
   have t0 : decide ((i : Int) < (m : Int)) = false := by simp; omega
   have HE : Hi (true = okb) := hdd (by rw [HOK.o]; exact (z8z (fun j hj => hok.o j (by have := HM.o; omega))).symm)
   go_wp2_with fail
   go_ret
   exact ⟨by rw [← HE.o]; rfl, q0q HB1.o hZ.o⟩
theorem q8h {v : Int} (h : v8q w a l) (hm : m ≤ l.length) (hm9 : m ≤ 1000) :
  Calls Tryz.prog 33 #[.slice a m c, .int .i64 v] w fun e w' => e = .returned (.bool ((l.take m).contains v)) ∧ Below w.heap.size w w' := by
 have HI := hdd h
 have HM := hdd hm
 obtain ⟨okb, hokb⟩ := qx ((l.take m).contains v)
 have HOK := hdd hokb
 rw [← hokb]
 clear h hm hokb
 go_enter Tryz.func33, Tryz.ntmps33
 go_wp2_with fail
 go_loopw [9] (fun iv wr => ∃ i : Nat, i ≤ m ∧ iv = .int .i64 i ∧ Hi (Below w.heap.size w wr) ∧ Hi ((l.take i).contains v = false)) (fun iv _ => m - (intOf iv).toNat)
 case atStart => exact ⟨0, Nat.zero_le _, rfl, hdd qb, hdd (by simp)⟩
 case round =>
  obtain ⟨i, hi, rfl, hZ, hno⟩ := hrel
  obtain ⟨wo, rfl⟩ : ∃ wo : World, wo = wr := ⟨_, rfl⟩
  by_cases hin : i < m
  ·
   have t0 : decide ((i : Int) < (m : Int)) = true := by simp; omega
   obtain ⟨z, B, off, hz, ha, hzb, hc⟩ := HI.o.at (i := i) (by have := HM.o; omega)
   subst ha
   have e1 := hc wo hZ.o
   have HLZ := hdd hz
   clear hc hz
   by_cases hzv : z = v
   ·
    subst hzv
    have HE : Hi (true = okb) := hdd (by
     rw [HOK.o]
     have h9 : (l.take m)[i]? = some z := by rw [List.getElem?_take, if_pos hin]; exact HLZ.o
     exact (List.contains_iff_mem.2 (List.mem_of_getElem? h9)).symm)
    go_wp2_with fail
    go_ret
    exact ⟨by rw [← HE.o]; rfl, hZ.o⟩
   ·
    have t1 : (z == v) = false := by simpa using hzv
    have t2 : decide (z = v) = false := by simpa using hzv
    have HN9 : Hi ((l.take (i + 1)).contains v = false) := hdd (by
     rw [v0h HLZ.o, List.contains_eq_any_beq, List.any_append, ← List.contains_eq_any_beq, hno.o]
     have h9 : (v == z) = false := by simpa using fun e : v = z => hzv e.symm
     simp [h9])
    go_wp2_with fail
    go_roundw
    case rel => exact ⟨i + 1, by omega, by go_num, hZ, HN9⟩
    case measure => simp [intOf]; omega
  ·
   have t0 : decide ((i : Int) < (m : Int)) = false := by simp; omega
   have HE : Hi (false = okb) := hdd (by
    rw [HOK.o, ← hno.o]
    congr 2
    omega)
   go_wp2_with fail
   go_ret
   exact ⟨by rw [← HE.o]; rfl, hZ.o⟩
def j6j (z : Int) : Bool := decide (z ≠ 0) && decide (z ≠ 1)
def u6y (p : Int → Bool) (l : List Int) : Int := match l.findIdx? p with
 | some i => i
 | none => -1
theorem y0z {p : Int → Bool} (h : ∀ i z, i < l.length → l[i]? = some z → p z = false) : u6y p l = -1 ∧ l.any p = false := by
 have h1 : l.any p = false := by
  rw [List.any_eq_false]
  intro z hz
  obtain ⟨i, hi, rfl⟩ := List.mem_iff_getElem.1 hz
  rw [h i _ hi (List.getElem?_eq_getElem hi)]
  decide
 refine ⟨?_, h1⟩
 unfold u6y
 have h2 : l.findIdx? p = none := by
  rw [List.findIdx?_eq_none_iff]
  intro z hz
  have := List.any_eq_false.1 h1 z hz
  simpa using this
 rw [h2]
theorem q8v {t : TypeId} {s : Nat} (hg : w.heap[g]? = some (.cells #[] t (0, 0))) (hb : base ≤ g) : w.ownsRow base t s (.slice (some ⟨g, 0, none⟩) 0 0) 0 [] :=
 ⟨by simp, .inr ⟨g, 0, #[], rfl, hb, hg, Nat.le_refl _, by unfold maxLen; omega, by simp, by simp⟩⟩
theorem p1q {t : TypeId} (hg : w.heap[g]? = some (.cells #[] t (0, 0))) : Clean w (.slice (some ⟨g, 0, none⟩) 0 0) := by
 intro g' cs e fr hb hh u hu
 have h9 : some g = some g' := hb
 obtain rfl := Option.some.inj h9
 rw [hg] at hh
 simp only [Option.some.injEq, Obj.cells.injEq] at hh
 obtain ⟨rfl, -, -⟩ := hh
 simp at hu
def g5x (K : t1q) : Prop := ∀ {w : World} {v : Value} {qs : List Rat}, K.L w v qs → ∀ g, v.ownBlock = some g → ∃ cs, w.heap[g]? = some (.cells cs 43 (0, 0))
theorem v4w (M : Nat) : g5x (rkF M) := fun h => z8v h
theorem x6j (hn : n ≤ 1000) :
  Calls Tryz.prog 19 #[.int .i64 (n : Nat), .func (.func 117) #[] #[]] w fun e w' => (∃ r, e = .returned r ∧ g2q w' r (List.replicate n 0) ∧ ∀ g, r.ownBlock = some g → w.heap.size ≤ g) ∧ Below w.heap.size w w' := by
 have KZ := hdd (fun w' i => v1h (w := w') (i := i))
 have KF : Hi (∀ w', Calls Tryz.prog 52 #[.agg #[Value.bool false, Value.slice none 0 0, Value.slice none 0 0]] w' (j2k w' 0)) := hdd (fun w' => by
  rw [← y6w]; exact x9y ⟨_, _, rfl, IsW.nil w', IsW.nil w'⟩)
 obtain ⟨U0, hU0⟩ := qx ((0 : Rat))
 have HU0 := hdd hU0
 rw [← hU0] at KF
 clear hU0
 go_enter Tryz.func19, Tryz.ntmps19
 go_wp2_with (at_make; refine q3j rfl _ _ _ 43 rfl Tryz.underlying23 _ _ _ _ z5j n rfl rfl (by omega) (by omega) ?_; intro w1 hr1 hb1 hs1; refine y0q ?_)
 refine z2q ?_
 have HB1 := hdd hb1
 have HR0 : Hi (x9q w1 w.heap.size n 0 (fun _ => U0)) := hdd ⟨_, hr1, fun i _ => ⟨none, 0, 0, false, none, 0, 0, rfl, fun h => absurd h (Nat.not_lt_zero _)⟩⟩
 clear hr1 hb1 hs1
 go_wp2_with fail
 go_loopw [10] (fun iv wr => ∃ i : Nat, i ≤ n ∧ iv = .int .i64 i ∧ Hi (x9q wr w.heap.size n i (fun _ => U0)) ∧ Hi (Below w.heap.size w wr)) (fun iv _ => n - (intOf iv).toNat)
 case atStart => exact ⟨0, Nat.zero_le _, rfl, HR0, HB1⟩
 case round =>
  obtain ⟨i, hi, rfl, hR, hB⟩ := hrel
  obtain ⟨wo, rfl⟩ : ∃ wo : World, wo = wr := ⟨_, rfl⟩
  by_cases hin : i < n
  ·
   have t0 : decide ((i : Int) < (n : Int)) = true := by simp; omega
   go_wp2_with fail
   refine (KZ.o _ _).mono ?_
   rintro en2 w2 ⟨rfl, hb2⟩
   go_wp2_with fail
   refine (KF.o _).mono ?_
   rintro en3 w3 ⟨⟨v3, rfl, f3, -⟩, hb3⟩
   obtain ⟨a3, n3, c3, i3, j3, k3, hq3⟩ := q8q f3
   subst hq3
   have hz3 := q0q hb2 hb3
   have HF3 := hdd f3
   have HB3 := hdd (q0q hB.o hz3)
   obtain ⟨f, hr4, he4⟩ := hR.o.below hz3
   have HR4 := hdd hr4
   have HE4 := hdd he4
   obtain ⟨bq, hbq⟩ := qx (decide (U0.num < 0))
   rw [← hbq] at HF3
   rw [← hbq]
   clear f3 hb2 hb3 hz3 hr4 he4 hbq
   go_wp2_with ((with_reducible refine j9q ?_); refine q2x rfl _ _ _ rfl w.heap.size n i rfl _ _ _ rfl _ f HR4.o hin rfl x3q ?_; intro w5 hr5 hon5; refine y0q ?_)
   refine z2q ?_
   have HR5 := hdd (x9q.store HR4.o HE4.o HF3.o hr5 hon5)
   have HB5 := hdd (q4q HB3.o hon5 qm)
   clear hr5 hon5
   go_wp2_with fail
   go_roundw
   case rel => exact ⟨i + 1, by omega, by go_num, HR5, HB5⟩
   case measure => simp [intOf]; omega
  ·
   have t0 : decide ((i : Int) < (n : Int)) = false := by simp; omega
   obtain rfl : i = n := by omega
   have HE : Hi (g2q wo (.slice (some ⟨w.heap.size, 0, none⟩) i i) (List.replicate i 0)) := hdd (by
    have h9 := hR.o
    have e9 : (fun _ => U0 : Nat → Rat) = q9q (List.replicate i 0) := by funext x; rw [j9w, HU0.o]
    rw [e9] at h9
    exact ⟨w.heap.size, by rw [List.length_replicate], by rw [List.length_replicate]; exact h9⟩)
   go_wp2_with fail
   go_ret
   exact ⟨⟨_, rfl, HE.o, fun g h => by have h9 : some w.heap.size = some g := h; have := Option.some.inj h9; omega⟩, hB.o⟩
theorem x9j (hn : n ≤ 1000) :
  Calls Tryz.prog 91 #[.int .i64 (n : Nat)] w fun e w' => (∃ r, e = .returned r ∧ g2q w' r (List.replicate n 0) ∧ ∀ g, r.ownBlock = some g → w.heap.size ≤ g) ∧ Below w.heap.size w w' := by
 have K := hdd (x6j (w := w) hn)
 go_enter Tryz.func91, Tryz.ntmps91
 go_wp2_with fail
 refine K.o.mono ?_
 rintro en2 w2 ⟨⟨r2, rfl, h2, h3⟩, hb2⟩
 go_wp2_with fail
 go_ret
 exact ⟨⟨_, rfl, h2, h3⟩, hb2⟩

theorem z2k {P : Program} {o : Oper} {a : Act} {K : Act → World → Prop} {Q : Exit → Act → World → Prop} (ty : TypeId) (x y : Operand) (ho : o.op = .store ty x y)
  (g n k : Nat) (hx : a.eval x = .pointer (some ⟨g, k * 3, none⟩)) (v0 v1 v2 : Value) (hy : a.eval y = .agg #[v0, v1, v2]) (t : TypeId) (f : Nat → Value × Value × Value) (hg : n3q w g t n f) (hk : k < n)
  (hi : (P.info? ty).map (·.size) = some 3) (h1 : ∀ v ∈ (#[v0, v1, v2] : Array Value).toList, v.oneCell' = true)
  (h : ∀ w', n3q w' g t n (fun j => if j = k then (v0, v1, v2) else f j) → z9q g w w' → K (a.put o.dst undef) w') : Oper.wp P o a w K Q := by
 obtain ⟨cur, hc, hn, hf⟩ := hg
 unfold Oper.wp execOp
 have hr := q8w (P := P) w g (k * 3) t ty cur #[v0, v1, v2] hc hi (by simp; omega) h1
 simp only [ho, hx, hy, Instr.storeAt, Instr.sureAddr, Sem.run_bind, Sem.run_pure, Result.andThen_ok, hr]
 refine (h _ ⟨_, setRow_heap w g cur _ t _ hc, ?_, fun i hi => ?_⟩ ⟨rfl, rfl, rfl, by simp [World.setRow], fun k hk => setRow_other w g k _ hk⟩)
 ·
  simp; omega
 ·
  have ht : (cur.toList.take (k * 3)).length = k * 3 := by simp; omega
  have hget : ∀ m, (cur.toList.take (k * 3) ++ (#[v0, v1, v2] : Array Value).toList ++ cur.toList.drop (k * 3 + 3)).toArray[m]? = if m < k * 3 then cur[m]? else if m < k * 3 + 3 then [v0, v1, v2][m - k * 3]? else cur[m]? := by
   intro m
   rw [List.getElem?_toArray, List.append_assoc]
   by_cases h1 : m < k * 3
   ·
    rw [if_pos h1, List.getElem?_append_left (by omega), List.getElem?_take_of_lt h1]; simp
   ·
    rw [if_neg h1, List.getElem?_append_right (by omega), ht]
    by_cases h2 : m < k * 3 + 3
    ·
     rw [if_pos h2, List.getElem?_append_left (by simp; omega)]
    ·
     rw [if_neg h2, List.getElem?_append_right (by simp; omega), List.getElem?_drop]
     rw [show k * 3 + 3 + (m - k * 3 - (#[v0, v1, v2] : Array Value).toList.length) = m by simp; omega]
     simp
  obtain ⟨e0, e1, e2⟩ := hf i hi
  have hsz : (#[v0, v1, v2] : Array Value).size = 3 := rfl
  rw [hsz, hget, hget, hget]
  by_cases hik : i = k
  ·
   subst hik
   simp only [↓reduceIte]
   rw [if_neg (by omega), if_pos (by omega), if_neg (by omega), if_pos (by omega), if_neg (by omega), if_pos (by omega)]
   rw [Nat.sub_self, show i * 3 + 1 - i * 3 = 1 by omega, show i * 3 + 2 - i * 3 = 2 by omega]
   exact ⟨rfl, rfl, rfl⟩
  ·
   simp only [if_neg hik]
   by_cases hlt : i < k
   ·
    rw [if_pos (by omega), if_pos (by omega), if_pos (by omega)]
    exact ⟨e0, e1, e2⟩
   ·
    rw [if_neg (by omega), if_neg (by omega), if_neg (by omega), if_neg (by omega), if_neg (by omega), if_neg (by omega)]
    exact ⟨e0, e1, e2⟩
def x5q (n v : Nat) : List Rat := (List.range n).map (fun j => if j = v then (1 : Rat) else 0)
theorem f9q (n v : Nat) : (x5q n v).length = n := by simp [x5q]
theorem v1x {v : Nat} (hi : i < n) : q9q (x5q n v) i = if i = v then 1 else 0 := by
 unfold q9q x5q
 rw [List.getElem?_map, List.getElem?_range hi]
 rfl
theorem x9q.put {g : Nat → Rat} {a1 a2 : Option Addr} {n1 c1 n2 c2 : Nat} {b : Bool} {f : Nat → Value × Value × Value}
  (hr : n3q w B 43 n f) (he : ∀ i, i < n → ∃ a1 n1 c1 b a2 n2 c2, f i = (.bool b, .slice a1 n1 c1, .slice a2 n2 c2) ∧ (i < n → j3q w (.agg #[.bool b, .slice a1 n1 c1, .slice a2 n2 c2]) (g i)))
  (hq : j3q w (.agg #[.bool b, .slice a1 n1 c1, .slice a2 n2 c2]) q) (hr' : n3q w' B 43 n (fun i => if i = j then (.bool b, .slice a1 n1 c1, .slice a2 n2 c2) else f i)) (ho : z9q B w w') : x9q w' B n n (fun i => if i = j then q else g i) := by
 obtain ⟨c, hc, hU⟩ := q9h hr (fun i hi => by obtain ⟨a1, n1, c1, b, a2, n2, c2, e, -⟩ := he i hi; exact ⟨a1, n1, c1, b, a2, n2, c2, e⟩)
 have keep : ∀ {v : Value} {q : Rat}, j3q w v q → j3q w' v q := by
  intro v q h
  obtain ⟨u, d, rfl, h1, h2⟩ := h
  exact ⟨u, d, rfl, h1.other hc hU ho, h2.other hc hU ho⟩
 refine ⟨_, hr', fun i hi => ?_⟩
 by_cases hij : i = j
 ·
  subst hij
  exact ⟨a1, n1, c1, b, a2, n2, c2, by simp, fun _ => by simp only [if_true]; exact keep hq⟩
 ·
  obtain ⟨a1', n1', c1', b', a2', n2', c2', e, h⟩ := he i hi
  exact ⟨a1', n1', c1', b', a2', n2', c2', by simp only [if_neg hij]; exact e, fun h9 => by simp only [if_neg hij]; exact keep (h h9)⟩
theorem x9q.congr {g g' : Nat → Rat} (h : x9q w B n n g) (e : ∀ i, i < n → g i = g' i) : x9q w B n n g' := by
 obtain ⟨f, hr, he⟩ := h
 refine ⟨f, hr, fun i hi => ?_⟩
 obtain ⟨a1, n1, c1, b, a2, n2, c2, e1, hq⟩ := he i hi
 exact ⟨a1, n1, c1, b, a2, n2, c2, e1, fun h => by rw [← e i hi]; exact hq h⟩
theorem a9q : d2q 1 1 = (1 : Rat) := by decide +kernel
theorem v4v {v : Nat} {s b : Int} (hv : v < n) (hn : n ≤ 1000) (hq : d2q b 1 = q) (h1 : -9223372036854775808 ≤ b) (h2 : b ≤ 9223372036854775807) :
  Calls Tryz.prog 64 #[.int .i64 (n : Nat), .int .i64 (v : Nat), .int .i64 s, .int .i64 b] w fun e w' => (∃ ar bb a1 n1 c1 a2 n2 c2, e = .returned (.agg #[.slice ar n n, .int .i64 s, .bool bb, .slice a1 n1 c1, .slice a2 n2 c2]) ∧ g2q w' (.slice ar n n) (x5q n v) ∧ j3q w' (.agg #[.bool bb, .slice a1 n1 c1, .slice a2 n2 c2]) q ∧ ∀ g, (Value.slice ar n n).ownBlock = some g → w.heap.size ≤ g) ∧ Below w.heap.size w w' := by
 obtain ⟨w1, hw1, HB1, HR1⟩ := al1 w #[.slice none 0 0, .int .i64 0, .bool false, .slice none 0 0, .slice none 0 0] 45
 have HW1 := hdd hw1.symm
 have KZ := hdd (fun w' => x9j (w := w') hn)
 have KI := hdd (fun w' => j3x (w := w') hq h1 h2)
 obtain ⟨ONE, hONE⟩ := qx ((1 : Rat))
 have H1 := hdd hONE
 have K1 := hdd (fun w' => j3x (w := w') a9q (by decide) (by decide))
 rw [← hONE] at K1
 clear hw1 hq hONE
 go_enter Tryz.func64, Tryz.ntmps64
 go_wp2_with fail
 rw [HW1.o]
 refine (KZ.o _).mono ?_
 rintro en2 w2 ⟨⟨r2, rfl, hl2, hn2⟩, hb2⟩
 obtain ⟨ar2, hr2⟩ := hl2.form
 rw [List.length_replicate] at hr2
 subst hr2
 obtain ⟨B, hB, hf2⟩ := hl2
 simp only [Value.slice.injEq] at hB
 obtain ⟨rfl, -, -⟩ := hB
 rw [List.length_replicate] at hf2
 have HBG2 : Hi (w1.heap.size ≤ B) := hdd (hn2 B rfl)
 have HL2 := hdd hf2
 have HZ2 := hdd hb2
 clear hf2 hb2 hn2
 go_wp2_with fail
 refine (KI.o _).mono ?_
 rintro en3 w3 ⟨⟨v3, rfl, f3⟩, hb3⟩
 obtain ⟨a3, n3, c3, i3, j3, k3, hq3⟩ := q8q f3
 subst hq3
 obtain ⟨bq, hbq⟩ := qx (decide (q.num < 0))
 rw [← hbq] at f3
 rw [← hbq]
 have HF3 := hdd f3
 have HL3 := hdd (HL2.o.below hb3)
 have HZ3 := hdd (q0q HZ2.o hb3)
 have HBL3 : Hi (B < w3.heap.size) := hdd HL3.o.lt
 clear hbq f3 hb3
 go_wp2_with ((with_reducible refine j9q ?_); refine q6q rfl _ _ _ rfl w3.heap.size rfl _ rfl _ _ (heap_alloc_new _ _) w0q rfl f0q ?_; intro w4 h4 hon4; refine y0q ?_)
 have hb4 : Below w3.heap.size w3 w4 := q4q ((qb).alloc qm _) hon4 qm
 have HX4 := hdd h4
 have RY := hdd (q1q h4)
 have HL4 := hdd (HL3.o.below hb4)
 have HF4 := hdd (HF3.o.below hb4)
 have HB14 := hdd (q0q HZ3.o hb4)
 have HW4 := hdd (q0q HB1.o HB14.o)
 have HBG : Hi (w.heap.size ≤ B) := hdd (Nat.le_trans HB1.o.size HBG2.o)
 have HBG9 : Hi (w.heap.size < B) := hdd (Nat.lt_of_lt_of_le (lt_of_block HR1.o) HBG2.o)
 have HNE : Hi (w3.heap.size ≠ B) := hdd (by have := HBL3.o; omega)
 obtain ⟨BX, hBX⟩ := qx (w3.heap.size)
 rw [← hBX] at HX4 RY HNE ⊢
 clear h4 hon4 hb4 hBX
 refine z2q ?_
 have hz : Below w4.heap.size w4 w4.drew := q5q qb 1
 go_wp2_with fail
 refine h2q 5 (fun w' => w'.cell? ⟨BX, 0, none⟩ = some (.slice (some ⟨B, 0, none⟩) n n)) (by kernel_rfl) (by (try dsimp only); exact RY.o 0 _ rfl _ (by assumption)) (fun hHeld => ?_)
 refine tt 0 ?_
 refine tt 1 ?_
 refine tt 2 ?_
 refine y6q (rs := [3]) (by kernel_rfl) (by simp) (z0q.cons (o := _) rfl (fun K hK => ?_) z0q.nil)
 go_simp
 refine (K1.o _).mono ?_
 rintro en7 w7 ⟨⟨v7, rfl, f7⟩, hb7⟩
 obtain ⟨a7, n7, c7, i7, j7, k7, hq7⟩ := q8q f7
 subst hq7
 have hz := q0q hz hb7
 obtain ⟨bu, hbu⟩ := qx (decide (ONE.num < 0))
 rw [← hbu] at f7
 rw [← hbu]
 clear hbu
 try go_wp2_with fail
 refine hK.out _ _ (fun _ => ?_) (fun hHeld => ?_)
 ·
  (try dsimp only); exact RY.o 0 _ rfl _ (by assumption)
 replace hHeld := hHeld (by decide)
 clear hK K
 try refine lyt ?_
 refine tt 4 ?_
 refine y6q (rs := [5]) (by kernel_rfl) (by simp) (z0q.cons (o := _) rfl (fun K hK => ?_) z0q.nil)
 rw [if_pos (by kernel_rfl)]
 obtain ⟨f8, hr8, he8⟩ := HL4.o.below hz
 refine z2k _ _ _ rfl B n v rfl _ _ _ rfl _ f8 hr8 hv rfl x3q ?_
 intro w9 hr9 hon9
 refine hK.out _ _ (fun h => absurd rfl h) (fun _ => ?_)
 clear hK K
 try refine lyt ?_
 refine d3q (by kernel_rfl) ?_ _
 have HL9 := (x9q.put hr8 he8 f7 hr9 hon9).congr (g' := q9q (x5q n v)) (fun i hi => by rw [v1x hi, j9w, H1.o])
 obtain ⟨cc, hc8, hU8⟩ := q9h hr8 (fun i hi => by obtain ⟨a1, n1, c1, b, a2, n2, c2, e, -⟩ := he8 i hi; exact ⟨a1, n1, c1, b, a2, n2, c2, e⟩)
 have HF9 : j3q w9 (.agg #[.bool bq, .slice a3 n3 c3, .slice i3 j3 k3]) q := by
  have h1 := HF4.o.below hz
  obtain ⟨u, d, he, h1, h2⟩ := h1
  exact ⟨u, d, he, h1.other hc8 hU8 hon9, h2.other hc8 hU8 hon9⟩
 have HB9 : Below w.heap.size w w9 := q4q (q0q HW4.o hz) hon9 HBG.o
 have HX9 := (hon9.block _ HNE.o).trans ((hz.block _ (lt_of_block HX4.o)).trans HX4.o)
 have HR9 := (hon9.block w.heap.size (fun e => by have := HBG9.o; omega)).trans (((q0q HB14.o hz).block _ (lt_of_block HR1.o)).trans HR1.o)
 have x0 := q1q HX9 0 _ rfl _ qb
 have x1 := q1q HX9 1 _ rfl _ qb
 have x2 := q1q HX9 2 _ rfl _ qb
 have x3 := q1q HX9 3 _ rfl _ qb
 have x4 := q1q HX9 4 _ rfl _ qb
 go_wp2_with ((with_reducible refine j9q ?_); refine q6q rfl _ _ _ rfl w.heap.size rfl _ rfl _ _ HR9 w0q rfl f0q ?_; intro w10 h10 hon10; refine y0q ?_)
 refine z2q ?_
 have hu10 : ∀ (j k : Nat), (#[Value.slice none 0 0, Value.int .i64 0, Value.bool false, Value.slice none 0 0, Value.slice none 0 0] : Array Value)[j]? ≠ some (U k) := by
  intro j k h
  rcases j with _ | _ | _ | _ | _ | j <;> simp [U] at h
 have HF10 : j3q w10 (.agg #[.bool bq, .slice a3 n3 c3, .slice i3 j3 k3]) q := by
  obtain ⟨u, d, he, h1, h2⟩ := HF9
  exact ⟨u, d, he, h1.other HR9 hu10 hon10, h2.other HR9 hu10 hon10⟩
 have HL10 : g2q w10 (.slice (some ⟨B, 0, none⟩) n n) (x5q n v) := g2q.other ⟨B, by rw [f9q], by rw [f9q]; exact HL9⟩ HR9 hu10 hon10 (fun g hg => by have h9 : some B = some g := hg; have := Option.some.inj h9; have := HBG9.o; omega)
 clear x0 x1 x2 x3 x4
 go_wp2_with fail
 exact bodyPost_ret (results_cell_row rfl _ _ w.heap.size _ _ _ _ rfl h10 Tryz.underlying45 rfl w0q) rfl ⟨⟨_, _, _, _, _, _, _, _, rfl, HL10, HF10, fun g hg => by have h9 : some B = some g := hg; have := Option.some.inj h9; have := HBG9.o; omega⟩, q4q HB9 hon10 qm⟩
def y4j (z : Int) : Rat := d2q z 1
def e9q (n : Nat) (l bs : List Int) (i : Nat) : List Rat × Int × Rat := (x5q n ((l[i]?).getD 0).toNat, 0, y4j ((bs[i]?).getD 0))
def m4q (n : Nat) (l bs : List Int) (k : Nat) : List (List Rat × Int × Rat) := (List.range k).map (e9q n l bs)
theorem z9v (n : Nat) (l bs : List Int) (k : Nat) : m4q n l bs k ++ [e9q n l bs k] = m4q n l bs (k + 1) := by
 unfold m4q
 rw [List.range_succ, List.map_append]
 rfl
theorem r6q (n : Nat) (l bs : List Int) (k : Nat) : (m4q n l bs k).length = k := by simp [m4q]
theorem LRo.otherT (hK : g5x K) {w w' : World} {base : Nat} {v : Value} {rs : List (List Rat × Int × Rat)} {B : Nat} {cs : Array Value} {t : TypeId} {fr : Nat × Nat} (h : LRo K w base v rs) (hB : w.heap[B]? = some (.cells cs t fr)) (ht : t ≠ 43) (ht2 : t ≠ 45) (hcs : ∀ (j k : Nat), cs[j]? ≠ some (U k)) (ho : z9q B w w') : LRo K w' base v rs := by
 obtain ⟨xs, hx, hc, he⟩ := h
 have hown : ∀ g, v.ownBlock = some g → g ≠ B := by
  intro g hg e
  rcases hx.2 with ⟨rfl, -⟩ | ⟨g', cap', cur', rfl, -, hh, -⟩
  ·
   simp [Value.ownBlock] at hg
  ·
   have h9 : some g' = some g := hg
   rw [Option.some.inj h9, e, hB] at hh
   simp only [Option.some.injEq, Obj.cells.injEq] at hh
   exact ht2 hh.2.1
 refine ⟨xs, World.ownsRow.kept (row := some B) hx (c3q ho) (by
  cases hv : v.ownBlock with
  | none => simp
  | some g => exact Or.inr (by have := hown g hv; intro e; cases e; exact this rfl)), ?_, fun j r hr => ?_⟩
 ·
  intro g cs' e fr' hv hh
  rw [ho.block g (hown g hv)] at hh
  exact hc g cs' e fr' hv hh
 ·
  obtain ⟨a, n, c, b, a1, n1, c1, a2, n2, c2, h0, h1, h2, h3, h4, hl, hf, hne⟩ := he j r hr
  exact ⟨a, n, c, b, a1, n1, c1, a2, n2, c2, h0, h1, h2, h3, h4, K.otherL hl hB hcs ho (fun g hg e => by
   obtain ⟨cs9, h9⟩ := hK hl g hg
   rw [e, hB] at h9
   simp only [Option.some.injEq, Obj.cells.injEq] at h9
   exact ht h9.2.1), K.otherF hf hB hcs ho, fun g hg => ⟨(hne g hg).1, Nat.lt_of_lt_of_le (hne g hg).2.1 (Nat.le_of_eq ho.size.symm), (hne g hg).2.2⟩⟩
def j6x (P : Pm) (l bs : List Int) : Pm := { P with rows := P.rows ++ m4q P.vars.toNat l bs l.length }
end Go.Proofs.YtkkbmlkpgknhgaaGreat
