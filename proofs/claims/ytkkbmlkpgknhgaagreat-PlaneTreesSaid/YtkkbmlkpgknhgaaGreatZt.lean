/- PlaneTrees answers true at every input: of any program, list of variables and tree JudgeWhole tells what the reference tells. No conditions. -/
import Derived.Test.YtkkbmlkpgknhgaaGreatZ27
import Derived.Test.YtkkbmlkpgknhgaaGreatRows
import Derived.WalkKit
import Derived.ProofKit
set_option maxRecDepth 100000
set_option maxHeartbeats 16000000
namespace Go.Proofs.YtkkbmlkpgknhgaaGreat
open Go.ChangeShapes Go.WideShapes Go.ChangeAt Go.RowKit
variable {ca xa za : Option Addr} {cc cn xc xn zc zn : Nat} {k : Int} {v : Value} {w w' : World}
theorem u0y : Tryz.prog.cellsOf 3 = 1 := by kernel_rfl
theorem x4y {H : Type} {enc : TypeId × Value → H} {W : World} {d : DataW H} {p : List MemPlace}
  (h : DataW.Trod enc Tryz.prog W 0 (fun _ => true) true 27 v d p) (hv : ∃ a n c, v = .slice a n c) : ∃ a c zs, v = .slice a zs.length c ∧ zs.length ≤ maxLen ∧ zs.length ≤ c ∧ v8q W a zs := by
 obtain ⟨a, n, c, rfl⟩ := hv
 obtain ⟨fuel, hf⟩ := h
 rcases open_ints Tryz.underlying27 Tryz.underlying3 u0y hf with ⟨hcs, _⟩ | ⟨y, len, cap, zs, hcs, _, hl, hm, hz, _, hcell, hw⟩
 ·
  simp [Value.cells] at hcs
  obtain ⟨rfl, rfl, rfl⟩ := hcs
  exact ⟨none, 0, [], rfl, by simp [maxLen], by simp, fun i z h => by simp at h⟩
 ·
  simp [Value.cells] at hcs
  obtain ⟨rfl, rfl, rfl⟩ := hcs
  have hz' : zs.length = c := by simpa using hz
  by_cases h0 : n = 0
  ·
   subst h0
   exact ⟨some y, c, [], rfl, by simp [maxLen], by simp, fun i z h => by simp at h⟩
  have hcell0 : W.cell? y = _ := hcell 0 (by omega)
  obtain ⟨b, off, rfl, hlt⟩ := i1q hcell0
  have hlen : (zs.take n).length = n := by simp; omega
  refine ⟨_, c, zs.take n, by rw [hlen], by rw [hlen]; omega, by rw [hlen]; omega, fun i z hi => ?_⟩
  have hin : i < n := by
   have := (List.getElem?_eq_some_iff.1 hi).1
   omega
  rw [List.getElem?_take_of_lt hin] at hi
  have hc := hcell i (by omega)
  rw [e8q] at hc
  have e : zs.getD i 0 = z := by rw [List.getD_eq_getElem?_getD, hi]; rfl
  rw [e] at hc
  refine ⟨b, off, rfl, hc, ?_⟩
  have := hw z (List.mem_of_getElem? hi)
  have m1 : IntKind.i64.min = -9223372036854775808 := by decide
  have m2 : IntKind.i64.max = 9223372036854775807 := by decide
  simpa only [Lit.wf, m1, m2, Bool.and_eq_true, decide_eq_true_eq] using this
theorem z3x.below9 {cs : List Value} (h : z3x w cs) (hb : Below w.heap.size w w') : z3x w' cs := by
 obtain ⟨k, xa, xn, xc, ya, yn, yc, za, zn, zc, rfl, h1, h2, h3, h4, h5⟩ := h
 exact ⟨k, xa, xn, xc, ya, yn, yc, za, zn, zc, rfl, h1, h2, h3.below hb, h4.below hb, h5.below hb⟩
theorem q8j.below9 (h : q8j w v k xa xn xc za zn zc ca cn cc) (hb : Below w.heap.size w w') : q8j w' v k xa xn xc za zn zc ca cn cc := by
 obtain ⟨rfl, h1, h2, h3, h4, h5⟩ := h
 refine ⟨rfl, h1, h2, h3.below hb, h4.below hb, fun i hi => ?_⟩
 obtain ⟨B, off, cs, ha, hl, ⟨a, b, c, ds, rfl, r1, r2, r3, hd⟩, hc⟩ := h5 i hi
 exact ⟨B, off, _, ha, hl, ⟨a, b, c, ds, rfl, r1, r2, r3, hd.below9 hb⟩, fun k u hu => q3q hb (hc k u hu)⟩
section
attribute [local go_sem ↓] Go.wp_at_zero Go.wp_at_succ
theorem u3z {t : Value} {z : Int} {fa : Option Addr} {fn fc : Nat} {ga : Option Addr} {gn gc : Nat} {ra : Option Addr} {rn rc : Nat} {va : Option Addr} {m vc : Nat} {l : List Int} (h : q3z w v z fa fn fc ga gn gc ra rn rc) (hl : v8q w va l) (hm : m = l.length) (hvc : m ≤ vc) (hmx : m ≤ maxLen) (ht : q8j w t k xa xn xc za zn zc ca cn cc) :
  Calls Tryz.prog 4 #[v, .slice va m vc, t] w fun e w' => e = .returned (.bool true) ∧ Below w.heap.size w w' := by
 have HP := hdd h
 have HI := hdd hl
 have HTI := hdd ht
 have HM : Hi (m = l.length ∧ m ≤ vc) := hdd ⟨hm, hvc⟩
 have hmx9 : m ≤ 9223372036854775807 := by simp only [maxLen] at hmx; omega
 obtain ⟨rfl, hz1, hz2, -⟩ := h
 obtain ⟨rfl, hk1, hk2, -⟩ := ht
 clear hl hm hvc hmx
 obtain ⟨w1, hw1, HB1, HX1, HY1⟩ := al2 w #[.int .i64 z, .slice fa fn fc, .slice ga gn gc, .slice ra rn rc] 26 #[.int .i64 k, .slice xa xn xc, .slice za zn zc, .slice ca cn cc] 37
 have HW1 := hdd hw1.symm
 clear hw1
 have RX := hdd (q1q HX1.o)
 have RY := hdd (q1q HY1.o)
 obtain ⟨x0, x1, x2, x3⟩ := qz RX.o qb
 have KW : Hi (Calls Tryz.prog 5 #[.agg #[.int .i64 z, .slice fa fn fc, .slice ga gn gc, .slice ra rn rc], .int .i64 8, .int .i64 12] w1 fun e w' => (∃ bb, e = .returned (.bool bb) ∧ (bb = true → j9z w 6 8 12 z fn ga gn ra rn)) ∧ Below w1.heap.size w1 w') := hdd (by
  have h9 := x8h (V := 8) (R := 12) (HP.o.below HB1.o) (by omega) (by omega)
  refine h9.mono fun e w' h => ?_
  obtain ⟨⟨bb, he, hs⟩, hb⟩ := h
  exact ⟨⟨bb, he, fun e9 => (hs e9).back HP.o HB1.o⟩, hb⟩)
 go_enter Tryz.func4, Tryz.ntmps4
 go_wp2_with fail
 rw [HW1.o]
 refine KW.o.mono ?_
 rintro en2 w2 ⟨⟨bb2, rfl, hs2⟩, hb2⟩
 have HZ2 := hdd hb2
 clear hb2 x0 x1 x2 x3 KW
 cases bb2 with
 | false =>
  clear hs2
  go_wp2_with fail
  go_ret
  exact ⟨rfl, q0q HB1.o HZ2.o⟩
 | true =>
 have HSM := hdd (hs2 rfl)
 clear hs2
 by_cases hm6 : m ≤ 6
 rotate_left
 ·
  have t1 : decide ((m : Int) > 6) = true := by simp; omega
  have t2 : decide ((6 : Int) < (m : Int)) = true := by simp; omega
  go_wp2_with fail
  go_ret
  exact ⟨rfl, q0q HB1.o HZ2.o⟩
 have t1 : decide ((m : Int) > 6) = false := by simp; omega
 have t2 : decide ((6 : Int) < (m : Int)) = false := by simp; omega
 have HM6 : Hi (m ≤ 6) := hdd hm6
 have HTI2 : Hi (q8j w2 (.agg #[.int .i64 k, .slice xa xn xc, .slice za zn zc, .slice ca cn cc]) k xa xn xc za zn zc ca cn cc) := hdd (q8j.below9 HTI.o (q0q HB1.o HZ2.o))
 have KT := hdd (g5z HTI2.o)
 obtain ⟨y0, y1, y2, y3⟩ := qz RY.o HZ2.o
 go_wp2_with fail
 refine KT.o.mono ?_
 rintro en3 w3 ⟨⟨bb3, rfl, hs3⟩, hb3⟩
 have HZ3 := hdd (q0q HZ2.o hb3)
 have HB3 := hdd hb3
 clear hb3 y0 y1 y2 y3 KT
 cases bb3 with
 | false =>
  clear hs3
  go_wp2_with fail
  go_ret
  exact ⟨rfl, q0q HB1.o HZ3.o⟩
 | true =>
 obtain ⟨hc8, hsc, hst⟩ := hs3 rfl
 clear hs3
 obtain ⟨P, hPF, hPz, hPf, hPg, hPr, -⟩ := HP.o.progF (by omega) HSM.o.2.2.2.2.1 HSM.o.2.2.2.2.2
 obtain ⟨xs, hxl, hXF⟩ := HTI2.o.2.2.2.1.listF (by omega) hsc.2.1
 obtain ⟨zs, hzl, hZF⟩ := HTI2.o.2.2.2.2.1.listF (by omega) hsc.2.2.2
 obtain ⟨Cs, hcl, hCF⟩ := hst.read
 obtain ⟨q1, q2, q3⟩ := hsc.1
 have HRAW : Hi (q9x w2 P l Cs xs zs z fa fn fc ga gn gc ra rn rc va m vc xa xn xc za zn zc ca cn cc) := hdd (by
  obtain ⟨s1, s2, s3, s4, -, -⟩ := HSM.o
  exact ⟨(hPF.below (q0q HB1.o HZ2.o)).up (by omega), ⟨by omega, by omega, by omega, by omega⟩, hPF.small, fun hw => ⟨(e2q hw).1, by omega, by omega, by have := HM.o; have := HM6.o; omega, (e2q hw).2.1⟩, HI.o.below (q0q HB1.o HZ2.o), HM.o.1, HM6.o, HM.o.2, hXF.up (by omega), by omega, by omega, hZF.up (by omega), by omega, by omega, hCF, hcl.symm, hc8⟩)
 have K1 := hdd (fun w' (hb : Below w2.heap.size w2 w') => k2z (k := k) (HRAW.o.below hb))
 have K2 := hdd (fun w' (hb : Below w2.heap.size w2 w') => k2k (k := k) (HRAW.o.below hb))
 obtain ⟨jb, hjb⟩ := qx (jwQ P l k xs zs Cs)
 rw [← hjb] at K1 K2
 have e2 : (jb == jb) = true := by simp
 clear hjb hPz hPf hPg hPr hxl hzl hPF hXF hZF hcl hCF hst hsc hc8 q1 q2 q3 HRAW t1 t2 hm6
 have hz : Below w1.heap.size w1 w3.drew := q5q HZ3.o 1
 have hy : Below w2.heap.size w2 w3.drew := q5q HB3.o 1
 go_wp2_with fail
 refine k4q [] (fun w' => w'.cell? ⟨w.heap.size, 0, none⟩ = some (.int .i64 z) ∧ w'.cell? ⟨w.heap.size, 1, none⟩ = some (.slice fa fn fc) ∧ w'.cell? ⟨w.heap.size, 2, none⟩ = some (.slice ga gn gc) ∧ w'.cell? ⟨w.heap.size, 3, none⟩ = some (.slice ra rn rc) ∧ w'.cell? ⟨w.heap.size + 1, 0, none⟩ = some (.int .i64 k) ∧ w'.cell? ⟨w.heap.size + 1, 1, none⟩ = some (.slice xa xn xc) ∧ w'.cell? ⟨w.heap.size + 1, 2, none⟩ = some (.slice za zn zc) ∧ w'.cell? ⟨w.heap.size + 1, 3, none⟩ = some (.slice ca cn cc)) (by kernel_rfl) (by (try dsimp only); exact ⟨RX.o 0 _ rfl _ hz, RX.o 1 _ rfl _ hz, RX.o 2 _ rfl _ hz, RX.o 3 _ rfl _ hz, RY.o 0 _ rfl _ hz, RY.o 1 _ rfl _ hz, RY.o 2 _ rfl _ hz, RY.o 3 _ rfl _ hz⟩) (fun hHeld => ?_)
 refine ft 0 ?_
 refine fp 1 ?_
 refine ft 2 ?_
 refine ft 4 ?_
 refine fp 5 ?_
 refine ft 6 ?_
 refine z8q (rs := [3]) (by kernel_rfl) (by simp) (j1q.cons (o := _) rfl (fun K hK => ?_) j1q.nil)
 go_simp
 refine (K1.o _ hy).mono ?_
 rintro en4 w4 ⟨rfl, hb4⟩
 have hz := q0q hz hb4
 have hy := q0q hy hb4
 try go_wp2_with fail
 refine hK.out _ _ (fun _ => ?_) (fun hHeld => ?_)
 ·
  (try dsimp only); exact ⟨RX.o 0 _ rfl _ hz, RX.o 1 _ rfl _ hz, RX.o 2 _ rfl _ hz, RX.o 3 _ rfl _ hz, RY.o 0 _ rfl _ hz, RY.o 1 _ rfl _ hz, RY.o 2 _ rfl _ hz, RY.o 3 _ rfl _ hz⟩
 replace hHeld := hHeld (by decide)
 clear hK K
 try refine lyf ?_
 refine z8q (rs := [7]) (by kernel_rfl) (by simp) (j1q.cons (o := _) rfl (fun K hK => ?_) j1q.nil)
 go_simp
 refine (K2.o _ hy).mono ?_
 rintro en5 w5 ⟨rfl, hb5⟩
 have hz := q0q hz hb5
 have hy := q0q hy hb5
 try go_wp2_with fail
 refine hK.out _ _ (fun _ => ?_) (fun hHeld => ?_)
 ·
  (try dsimp only); exact ⟨RX.o 0 _ rfl _ hz, RX.o 1 _ rfl _ hz, RX.o 2 _ rfl _ hz, RX.o 3 _ rfl _ hz, RY.o 0 _ rfl _ hz, RY.o 1 _ rfl _ hz, RY.o 2 _ rfl _ hz, RY.o 3 _ rfl _ hz⟩
 replace hHeld := hHeld (by decide)
 clear hK K
 try refine lyf ?_
 refine fp 8 ?_
 refine fp 9 ?_
 refine n6q (by kernel_rfl) ?_ _
 go_wp2_with fail
 go_ret
 exact ⟨rfl, q0q HB1.o hz⟩
end

theorem v1z (os : Os) (started : os.Started) (H : Type) (enc : TypeId × Value → H) :
  ReturnsInHanded {} Tryz.checked os 4 .any (Rows.planeTreesSpec.pre6 enc Tryz.prog Tryz.f4 Rows.planeTreesRow.domain false) (Rows.planeTreesSpec.post enc Tryz.prog Tryz.f4 false true false false) := by
 refine returnsInHanded_of_change (C := Tryz.checked) x5x started (by kernel_rfl) Tryz.func4
  (ChangeSpec.witness6 (enc := enc) (C := Tryz.checked) false ⟨#[], #[.agg #[.int .i64 0, .slice none 0 0, .slice none 0 0, .slice none 0 0], .slice none 0 0, .agg #[.int .i64 0, .slice none 0 0, .slice none 0 0, .slice none 0 0]], []⟩ 8 (by kernel_rfl) (by kernel_rfl) (by kernel_rfl) (by kernel_rfl)) ?_
 intro W base args ds gs before hval0 hW hcnd _
 have hval : ∀ (j : Nat) t v, Tryz.f4.params[j]? = some t → args[j]? = some v → Value.okWide Tryz.prog W .any base t v := hval0
 have hW' := hW
 obtain ⟨p, q, hA0, hV, rfl, hfz, hnd⟩ := hW
 have hA : DataW.TrodAll enc Tryz.prog W 0 (fun _ => true) true Tryz.f4.params.toList args.toList ds p := hA0
 rw [Tryz.params4] at hA hval
 obtain ⟨v0, vs0, d0, ds0, p0, q0, hargs, rfl, rfl, h0, r0⟩ := trodAll_cons hA
 obtain ⟨v1, vs1, d1, ds1, p1, q1, rfl, rfl, rfl, h1, r1⟩ := trodAll_cons r0
 obtain ⟨v2, vs2, d2, ds2, p2, q2, rfl, rfl, rfl, h2, r2⟩ := trodAll_cons r1
 obtain ⟨rfl, rfl, rfl⟩ := trodAll_nil r2
 obtain rfl : args = #[v0, v1, v2] := by cases args; simp_all
 obtain ⟨rfl, rfl⟩ := trodVars_none hV
 have k0 := h0
 have k1 := h1
 have k2 := h2
 have lt0 : ∀ x ∈ p0, x.block < W.heap.size := by obtain ⟨m, hm⟩ := k0; exact DataW.trod_lt m _ _ _ hm
 have lt1 : ∀ x ∈ p1, x.block < W.heap.size := by obtain ⟨m, hm⟩ := k1; exact DataW.trod_lt m _ _ _ hm
 have lt2 : ∀ x ∈ p2, x.block < W.heap.size := by obtain ⟨m, hm⟩ := k2; exact DataW.trod_lt m _ _ _ hm
 obtain ⟨z, fa, fn, fc, ga, gn, gc, ra, rn, rc, hx⟩ := g2x (hval 0 26 v0 rfl rfl) h0
 obtain ⟨va, vc, l, rfl, hm1, hc1, hy⟩ := x4y h1 (okWide_slice Tryz.underlying27 (hval 1 27 v1 rfl rfl))
 obtain ⟨tk, xa, xn, xc, za, zn, zc, ca, cn, cc, hy2⟩ := g5j (hval 2 37 v2 rfl rfl) h2
 clear hA0 hval0
 refine (u3z hx hy rfl hc1 hm1 hy2).mono fun e W' ⟨he, bel⟩ => ?_
 subst he
 exact ⟨_, rfl, _, _, _, [], _, [], hW', trodAll_mk1 (shut_bool Tryz.underlying4 _), (trodAll_cons_mk (Below.trod z1w (by kernel_rfl) (of_decide_eq_true (by kernel_rfl)) k0 bel lt0) (trodAll_cons_mk (Below.trod z1w (by kernel_rfl) (of_decide_eq_true (by kernel_rfl)) k1 bel lt1) (trodAll_cons_mk (Below.trod z1w (by kernel_rfl) (of_decide_eq_true (by kernel_rfl)) k2 bel lt2) trodAll_mk0))), rfl, bel.frame _, fun h => by cases h⟩

theorem trees_holds : Rows.PlaneTreesSaid :=
 OpenClaim.holds_of_wide 4 Tryz.f4 rfl rfl rfl rfl rfl rfl rfl ⟨rfl, rfl, rfl, rfl, rfl⟩ rfl rfl rfl rfl rfl (by kernel_rfl) Tryz.func4 (by kernel_rfl)
  (of_decide_eq_true (by kernel_rfl)) (by unfold Func.isWrapper; first | (rw [if_pos (by decide +kernel)]; kernel_rfl) | (rw [if_neg (by decide +kernel)]; exact ⟨rfl, rfl⟩))
  (fun os started H enc _ => v1z os started H enc)
end Go.Proofs.YtkkbmlkpgknhgaaGreat
