/- FracOrder: the walk. -/
import Derived.Test.YtebgkfcglmjokaaLc
import Derived.Deep.DrawnRows
namespace Go.Proofs.Ytebgkfcglmjokaa
open Go.RowKit
attribute [local go_sem ↓] Go.wp_at_zero Go.wp_at_succ

/-- Three numbers, by their places. -/
def at3 (a b c : Nat) (i : Nat) : Nat := if i = 0 then a else if i = 1 then b else c
/-- Cells that stand in every later world. -/
theorem cells_later {w : World} {g : Nat} {cs : Array Value} {t : TypeId} {fr : Nat × Nat} (h : w.heap[g]? = some (.cells cs t fr)) :
    ∀ (o : Nat) (v : Value), cs[o]? = some v → ∀ w', Below w.heap.size w w' → w'.cell? ⟨g, o, none⟩ = some v :=
  fun o v k w' hb => by rw [cell_of_row _ _ _ _ _ _ ((hb.block _ (lt_of_block h)).trans h)]; exact k

theorem digs_one : digs 1 = [1] := by unfold digs; simp [digs]
theorem len_one : lenQ 1 = 2 := by
  have e1 : digs (1 : Rat).num.natAbs = [1] := by show digs 1 = [1]; exact digs_one
  have e2 : digs (1 : Rat).den = [1] := by show digs 1 = [1]; exact digs_one
  unfold lenQ; rw [e1, e2]; simp
/-- The words of 1. -/
theorem one_form {w : World} {v : Value} (h : IsW w v [1]) : ∃ b off cap, v = .slice (some ⟨b, off, none⟩) 1 cap ∧ ∀ w', Below w.heap.size w w' → w'.cell? ⟨b, off, none⟩ = some (.int .u32 1) := by
  obtain ⟨a, cap, rfl, h1, h2, h3, h4, h5⟩ := id h
  obtain ⟨b, off, rfl, -, -⟩ := h4 (by simp)
  exact ⟨b, off, cap, rfl, fun w' hb => (h.below hb).cell 0 (by simp)⟩
theorem frac_one {b : Bool} {a i : Option Addr} {n c j k : Nat} : ∀ v ∈ (#[Value.bool b, Value.slice a n c, Value.slice i j k] : Array Value).toList, v.oneCell' = true := by
  intro v hv; simp at hv; rcases hv with rfl | rfl | rfl <;> rfl

set_option maxRecDepth 100000 in
set_option maxHeartbeats 4000000 in
theorem order_walk {w : World} {x y z : Value} {b1 b2 b3 : Bool} {p1 p2 q1 q2 r1 r2 : Option Addr} {n1 c1 n2 c2 m1 d1 m2 d2 k1 e1 k2 e2 : Nat}
    (hx : FracI w x b1 p1 n1 c1 p2 n2 c2) (hy : FracI w y b2 q1 m1 d1 q2 m2 d2) (hz : FracI w z b3 r1 k1 e1 r2 k2 e2) :
    Calls Try.prog 7 #[x, y, z] w fun e w' => e = .returned (.bool true) ∧ Below w.heap.size w w' := by
  have HX := Lib.hid hx
  have HY := Lib.hid hy
  have HZ := Lib.hid hz
  obtain ⟨rfl, -, -⟩ := hx
  obtain ⟨rfl, -, -⟩ := hy
  obtain ⟨rfl, -, -⟩ := hz
  obtain ⟨w1, hw1⟩ : ∃ w1, w1 = ((((w.alloc (Obj.cells #[Value.bool b1, Value.slice p1 n1 c1, Value.slice p2 n2 c2] 24)).alloc
              (Obj.cells #[Value.bool b2, Value.slice q1 m1 d1, Value.slice q2 m2 d2] 24)).alloc
          (Obj.cells #[Value.bool b3, Value.slice r1 k1 e1, Value.slice r2 k2 e2] 24)).alloc
      (Obj.cells
        #[Value.bool b1, Value.slice p1 n1 c1, Value.slice p2 n2 c2, Value.bool b2, Value.slice q1 m1 d1,
          Value.slice q2 m2 d2, Value.bool b3, Value.slice r1 k1 e1, Value.slice r2 k2 e2]
        24)) := ⟨_, rfl⟩
  have HB1 : Hid (Below w.heap.size w w1) := Lib.hid (by rw [hw1]; exact ((((Below.refl _ _).alloc (Nat.le_refl _) _).alloc (by simp) _).alloc (by simp; omega) _).alloc (by simp; omega) _)
  have HXB : Hid (w1.heap[w.heap.size]? = some (.cells #[Value.bool b1, Value.slice p1 n1 c1, Value.slice p2 n2 c2] 24 (0, 0))) := Lib.hid (by rw [hw1, heap_alloc_old (r := w.heap.size) _ _ (by simp; omega)]; exact alloc3_0 w _ _ _)
  have HYB : Hid (w1.heap[w.heap.size + 1]? = some (.cells #[Value.bool b2, Value.slice q1 m1 d1, Value.slice q2 m2 d2] 24 (0, 0))) := Lib.hid (by rw [hw1, heap_alloc_old (r := w.heap.size + 1) _ _ (by simp)]; exact alloc3_1 w _ _ _)
  have HZB : Hid (w1.heap[w.heap.size + 1 + 1]? = some (.cells #[Value.bool b3, Value.slice r1 k1 e1, Value.slice r2 k2 e2] 24 (0, 0))) := Lib.hid (by rw [hw1, heap_alloc_old (r := w.heap.size + 1 + 1) _ _ (by simp)]; exact alloc3_new w _ _ _)
  have HLB : Hid (w1.heap[w.heap.size + 1 + 1 + 1]? = some (.cells #[Value.bool b1, Value.slice p1 n1 c1, Value.slice p2 n2 c2, Value.bool b2, Value.slice q1 m1 d1,
          Value.slice q2 m2 d2, Value.bool b3, Value.slice r1 k1 e1, Value.slice r2 k2 e2] 24 (0, 0))) := Lib.hid (by
    rw [hw1]
    have h := heap_alloc_new (((w.alloc (Obj.cells #[Value.bool b1, Value.slice p1 n1 c1, Value.slice p2 n2 c2] 24)).alloc
              (Obj.cells #[Value.bool b2, Value.slice q1 m1 d1, Value.slice q2 m2 d2] 24)).alloc
          (Obj.cells #[Value.bool b3, Value.slice r1 k1 e1, Value.slice r2 k2 e2] 24)) (Obj.cells #[Value.bool b1, Value.slice p1 n1 c1, Value.slice p2 n2 c2, Value.bool b2, Value.slice q1 m1 d1,
          Value.slice q2 m2 d2, Value.bool b3, Value.slice r1 k1 e1, Value.slice r2 k2 e2] 24)
    simpa using h)
  have HW1 := Lib.hid hw1.symm
  clear hw1
  have RX := Lib.hid (cells_later HXB.out)
  have RY := Lib.hid (cells_later HYB.out)
  have RZ := Lib.hid (cells_later HZB.out)
  have RL := Lib.hid (cells_later HLB.out)
  have HF : Hid (Calls Try.prog 12 #[.int .i64 8, .slice (some ⟨w.heap.size + 1 + 1 + 1, 0, none⟩) 3 3] w1 fun e w' => e = .returned (.bool (fewB 8 3 (at3 n1 m1 k1) (at3 n2 m2 k2))) ∧ w1 = w') := Lib.hid (by
    refine few_w (n := 8) (k := 3) (by omega) fun _ => ⟨_, _, rfl, fun i hi => ?_⟩
    have hz := Below.refl w1.heap.size w1
    match i, hi with
    | 0, _ => exact ⟨_, _, _, _, RL.out 1 _ rfl _ hz, RL.out 2 _ rfl _ hz⟩
    | 1, _ => exact ⟨_, _, _, _, RL.out 4 _ rfl _ hz, RL.out 5 _ rfl _ hz⟩
    | 2, _ => exact ⟨_, _, _, _, RL.out 7 _ rfl _ hz, RL.out 8 _ rfl _ hz⟩)
  by_cases hf : fewB 8 3 (at3 n1 m1 k1) (at3 n2 m2 k2) = true
  · rw [hf] at HF
    have hf' : ∀ i, i < 3 → at3 n1 m1 k1 i ≤ 8 ∧ at3 n2 m2 k2 i ≤ 8 := by simpa [fewB] using hf
    obtain ⟨A, hA⟩ := HX.out.few (n := 8) (by omega) (hf' 0 (by omega)).1 (hf' 0 (by omega)).2
    obtain ⟨B, hB⟩ := HY.out.few (n := 8) (by omega) (hf' 1 (by omega)).1 (hf' 1 (by omega)).2
    obtain ⟨C, hC⟩ := HZ.out.few (n := 8) (by omega) (hf' 2 (by omega)).1 (hf' 2 (by omega)).2
    clear hf hf'
    have HA := Lib.hid hA.inF
    have HBq := Lib.hid hB.inF
    have HC := Lib.hid hC.inF
    have LA := Lib.hid hA.len
    have LB := Lib.hid hB.len
    have LC := Lib.hid hC.len
    clear hA hB hC
    obtain ⟨o, ho⟩ : ∃ o, o = cmpQ A B := ⟨_, rfl⟩
    have HO := Lib.hid ho.symm
    have ho1 : -1 ≤ o := by rw [ho]; exact (cmpQ_small A B).1
    have ho2 : o ≤ 1 := by rw [ho]; exact (cmpQ_small A B).2
    clear ho
    have KAB := Lib.hid (fun w' (hb : Below w1.heap.size w1 w') => cmp_f (w := w') (HA.out.below (below_trans HB1.out hb)) (HBq.out.below (below_trans HB1.out hb)))
    rw [HO.out] at KAB
    have KBA := Lib.hid (fun w' (hb : Below w1.heap.size w1 w') => cmp_f (w := w') (HBq.out.below (below_trans HB1.out hb)) (HA.out.below (below_trans HB1.out hb)))
    rw [cmpQ_swap, HO.out] at KBA
    obtain ⟨u, hu⟩ : ∃ u, u = cmpQ B C := ⟨_, rfl⟩
    have HU := Lib.hid hu.symm
    have HOU : Hid (o = u → cmpQ A C = o) := Lib.hid (fun h => by rw [← HO.out]; exact cmpQ_trans A B C (by rw [HO.out, HU.out, h]))
    have KBC := Lib.hid (fun w' (hb : Below w1.heap.size w1 w') => cmp_f (w := w') (HBq.out.below (below_trans HB1.out hb)) (HC.out.below (below_trans HB1.out hb)))
    rw [HU.out] at KBC
    clear hu
    have KAC := Lib.hid (fun w' (hb : Below w1.heap.size w1 w') => cmp_f (w := w') (HA.out.below (below_trans HB1.out hb)) (HC.out.below (below_trans HB1.out hb)))
    obtain ⟨sg, hsg⟩ : ∃ x, x = cmpQ C 0 := ⟨_, rfl⟩
    have HSG := Lib.hid hsg.symm
    have hm1 : -1 ≤ o * sg := by
      have h1 : -1 ≤ sg := by rw [hsg]; exact (cmpQ_small C 0).1
      have h2 : sg ≤ 1 := by rw [hsg]; exact (cmpQ_small C 0).2
      rcases (by omega : o = -1 ∨ o = 0 ∨ o = 1) with e | e | e <;> rw [e] <;> omega
    have hm2 : o * sg ≤ 1 := by
      have h1 : -1 ≤ sg := by rw [hsg]; exact (cmpQ_small C 0).1
      have h2 : sg ≤ 1 := by rw [hsg]; exact (cmpQ_small C 0).2
      rcases (by omega : o = -1 ∨ o = 0 ∨ o = 1) with e | e | e <;> rw [e] <;> omega
    have hwr : IntKind.i64.wrap (o * sg) = o * sg := IntWalk.i64_in _ (by omega)
    clear hsg
    obtain ⟨S1, hS1⟩ : ∃ q, q = A + C := ⟨_, rfl⟩
    obtain ⟨S2, hS2⟩ : ∃ q, q = B + C := ⟨_, rfl⟩
    obtain ⟨M1, hM1⟩ : ∃ q, q = A * C := ⟨_, rfl⟩
    obtain ⟨M2, hM2⟩ : ∃ q, q = B * C := ⟨_, rfl⟩
    obtain ⟨D1, hD1⟩ : ∃ q, q = A - B := ⟨_, rfl⟩
    have HS1 := Lib.hid hS1
    have HS2 := Lib.hid hS2
    have HM1 := Lib.hid hM1
    have HM2 := Lib.hid hM2
    have HD1 := Lib.hid hD1
    clear hS1 hS2 hM1 hM2 hD1
    have KS1 := Lib.hid (fun w' (hb : Below w1.heap.size w1 w') => add_f (w := w') (HA.out.below (below_trans HB1.out hb)) (HC.out.below (below_trans HB1.out hb)) (by have := LA.out; have := LC.out; omega))
    rw [← HS1.out] at KS1
    have KS2 := Lib.hid (fun w' (hb : Below w1.heap.size w1 w') => add_f (w := w') (HBq.out.below (below_trans HB1.out hb)) (HC.out.below (below_trans HB1.out hb)) (by have := LB.out; have := LC.out; omega))
    rw [← HS2.out] at KS2
    have KM1 := Lib.hid (fun w' (hb : Below w1.heap.size w1 w') => mul_f (w := w') (HA.out.below (below_trans HB1.out hb)) (HC.out.below (below_trans HB1.out hb)) (by have := LA.out; have := LC.out; omega))
    rw [← HM1.out] at KM1
    have KM2 := Lib.hid (fun w' (hb : Below w1.heap.size w1 w') => mul_f (w := w') (HBq.out.below (below_trans HB1.out hb)) (HC.out.below (below_trans HB1.out hb)) (by have := LB.out; have := LC.out; omega))
    rw [← HM2.out] at KM2
    have KD1 := Lib.hid (fun w' (hb : Below w1.heap.size w1 w') => sub_f (w := w') (HA.out.below (below_trans HB1.out hb)) (HBq.out.below (below_trans HB1.out hb)) (by have := LA.out; have := LB.out; omega))
    rw [← HD1.out] at KD1
    have KSC := Lib.hid (fun w' (hb : Below w1.heap.size w1 w') => sign_f (w := w') (HC.out.below (below_trans HB1.out hb)))
    rw [HSG.out] at KSC
    have LS1 : Hid (lenQ S1 ≤ 4096) := Lib.hid (by rw [HS1.out]; have := len_add A C; have := LA.out; have := LC.out; omega)
    have LS2 : Hid (lenQ S2 ≤ 4096) := Lib.hid (by rw [HS2.out]; have := len_add B C; have := LB.out; have := LC.out; omega)
    have LM1 : Hid (lenQ M1 ≤ 4096) := Lib.hid (by rw [HM1.out]; have := len_mul A C; have := LA.out; have := LC.out; omega)
    have LM2 : Hid (lenQ M2 ≤ 4096) := Lib.hid (by rw [HM2.out]; have := len_mul B C; have := LB.out; have := LC.out; omega)
    have LD1 : Hid (lenQ D1 ≤ 4096) := Lib.hid (by rw [HD1.out, Rat.sub_eq_add_neg]; have := len_add A (-B); rw [len_neg] at this; have := LA.out; have := LB.out; omega)
    have KCS := Lib.hid (fun w' x y (hx : FracV w' x S1) (hy : FracV w' y S2) => cmp_f (hx.inF LS1.out) (hy.inF LS2.out))
    rw [show cmpQ S1 S2 = o from by rw [HS1.out, HS2.out, cmpQ_add, HO.out]] at KCS
    have KCM := Lib.hid (fun w' x y (hx : FracV w' x M1) (hy : FracV w' y M2) => cmp_f (hx.inF LM1.out) (hy.inF LM2.out))
    rw [show cmpQ M1 M2 = o * sg from by rw [HM1.out, HM2.out, cmpQ_mul, HO.out, HSG.out]] at KCM
    have KSD := Lib.hid (fun w' x (hx : FracV w' x D1) => sign_f (hx.inF LD1.out))
    rw [show cmpQ D1 0 = o from by rw [HD1.out, cmpQ_sub, HO.out]] at KSD
    obtain ⟨F, hF⟩ : ∃ q : Rat, q = (A.floor : Rat) := ⟨_, rfl⟩
    obtain ⟨E1, hE1⟩ : ∃ q : Rat, q = 1 := ⟨_, rfl⟩
    obtain ⟨T1, hT1⟩ : ∃ q : Rat, q = F + E1 := ⟨_, rfl⟩
    obtain ⟨cf, hcfe⟩ : ∃ x, x = cmpQ F A := ⟨_, rfl⟩
    have hcf : cf ≤ 0 := by rw [hcfe, hF]; exact cmp_floor A
    have HT := Lib.hid hT1
    have HCF := Lib.hid hcfe.symm
    have LF : Hid (lenQ F ≤ 18) := Lib.hid (by rw [hF]; have := len_floor A; have := LA.out; omega)
    have LE : Hid (lenQ E1 ≤ 2) := Lib.hid (by rw [hE1, len_one]; exact Nat.le_refl _)
    have LT : Hid (lenQ T1 ≤ 4096) := Lib.hid (by rw [hT1]; have := len_add F E1; have := LF.out; have := LE.out; omega)
    have HT1 : Hid (cmpQ T1 A = 1) := Lib.hid (by rw [hT1, hF, hE1]; exact cmp_floor_one A)
    have HDF : Hid (digs F.den = [1]) := Lib.hid (by rw [hF, int_den]; exact digs_one)
    have KFL := Lib.hid (fun w' (hb : Below w1.heap.size w1 w') => floor_f (w := w') (HA.out.below (below_trans HB1.out hb)) (by have := LA.out; omega))
    rw [← hF] at KFL
    have KMK := Lib.hid (fun w' => make_one (w := w'))
    rw [← hE1] at KMK
    have KCF := Lib.hid (fun w' x (hx : FracV w' x F) (hb : Below w1.heap.size w1 w') => cmp_f (w := w') (hx.inF (by have := LF.out; omega)) (HA.out.below (below_trans HB1.out hb)))
    rw [HCF.out] at KCF
    have KTA := Lib.hid (fun w' x y (hx : FracV w' x F) (hy : FracV w' y E1) => add_f (w := w') (hx.inF (by have := LF.out; omega)) (hy.inF (by have := LE.out; omega)) (by have := LF.out; have := LE.out; omega))
    rw [← HT.out] at KTA
    have KCT := Lib.hid (fun w' x (hx : FracV w' x T1) (hb : Below w1.heap.size w1 w') => cmp_f (w := w') (hx.inF LT.out) (HA.out.below (below_trans HB1.out hb)))
    rw [HT1.out] at KCT
    clear hF hE1 hT1 hcfe
    have hz1 := Below.refl w1.heap.size w1
    go_enter Try.func7, Try.ntmps7
    go_wp2_with fail
    rw [HW1.out]
    refine HF.out.mono ?_
    rintro en0 w0 ⟨rfl, rfl⟩
    have x0 := RX.out 0 _ rfl _ hz1
    have x1 := RX.out 1 _ rfl _ hz1
    have x2 := RX.out 2 _ rfl _ hz1
    have y0 := RY.out 0 _ rfl _ hz1
    have y1 := RY.out 1 _ rfl _ hz1
    have y2 := RY.out 2 _ rfl _ hz1
    go_wp2_with fail
    refine (KAB.out _ hz1).mono ?_
    rintro en2 w2 ⟨rfl, hb2⟩
    have hz2 := below_trans hz1 hb2
    clear x0 x1 x2 y0 y1 y2
    have x0 := RX.out 0 _ rfl _ hz2
    have x1 := RX.out 1 _ rfl _ hz2
    have x2 := RX.out 2 _ rfl _ hz2
    have y0 := RY.out 0 _ rfl _ hz2
    have y1 := RY.out 1 _ rfl _ hz2
    have y2 := RY.out 2 _ rfl _ hz2
    have z0 := RZ.out 0 _ rfl _ hz2
    have z1 := RZ.out 1 _ rfl _ hz2
    have z2 := RZ.out 2 _ rfl _ hz2
    go_wp2_with fail
    refine (KBA.out _ hz2).mono ?_
    rintro en3 w3 ⟨rfl, hb3⟩
    have hz3 := below_trans hz2 hb3
    clear x0 x1 x2 y0 y1 y2 z0 z1 z2
    have x0 := RX.out 0 _ rfl _ hz3
    have x1 := RX.out 1 _ rfl _ hz3
    have x2 := RX.out 2 _ rfl _ hz3
    have y0 := RY.out 0 _ rfl _ hz3
    have y1 := RY.out 1 _ rfl _ hz3
    have y2 := RY.out 2 _ rfl _ hz3
    have z0 := RZ.out 0 _ rfl _ hz3
    have z1 := RZ.out 1 _ rfl _ hz3
    have z2 := RZ.out 2 _ rfl _ hz3
    go_wp2_with fail
    refine (KBC.out _ hz3).mono ?_
    rintro en4 w4 ⟨rfl, hb4⟩
    have hz4 := below_trans hz3 hb4
    clear x0 x1 x2 y0 y1 y2 z0 z1 z2
    have x0 := RX.out 0 _ rfl _ hz4
    have x1 := RX.out 1 _ rfl _ hz4
    have x2 := RX.out 2 _ rfl _ hz4
    have y0 := RY.out 0 _ rfl _ hz4
    have y1 := RY.out 1 _ rfl _ hz4
    have y2 := RY.out 2 _ rfl _ hz4
    have z0 := RZ.out 0 _ rfl _ hz4
    have z1 := RZ.out 1 _ rfl _ hz4
    have z2 := RZ.out 2 _ rfl _ hz4
    by_cases hou : o = u
    · subst hou
      rw [HOU.out rfl] at KAC
      go_wp2_with fail
      refine (KAC.out _ hz4).mono ?_
      rintro en5 w5 ⟨rfl, hb5⟩
      have hz5 := below_trans hz4 hb5
      clear x0 x1 x2 y0 y1 y2 z0 z1 z2
      have x0 := RX.out 0 _ rfl _ hz5
      have x1 := RX.out 1 _ rfl _ hz5
      have x2 := RX.out 2 _ rfl _ hz5
      have y0 := RY.out 0 _ rfl _ hz5
      have y1 := RY.out 1 _ rfl _ hz5
      have y2 := RY.out 2 _ rfl _ hz5
      have z0 := RZ.out 0 _ rfl _ hz5
      have z1 := RZ.out 1 _ rfl _ hz5
      have z2 := RZ.out 2 _ rfl _ hz5
      go_wp2_with fail
      have hz0 : Below w1.heap.size w1 w5.drew := below_drewN hz5 1
      go_region_held3 (fun w' => w'.cell? ⟨w.heap.size, 0, none⟩ = some (.bool b1) ∧ w'.cell? ⟨w.heap.size, 1, none⟩ = some (.slice p1 n1 c1) ∧ w'.cell? ⟨w.heap.size, 2, none⟩ = some (.slice p2 n2 c2) ∧ w'.cell? ⟨w.heap.size + 1, 0, none⟩ = some (.bool b2) ∧ w'.cell? ⟨w.heap.size + 1, 1, none⟩ = some (.slice q1 m1 d1) ∧ w'.cell? ⟨w.heap.size + 1, 2, none⟩ = some (.slice q2 m2 d2) ∧ w'.cell? ⟨w.heap.size + 1 + 1, 0, none⟩ = some (.bool b3) ∧ w'.cell? ⟨w.heap.size + 1 + 1, 1, none⟩ = some (.slice r1 k1 e1) ∧ w'.cell? ⟨w.heap.size + 1 + 1, 2, none⟩ = some (.slice r2 k2 e2))
        (((try dsimp only); refine ⟨?_, ?_, ?_, ?_, ?_, ?_, ?_, ?_, ?_⟩ <;> (first | exact RX.out _ _ rfl _ (by assumption) | exact RY.out _ _ rfl _ (by assumption) | exact RZ.out _ _ rfl _ (by assumption) | go_keep)))
        (first | (go_at_call_of 24 (Value.slice p1 n1 c1); refine (KS1.out _ hz0).mono ?_; rintro en11 w11 ⟨⟨v11, rfl, f11, g11⟩, hb11⟩; obtain ⟨a11, n11, c11, i11, j11, k11, hq11⟩ := frac_form f11; subst hq11; have hz11 := below_trans hz0 hb11) | (go_at_call_of 24 (Value.slice q1 m1 d1); refine (KS2.out _ hz11).mono ?_; rintro en12 w12 ⟨⟨v12, rfl, f12, g12⟩, hb12⟩; obtain ⟨a12, n12, c12, i12, j12, k12, hq12⟩ := frac_form f12; subst hq12; have hz12 := below_trans hz11 hb12) | (go_at_call_of 34 (Value.slice a11 n11 c11); refine (KCS.out _ _ _ (f11.below hb12) f12).mono ?_; rintro en13 w13 ⟨rfl, hb13⟩; have hz13 := below_trans hz12 hb13) | (go_at_call_of 28 (Value.slice p1 n1 c1); refine (KM1.out _ hz13).mono ?_; rintro en14 w14 ⟨⟨v14, rfl, f14, g14⟩, hb14⟩; obtain ⟨a14, n14, c14, i14, j14, k14, hq14⟩ := frac_form f14; subst hq14; have hz14 := below_trans hz13 hb14) | (go_at_call_of 28 (Value.slice q1 m1 d1); refine (KM2.out _ hz14).mono ?_; rintro en15 w15 ⟨⟨v15, rfl, f15, g15⟩, hb15⟩; obtain ⟨a15, n15, c15, i15, j15, k15, hq15⟩ := frac_form f15; subst hq15; have hz15 := below_trans hz14 hb15) | (go_at_call_of 34 (Value.slice a14 n14 c14); refine (KCM.out _ _ _ (f14.below hb15) f15).mono ?_; rintro en16 w16 ⟨rfl, hb16⟩; have hz16 := below_trans hz15 hb16) | (go_at_call_of 36 (Value.slice r1 k1 e1); refine (KSC.out _ hz16).mono ?_; rintro en17 w17 ⟨rfl, hb17⟩; have hz17 := below_trans hz16 hb17) | (go_at_call_of 26 (Value.slice p1 n1 c1); refine (KD1.out _ hz17).mono ?_; rintro en18 w18 ⟨⟨v18, rfl, f18, g18⟩, hb18⟩; obtain ⟨a18, n18, c18, i18, j18, k18, hq18⟩ := frac_form f18; subst hq18; have hz18 := below_trans hz17 hb18) | (go_at_call_of 36 (Value.slice a18 n18 c18); refine (KSD.out _ _ f18).mono ?_; rintro en19 w19 ⟨rfl, hb19⟩; have hz19 := below_trans hz18 hb19))
      have x0 := RX.out 0 _ rfl _ hz19
      have x1 := RX.out 1 _ rfl _ hz19
      have x2 := RX.out 2 _ rfl _ hz19
      go_wp2_with fail
      refine (KFL.out _ hz19).mono ?_
      rintro en20 w20 ⟨⟨v20, rfl, f20, g20⟩, hb20⟩
      have hz20 := below_trans hz19 hb20
      obtain ⟨u20, d20, rfl, hu20, hd20⟩ := id f20
      obtain ⟨a20, n20, c20, hq20⟩ := hu20.form
      subst hq20
      rw [HDF.out] at hd20
      obtain ⟨db, dof, dcap, rfl, hdc⟩ := one_form hd20
      have HV20 := Lib.hid f20
      have HDC := Lib.hid hdc
      clear x0 x1 x2 f20 g20 hu20 hd20 hdc
      go_wp2_with ((with_reducible refine at_store ?_); refine wpList_store_var rfl _ _ _ rfl w20.heap.size rfl _ rfl _ _ (heap_alloc_new _ _) ifrac rfl frac_one ?_; intro w21 h21 hon21; refine halt ?_)
      have hb21 : Below w20.heap.size w20 w21 := below_only ((Below.refl _ _).alloc (Nat.le_refl _) _) hon21 (Nat.le_refl _)
      have hz21 := below_trans hz20 hb21
      have RF := Lib.hid (cells_later h21)
      have HV21 := Lib.hid (HV20.out.below hb21)
      have HN21 : Hid (w20.heap.size < w21.heap.size) := Lib.hid (lt_of_block h21)
      clear h21 hon21
      refine go_on ?_
      go_wp2_with fail
      refine (KMK.out _).mono ?_
      rintro en22 w22 ⟨⟨v22, rfl, f22, g22⟩, hb22⟩
      have hz22 := below_trans hz21 hb22
      obtain ⟨a22, n22, c22, i22, j22, k22, hq22⟩ := frac_form f22
      subst hq22
      have HV22 := Lib.hid f22
      clear f22 g22
      go_wp2_with ((with_reducible refine at_store ?_); refine wpList_store_var rfl _ _ _ rfl w22.heap.size rfl _ rfl _ _ (heap_alloc_new _ _) ifrac rfl frac_one ?_; intro w23 h23 hon23; refine halt ?_)
      have hb23 : Below w22.heap.size w22 w23 := below_only ((Below.refl _ _).alloc (Nat.le_refl _) _) hon23 (Nat.le_refl _)
      have hz23 := below_trans hz22 hb23
      have hy23 : Below w21.heap.size w21 w23 := below_trans hb22 hb23
      have RE := Lib.hid (cells_later h23)
      have HV23 := Lib.hid (HV22.out.below hb23)
      have HF23 := Lib.hid (HV21.out.below hy23)
      have HDC23 := HDC.out _ (below_trans hb21 hy23)
      have t0 := RF.out 0 _ rfl _ hy23
      have t1 := RF.out 1 _ rfl _ hy23
      have t2 := RF.out 2 _ rfl _ hy23
      clear h23 hon23
      refine go_on ?_
      go_wp2_with fail
      have hz24 : Below w1.heap.size w1 w23.drew := below_drewN hz23 1
      have hy24 : Below w23.heap.size w23 w23.drew := below_drewN (Below.refl _ _) 1
      have RF9 : Hid (∀ (o : Nat) (v : Value), (#[Value.bool (decide (F.num < 0)), Value.slice a20 n20 c20, Value.slice (some ⟨db, dof, none⟩) 1 dcap] : Array Value)[o]? = some v → ∀ w', Below w23.heap.size w23 w' → w'.cell? ⟨w20.heap.size, o, none⟩ = some v) := Lib.hid (fun o v h w' hb => RF.out o v h w' (below_trans hy23 hb))
      clear t0 t1 t2
      have x0 := RX.out 0 _ rfl _ hz24
      have x1 := RX.out 1 _ rfl _ hz24
      have x2 := RX.out 2 _ rfl _ hz24
      have t0 := RF9.out 0 _ rfl _ hy24
      have t1 := RF9.out 1 _ rfl _ hy24
      have t2 := RF9.out 2 _ rfl _ hy24
      have o0 := RE.out 0 _ rfl _ hy24
      have o1 := RE.out 1 _ rfl _ hy24
      have o2 := RE.out 2 _ rfl _ hy24
      go_region_held3 (fun w' => w'.cell? ⟨w.heap.size, 0, none⟩ = some (.bool b1) ∧ w'.cell? ⟨w.heap.size, 1, none⟩ = some (.slice p1 n1 c1) ∧ w'.cell? ⟨w.heap.size, 2, none⟩ = some (.slice p2 n2 c2) ∧ w'.cell? ⟨w20.heap.size, 0, none⟩ = some (.bool (decide (F.num < 0))) ∧ w'.cell? ⟨w20.heap.size, 1, none⟩ = some (.slice a20 n20 c20) ∧ w'.cell? ⟨w20.heap.size, 2, none⟩ = some (.slice (some ⟨db, dof, none⟩) 1 dcap) ∧ w'.cell? ⟨w22.heap.size, 0, none⟩ = some (.bool (decide (E1.num < 0))) ∧ w'.cell? ⟨w22.heap.size, 1, none⟩ = some (.slice a22 n22 c22) ∧ w'.cell? ⟨w22.heap.size, 2, none⟩ = some (.slice i22 j22 k22))
        (((try dsimp only); refine ⟨?_, ?_, ?_, ?_, ?_, ?_, ?_, ?_, ?_⟩ <;> (first | exact RX.out _ _ rfl _ (by assumption) | exact RF9.out _ _ rfl _ (by assumption) | exact RE.out _ _ rfl _ (by assumption) | go_keep)))
        (first | (go_at_call_of 34 (Value.slice (some ⟨db, dof, none⟩) 1 dcap); refine (KCF.out _ _ (HF23.out.below hy24) hz24).mono ?_; rintro en31 w31 ⟨rfl, hb31⟩; have hz31 := below_trans hz24 hb31; have hy31 := below_trans hy24 hb31) | (go_at_call_of 24 (Value.slice (some ⟨db, dof, none⟩) 1 dcap); refine (KTA.out _ _ _ (HF23.out.below hy31) (HV23.out.below hy31)).mono ?_; rintro en32 w32 ⟨⟨v32, rfl, f32, g32⟩, hb32⟩; obtain ⟨a32, n32, c32, i32, j32, k32, hq32⟩ := frac_form f32; subst hq32; have hz32 := below_trans hz31 hb32; have hy32 := below_trans hy31 hb32) | (go_at_call_of 34 (Value.slice a32 n32 c32); refine (KCT.out _ _ f32 hz32).mono ?_; rintro en33 w33 ⟨rfl, hb33⟩; have hz33 := below_trans hz32 hb33; have hy33 := below_trans hy32 hb33))
      go_wp2_with fail
      go_ret
      exact ⟨rfl, below_trans HB1.out hz33⟩
    · have hou' : (o == u) = false := by simpa using hou
      clear hou
      go_wp2_with fail
      have hz0 : Below w1.heap.size w1 w4.drew := below_drewN hz4 1
      go_region_held3 (fun w' => w'.cell? ⟨w.heap.size, 0, none⟩ = some (.bool b1) ∧ w'.cell? ⟨w.heap.size, 1, none⟩ = some (.slice p1 n1 c1) ∧ w'.cell? ⟨w.heap.size, 2, none⟩ = some (.slice p2 n2 c2) ∧ w'.cell? ⟨w.heap.size + 1, 0, none⟩ = some (.bool b2) ∧ w'.cell? ⟨w.heap.size + 1, 1, none⟩ = some (.slice q1 m1 d1) ∧ w'.cell? ⟨w.heap.size + 1, 2, none⟩ = some (.slice q2 m2 d2) ∧ w'.cell? ⟨w.heap.size + 1 + 1, 0, none⟩ = some (.bool b3) ∧ w'.cell? ⟨w.heap.size + 1 + 1, 1, none⟩ = some (.slice r1 k1 e1) ∧ w'.cell? ⟨w.heap.size + 1 + 1, 2, none⟩ = some (.slice r2 k2 e2))
        (((try dsimp only); refine ⟨?_, ?_, ?_, ?_, ?_, ?_, ?_, ?_, ?_⟩ <;> (first | exact RX.out _ _ rfl _ (by assumption) | exact RY.out _ _ rfl _ (by assumption) | exact RZ.out _ _ rfl _ (by assumption) | go_keep)))
        (first | (go_at_call_of 24 (Value.slice p1 n1 c1); refine (KS1.out _ hz0).mono ?_; rintro en11 w11 ⟨⟨v11, rfl, f11, g11⟩, hb11⟩; obtain ⟨a11, n11, c11, i11, j11, k11, hq11⟩ := frac_form f11; subst hq11; have hz11 := below_trans hz0 hb11) | (go_at_call_of 24 (Value.slice q1 m1 d1); refine (KS2.out _ hz11).mono ?_; rintro en12 w12 ⟨⟨v12, rfl, f12, g12⟩, hb12⟩; obtain ⟨a12, n12, c12, i12, j12, k12, hq12⟩ := frac_form f12; subst hq12; have hz12 := below_trans hz11 hb12) | (go_at_call_of 34 (Value.slice a11 n11 c11); refine (KCS.out _ _ _ (f11.below hb12) f12).mono ?_; rintro en13 w13 ⟨rfl, hb13⟩; have hz13 := below_trans hz12 hb13) | (go_at_call_of 28 (Value.slice p1 n1 c1); refine (KM1.out _ hz13).mono ?_; rintro en14 w14 ⟨⟨v14, rfl, f14, g14⟩, hb14⟩; obtain ⟨a14, n14, c14, i14, j14, k14, hq14⟩ := frac_form f14; subst hq14; have hz14 := below_trans hz13 hb14) | (go_at_call_of 28 (Value.slice q1 m1 d1); refine (KM2.out _ hz14).mono ?_; rintro en15 w15 ⟨⟨v15, rfl, f15, g15⟩, hb15⟩; obtain ⟨a15, n15, c15, i15, j15, k15, hq15⟩ := frac_form f15; subst hq15; have hz15 := below_trans hz14 hb15) | (go_at_call_of 34 (Value.slice a14 n14 c14); refine (KCM.out _ _ _ (f14.below hb15) f15).mono ?_; rintro en16 w16 ⟨rfl, hb16⟩; have hz16 := below_trans hz15 hb16) | (go_at_call_of 36 (Value.slice r1 k1 e1); refine (KSC.out _ hz16).mono ?_; rintro en17 w17 ⟨rfl, hb17⟩; have hz17 := below_trans hz16 hb17) | (go_at_call_of 26 (Value.slice p1 n1 c1); refine (KD1.out _ hz17).mono ?_; rintro en18 w18 ⟨⟨v18, rfl, f18, g18⟩, hb18⟩; obtain ⟨a18, n18, c18, i18, j18, k18, hq18⟩ := frac_form f18; subst hq18; have hz18 := below_trans hz17 hb18) | (go_at_call_of 36 (Value.slice a18 n18 c18); refine (KSD.out _ _ f18).mono ?_; rintro en19 w19 ⟨rfl, hb19⟩; have hz19 := below_trans hz18 hb19))
      have x0 := RX.out 0 _ rfl _ hz19
      have x1 := RX.out 1 _ rfl _ hz19
      have x2 := RX.out 2 _ rfl _ hz19
      go_wp2_with fail
      refine (KFL.out _ hz19).mono ?_
      rintro en20 w20 ⟨⟨v20, rfl, f20, g20⟩, hb20⟩
      have hz20 := below_trans hz19 hb20
      obtain ⟨u20, d20, rfl, hu20, hd20⟩ := id f20
      obtain ⟨a20, n20, c20, hq20⟩ := hu20.form
      subst hq20
      rw [HDF.out] at hd20
      obtain ⟨db, dof, dcap, rfl, hdc⟩ := one_form hd20
      have HV20 := Lib.hid f20
      have HDC := Lib.hid hdc
      clear x0 x1 x2 f20 g20 hu20 hd20 hdc
      go_wp2_with ((with_reducible refine at_store ?_); refine wpList_store_var rfl _ _ _ rfl w20.heap.size rfl _ rfl _ _ (heap_alloc_new _ _) ifrac rfl frac_one ?_; intro w21 h21 hon21; refine halt ?_)
      have hb21 : Below w20.heap.size w20 w21 := below_only ((Below.refl _ _).alloc (Nat.le_refl _) _) hon21 (Nat.le_refl _)
      have hz21 := below_trans hz20 hb21
      have RF := Lib.hid (cells_later h21)
      have HV21 := Lib.hid (HV20.out.below hb21)
      have HN21 : Hid (w20.heap.size < w21.heap.size) := Lib.hid (lt_of_block h21)
      clear h21 hon21
      refine go_on ?_
      go_wp2_with fail
      refine (KMK.out _).mono ?_
      rintro en22 w22 ⟨⟨v22, rfl, f22, g22⟩, hb22⟩
      have hz22 := below_trans hz21 hb22
      obtain ⟨a22, n22, c22, i22, j22, k22, hq22⟩ := frac_form f22
      subst hq22
      have HV22 := Lib.hid f22
      clear f22 g22
      go_wp2_with ((with_reducible refine at_store ?_); refine wpList_store_var rfl _ _ _ rfl w22.heap.size rfl _ rfl _ _ (heap_alloc_new _ _) ifrac rfl frac_one ?_; intro w23 h23 hon23; refine halt ?_)
      have hb23 : Below w22.heap.size w22 w23 := below_only ((Below.refl _ _).alloc (Nat.le_refl _) _) hon23 (Nat.le_refl _)
      have hz23 := below_trans hz22 hb23
      have hy23 : Below w21.heap.size w21 w23 := below_trans hb22 hb23
      have RE := Lib.hid (cells_later h23)
      have HV23 := Lib.hid (HV22.out.below hb23)
      have HF23 := Lib.hid (HV21.out.below hy23)
      have HDC23 := HDC.out _ (below_trans hb21 hy23)
      have t0 := RF.out 0 _ rfl _ hy23
      have t1 := RF.out 1 _ rfl _ hy23
      have t2 := RF.out 2 _ rfl _ hy23
      clear h23 hon23
      refine go_on ?_
      go_wp2_with fail
      have hz24 : Below w1.heap.size w1 w23.drew := below_drewN hz23 1
      have hy24 : Below w23.heap.size w23 w23.drew := below_drewN (Below.refl _ _) 1
      have RF9 : Hid (∀ (o : Nat) (v : Value), (#[Value.bool (decide (F.num < 0)), Value.slice a20 n20 c20, Value.slice (some ⟨db, dof, none⟩) 1 dcap] : Array Value)[o]? = some v → ∀ w', Below w23.heap.size w23 w' → w'.cell? ⟨w20.heap.size, o, none⟩ = some v) := Lib.hid (fun o v h w' hb => RF.out o v h w' (below_trans hy23 hb))
      clear t0 t1 t2
      have x0 := RX.out 0 _ rfl _ hz24
      have x1 := RX.out 1 _ rfl _ hz24
      have x2 := RX.out 2 _ rfl _ hz24
      have t0 := RF9.out 0 _ rfl _ hy24
      have t1 := RF9.out 1 _ rfl _ hy24
      have t2 := RF9.out 2 _ rfl _ hy24
      have o0 := RE.out 0 _ rfl _ hy24
      have o1 := RE.out 1 _ rfl _ hy24
      have o2 := RE.out 2 _ rfl _ hy24
      go_region_held3 (fun w' => w'.cell? ⟨w.heap.size, 0, none⟩ = some (.bool b1) ∧ w'.cell? ⟨w.heap.size, 1, none⟩ = some (.slice p1 n1 c1) ∧ w'.cell? ⟨w.heap.size, 2, none⟩ = some (.slice p2 n2 c2) ∧ w'.cell? ⟨w20.heap.size, 0, none⟩ = some (.bool (decide (F.num < 0))) ∧ w'.cell? ⟨w20.heap.size, 1, none⟩ = some (.slice a20 n20 c20) ∧ w'.cell? ⟨w20.heap.size, 2, none⟩ = some (.slice (some ⟨db, dof, none⟩) 1 dcap) ∧ w'.cell? ⟨w22.heap.size, 0, none⟩ = some (.bool (decide (E1.num < 0))) ∧ w'.cell? ⟨w22.heap.size, 1, none⟩ = some (.slice a22 n22 c22) ∧ w'.cell? ⟨w22.heap.size, 2, none⟩ = some (.slice i22 j22 k22))
        (((try dsimp only); refine ⟨?_, ?_, ?_, ?_, ?_, ?_, ?_, ?_, ?_⟩ <;> (first | exact RX.out _ _ rfl _ (by assumption) | exact RF9.out _ _ rfl _ (by assumption) | exact RE.out _ _ rfl _ (by assumption) | go_keep)))
        (first | (go_at_call_of 34 (Value.slice (some ⟨db, dof, none⟩) 1 dcap); refine (KCF.out _ _ (HF23.out.below hy24) hz24).mono ?_; rintro en31 w31 ⟨rfl, hb31⟩; have hz31 := below_trans hz24 hb31; have hy31 := below_trans hy24 hb31) | (go_at_call_of 24 (Value.slice (some ⟨db, dof, none⟩) 1 dcap); refine (KTA.out _ _ _ (HF23.out.below hy31) (HV23.out.below hy31)).mono ?_; rintro en32 w32 ⟨⟨v32, rfl, f32, g32⟩, hb32⟩; obtain ⟨a32, n32, c32, i32, j32, k32, hq32⟩ := frac_form f32; subst hq32; have hz32 := below_trans hz31 hb32; have hy32 := below_trans hy31 hb32) | (go_at_call_of 34 (Value.slice a32 n32 c32); refine (KCT.out _ _ f32 hz32).mono ?_; rintro en33 w33 ⟨rfl, hb33⟩; have hz33 := below_trans hz32 hb33; have hy33 := below_trans hy32 hb33))
      go_wp2_with fail
      go_ret
      exact ⟨rfl, below_trans HB1.out hz33⟩
  · have hf' : fewB 8 3 (at3 n1 m1 k1) (at3 n2 m2 k2) = false := by simpa using hf
    rw [hf'] at HF
    clear hf hf'
    go_enter Try.func7, Try.ntmps7
    go_wp2_with fail
    rw [HW1.out]
    refine HF.out.mono ?_
    rintro en0 w0 ⟨rfl, rfl⟩
    go_wp2_with fail
    go_ret
    exact ⟨rfl, HB1.out⟩
end Go.Proofs.Ytebgkfcglmjokaa
