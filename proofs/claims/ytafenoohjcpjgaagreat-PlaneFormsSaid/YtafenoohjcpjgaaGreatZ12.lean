/- Several texts in one: Rn, La, Lb, Lc, H1. -/
import Derived.Test.YtafenoohjcpjgaaGreatZ11
import Derived.Deep.DrawnRows
import Derived.Test.YtafenoohjcpjgaaGreatRows
import Derived.WalkKit
import Derived.ProofKit
import Derived.OpenShut
import Derived.ShutString
import Derived.ChangeOld
import Derived.ChangeArms
import Derived.Carry
import Derived.Lib.SmallJoins
/- What frac tells of fractions: order, sign, quotients; a fraction made. -/
namespace Go.Proofs.YtafenoohjcpjgaaGreat
open Go.RowKit
attribute [local go_sem ↓] Go.wp_at_zero Go.wp_at_succ

theorem results_row_tmp {P : Program} {fn : Func} {p u : Tmp} {ty : TypeId} (h : fn.results = #[.cell p ty, .tmp u]) (tmps : Array Value) (w : World) (g : Nat) (t : TypeId) (cs : Array Value) (fr : Nat × Nat) (d : TypeDesc)
    (hp : tmps.getD p undef = .pointer (some ⟨g, 0, none⟩)) (hg : w.heap[g]? = some (.cells cs t fr))
    (hu : P.underlying ty = some d) (hd : (match d with | .struct _ | .array _ _ => true | _ => false) = true) (hi : (P.info? ty).map (·.size) = some cs.size) :
    (results fn tmps).run P w = .ok (.tuple #[.agg cs, tmps.getD u undef]) w := by
  have hp' : tmps[p]?.getD undef = .pointer (some ⟨g, 0, none⟩) := by simpa using hp
  simp [results, h, hp', asAddr, run_loadVar_row w g t ty cs fr d hg hu hd hi]

/-- What a quotient tells. -/
def QuoPost (w : World) (z : Bool) (Q : Rat) (e : Ending) (w' : World) : Prop :=
  (if z then e = .returned (.tuple #[.agg #[.bool false, .slice none 0 0, .slice none 0 0], .int .i64 11]) else ∃ r, e = .returned (.tuple #[r, .int .i64 0]) ∧ FracV w' r Q ∧ NewF w r) ∧ Below w.heap.size w w'
theorem int_len (n : Int) (h1 : -9223372036854775808 ≤ n) (h2 : n ≤ 9223372036854775807) : (digs n.natAbs).length ≤ 2 := by
  have e : (4294967296 : Nat) ^ 2 = 18446744073709551616 := by decide
  refine len_digs_le.2 ?_
  rw [e]; omega
/-- What two whole numbers make. -/
def makeQ (p q : Int) : Rat := mkRat (if (decide (p < 0) != decide (q < 0)) = true then -(p.natAbs : Int) else p.natAbs) q.natAbs
set_option maxRecDepth 4000 in
set_option maxHeartbeats 2000000 in
theorem make_q {w : World} (p q : Int) (hp1 : -9223372036854775808 ≤ p) (hp2 : p ≤ 9223372036854775807) (hq1 : -9223372036854775808 ≤ q) (hq2 : q ≤ 9223372036854775807) :
    Calls Tryz.prog 118 #[.int .i64 p, .int .i64 q] w (QuoPost w (zerB q.natAbs) (makeQ p q)) := by
  have HP1 := Lib.hid hp1
  have HP2 := Lib.hid hp2
  have HQ1 := Lib.hid hq1
  have HQ2 := Lib.hid hq2
  clear hp1 hp2 hq1 hq2
  by_cases h0 : q = 0
  · have hd : ((q : Int) == 0) = true := by simp [h0]
    have HZ : Hid (zerB q.natAbs = true) := Lib.hid (by rw [h0]; rfl)
    rw [HZ.out]
    clear h0
    go_enter Tryz.func118, Tryz.ntmps118
    go_wp2_with fail
    exact bodyPost_ret (results_row_tmp rfl _ _ w.heap.size _ _ _ _ rfl (heap_alloc_new w _) Tryz.underlying43 rfl ifrac) rfl ⟨by rw [if_pos rfl]; rfl, (Below.refl _ _).alloc (Nat.le_refl _) _⟩
  · have hd : ((q : Int) == 0) = false := by simp [h0]
    have HZ : Hid (zerB q.natAbs = false) := Lib.hid (by simp [zerB, h0])
    rw [HZ.out]
    have H0 := Lib.hid h0
    clear h0
    obtain ⟨bp, hbp⟩ : ∃ x, x = decide (p < 0) := ⟨_, rfl⟩
    obtain ⟨bq, hbq⟩ : ∃ x, x = decide (q < 0) := ⟨_, rfl⟩
    have HBP := Lib.hid hbp
    have HBQ := Lib.hid hbq
    obtain ⟨w1, hw1⟩ : ∃ w1, w1 = w.alloc (Obj.cells #[Value.bool false, Value.slice none 0 0, Value.slice none 0 0] 43) := ⟨_, rfl⟩
    have HB1 : Hid (Below w.heap.size w w1) := Lib.hid (by rw [hw1]; exact (Below.refl _ _).alloc (Nat.le_refl _) _)
    have HR : Hid (w1.heap[w.heap.size]? = some (.cells #[Value.bool false, Value.slice none 0 0, Value.slice none 0 0] 43 (0, 0))) := Lib.hid (by rw [hw1]; exact heap_alloc_new w _)
    have HW1 := Lib.hid hw1.symm
    clear hw1
    have HC1 : Hid (∀ w', Calls Tryz.prog 142 #[.int .i64 p] w' fun e w'' => (∃ r, e = .returned (.agg #[r, .bool bp]) ∧ IsW w'' r (digs p.natAbs)) ∧ Below w'.heap.size w' w'') := Lib.hid (fun w' => by
      refine (fromInt_w p HP1.out HP2.out).mono ?_
      rintro e w'' ⟨⟨r, rfl, u, rfl, hu⟩, hb⟩
      exact ⟨⟨u, by rw [hbp], hu⟩, hb⟩)
    have HC2 : Hid (∀ w', Calls Tryz.prog 142 #[.int .i64 q] w' fun e w'' => (∃ r, e = .returned (.agg #[r, .bool bq]) ∧ IsW w'' r (digs q.natAbs)) ∧ Below w'.heap.size w' w'') := Lib.hid (fun w' => by
      refine (fromInt_w q HQ1.out HQ2.out).mono ?_
      rintro e w'' ⟨⟨r, rfl, u, rfl, hu⟩, hb⟩
      exact ⟨⟨u, by rw [hbq], hu⟩, hb⟩)
    clear hbp hbq
    go_enter Tryz.func118, Tryz.ntmps118
    go_wp2_with fail
    rw [HW1.out]
    refine (HC1.out _).mono ?_
    rintro en2 w2 ⟨⟨r2, rfl, h2⟩, hz2⟩
    obtain ⟨ua, un, uc, hue⟩ := h2.form
    subst hue
    have HU := Lib.hid h2
    clear h2
    go_wp2_with fail
    refine (HC2.out _).mono ?_
    rintro en3 w3 ⟨⟨r3, rfl, h3⟩, hb3⟩
    obtain ⟨va, vn, vc, hve⟩ := h3.form
    subst hve
    have HU3 := Lib.hid (HU.out.below hb3)
    have HV3 := Lib.hid h3
    have hz3 := below_trans hz2 hb3
    clear h3 hb3 hz2
    go_wp2_with fail
    obtain ⟨w4, hw4⟩ : ∃ w4, w4 = (w3.alloc (Obj.cells #[Value.slice ua un uc, Value.bool bp] 87)).alloc (Obj.cells #[Value.slice va vn vc, Value.bool bq] 87) := ⟨_, rfl⟩
    rw [← hw4]
    have hb4 : Below w3.heap.size w3 w4 := by rw [hw4]; exact ((Below.refl _ _).alloc (Nat.le_refl _) _).alloc (by simp) _
    have hz4 := below_trans hz3 hb4
    have HX : Hid (w4.heap[w3.heap.size]? = some (.cells #[Value.slice ua un uc, Value.bool bp] 87 (0, 0))) := Lib.hid (by rw [hw4]; exact heap_alloc2_old w3 _ _)
    have HY : Hid (w4.heap[w3.heap.size + 1]? = some (.cells #[Value.slice va vn vc, Value.bool bq] 87 (0, 0))) := Lib.hid (by rw [hw4]; exact heap_alloc2_new w3 _ _)
    have HU4 := Lib.hid (HU3.out.below hb4)
    have HV4 := Lib.hid (HV3.out.below hb4)
    have hs3 : w.heap.size + 1 ≤ w3.heap.size := by have h1 := hz3.size; have h2 := lt_of_block HR.out; omega
    clear hw4 hb4
    have R0 : Hid (∀ o v, (#[Value.bool false, Value.slice none 0 0, Value.slice none 0 0] : Array Value)[o]? = some v → ∀ w', Below w1.heap.size w1 w' → w'.cell? ⟨w.heap.size, o, none⟩ = some v ∧ w'.frozen? ⟨w.heap.size, o, none⟩ = false) :=
      Lib.hid (fun o v h w' hb => by
        have h9 : w'.heap[w.heap.size]? = some (.cells #[Value.bool false, Value.slice none 0 0, Value.slice none 0 0] 43 (0, 0)) := (hb.block _ (lt_of_block HR.out)).trans HR.out
        exact ⟨by rw [cell_of_row _ _ _ _ _ _ h9]; exact h, frozen_of_row _ _ _ _ _ h9⟩)
    have RX : Hid (∀ o v, (#[Value.slice ua un uc, Value.bool bp] : Array Value)[o]? = some v → ∀ w', Below w4.heap.size w4 w' → w'.cell? ⟨w3.heap.size, o, none⟩ = some v) :=
      Lib.hid (fun o v h w' hb => by rw [cell_of_row _ _ _ _ _ _ ((hb.block _ (lt_of_block HX.out)).trans HX.out)]; exact h)
    have RY : Hid (∀ o v, (#[Value.slice va vn vc, Value.bool bq] : Array Value)[o]? = some v → ∀ w', Below w4.heap.size w4 w' → w'.cell? ⟨w3.heap.size + 1, o, none⟩ = some v) :=
      Lib.hid (fun o v h w' hb => by rw [cell_of_row _ _ _ _ _ _ ((hb.block _ (lt_of_block HY.out)).trans HY.out)]; exact h)
    obtain ⟨fz, hfz⟩ : ∃ x : Int, x = if (bp != bq) = true then -(p.natAbs : Int) else p.natAbs := ⟨_, rfl⟩
    obtain ⟨fx, hfx⟩ : ∃ x, x = decide (fz < 0) := ⟨_, rfl⟩
    have HFZ := Lib.hid hfz
    have HFX := Lib.hid hfx
    have HFA : Hid (fz.natAbs = p.natAbs) := Lib.hid (signed_abs hfz)
    have HMQ : Hid (makeQ p q = mkRat fz q.natAbs) := Lib.hid (by unfold makeQ; rw [hfz, HBP.out, HBQ.out])
    have HLP := Lib.hid (int_len p HP1.out HP2.out)
    have HLQ := Lib.hid (int_len q HQ1.out HQ2.out)
    have HQ0 : Hid (0 < q.natAbs) := Lib.hid (by have := H0.out; omega)
    clear hfz hfx
    have HM1 := Lib.hid (fun w' (hb : Below w4.heap.size w4 w') => signed_x (w := w') (b := bp != bq) (HU4.out.below hb) HFZ.out HFX.out)
    have HM2 := Lib.hid (fun w' (hb : Below w4.heap.size w4 w') => lowest_w (w := w') (v := .agg #[Value.slice ua un uc, Value.bool fx]) (z := fz) ⟨_, by rw [HFX.out], by rw [HFA.out]; exact HU4.out.below hb⟩ (HV4.out.below hb) HQ0.out (by rw [HFA.out]; have := HLP.out; omega) (by have := HLQ.out; omega))
    have HLN : Hid (lenQ (makeQ p q) ≤ 4) := Lib.hid (by
      have h1 : (digs (makeQ p q).num.natAbs).length ≤ (digs p.natAbs).length := len_digs_mono (by rw [HMQ.out, mkRat_num (by have := HQ0.out; omega)]; refine Nat.le_trans (natAbs_div_le _ _) ?_; rw [HFA.out]; exact Nat.le_refl _)
      have h2 : (digs (makeQ p q).den).length ≤ (digs q.natAbs).length := len_digs_mono (by rw [HMQ.out, mkRat_den (by have := HQ0.out; omega)]; exact Nat.div_le_self _ _)
      have := HLP.out
      have := HLQ.out
      unfold lenQ; omega)
    obtain ⟨Q, hQ⟩ : ∃ Q, Q = makeQ p q := ⟨_, rfl⟩
    have HQQ := Lib.hid hQ
    have HCT := Lib.hid (fun w' x (h : RatQ w' x (mkRat fz q.natAbs)) => tell_w (w := w') (v := x) h (by rw [← HMQ.out]; have := HLN.out; omega))
    rw [← HMQ.out, cut_id (by have := HLN.out; omega), ← hQ] at HCT
    rw [← HMQ.out, ← hQ] at HM2
    clear hQ
    have hz0 : Below w1.heap.size w1 w4.drew := below_drewN hz4 1
    have hy0 : Below w4.heap.size w4 w4.drew := below_drewN (Below.refl _ _) 1
    have c0 := RX.out 0 _ rfl _ (Below.refl _ _)
    have c1 := RX.out 1 _ rfl _ (Below.refl _ _)
    have e0 := RY.out 0 _ rfl _ (Below.refl _ _)
    have e1 := RY.out 1 _ rfl _ (Below.refl _ _)
    go_region_held3 (fun w' => w'.cell? ⟨w3.heap.size, 0, none⟩ = some (.slice ua un uc) ∧ w'.cell? ⟨w3.heap.size, 1, none⟩ = some (.bool bp) ∧ w'.cell? ⟨w3.heap.size + 1, 0, none⟩ = some (.slice va vn vc) ∧ w'.cell? ⟨w3.heap.size + 1, 1, none⟩ = some (.bool bq))
      (((try dsimp only); refine ⟨?_, ?_, ?_, ?_⟩ <;> (first | exact RX.out _ _ rfl _ (by assumption) | exact RY.out _ _ rfl _ (by assumption) | (rw [World.cell?_setCell_far _ _ _ _ (by dsimp only; omega), World.cell?_setCell_far _ _ _ _ (by dsimp only; omega), World.cell?_setCell_far _ _ _ _ (by dsimp only; omega)]; first | exact RX.out _ _ rfl _ (by assumption) | exact RY.out _ _ rfl _ (by assumption)) | go_keep)))
      (first | (go_at_call 114; refine (HM1.out _ hy0).mono ?_; rintro en5 w5 ⟨rfl, hb5⟩; have hz5 := below_trans hz0 hb5; have hy5 := below_trans hy0 hb5) | (go_at_call 143; refine (HM2.out _ hy5).mono ?_; rintro en9 w9 ⟨⟨p9, rfl, h9⟩, hb9⟩; have hz9 := below_trans hz5 hb9; have hy9 := below_trans hy5 hb9) | (go_at_call 55; refine (HCT.out _ _ h9).mono ?_; rintro ent wt ⟨⟨xt, rfl, hft, hnt⟩, hbt⟩; obtain ⟨xa, xn, xc, xi, xj, xk, hx⟩ := frac_form hft; subst hx; have hzt := below_trans hz9 hbt; have r0 := (R0.out 0 _ rfl _ hzt).1; have r1 := (R0.out 1 _ rfl _ hzt).1; have r2 := (R0.out 2 _ rfl _ hzt).1; have f0 := (R0.out 0 _ rfl _ hzt).2; have f1 := (R0.out 1 _ rfl _ hzt).2; have f2 := (R0.out 2 _ rfl _ hzt).2; have hyt := below_trans hy9 hbt))
    have HTE := Lib.hid (tell_end HB1.out hzt HR.out (Nat.le_refl _) hft (hnt.mono hz9.size))
    clear r0 r1 r2 f0 f1 f2
    have r0 := (R0.out 0 _ rfl _ hzt).1
    have r1 := (R0.out 1 _ rfl _ hzt).1
    have r2 := (R0.out 2 _ rfl _ hzt).1
    have f0 := (R0.out 0 _ rfl _ hzt).2
    have f1 := (R0.out 1 _ rfl _ hzt).2
    have f2 := (R0.out 2 _ rfl _ hzt).2
    have HRW : Hid (wt.heap[w.heap.size]? = some (.cells #[Value.bool false, Value.slice none 0 0, Value.slice none 0 0] 43 (0, 0))) := Lib.hid ((hzt.block _ (lt_of_block HR.out)).trans HR.out)
    go_wp2_with fail
    refine bodyPost_ret (results_row_tmp rfl _ _ w.heap.size _ _ _ _ rfl (frac3_heap HRW.out) Tryz.underlying43 rfl ifrac) rfl ?_
    obtain ⟨⟨rr, hr1, hr2, hr3⟩, hr4⟩ := HTE.out
    simp only [Ending.returned.injEq] at hr1
    exact ⟨⟨rr, by rw [← hr1]; rfl, by rw [← HQQ.out]; exact hr2, hr3⟩, hr4⟩
end Go.Proofs.YtafenoohjcpjgaaGreat

/- The order of rational numbers beside sums, products and floors; fractions by what they stand for. -/
namespace Go.Proofs.YtafenoohjcpjgaaGreat
open Go.RowKit

theorem cmpQ_self (a : Rat) : cmpQ a a = 0 := by
  unfold cmpQ; rw [if_neg Rat.lt_irrefl, if_pos rfl]
/-- A fraction as it comes, by what it stands for. -/
def InF (w : World) (v : Value) (q : Rat) : Prop := ∃ b l m, RawF w v b l m ∧ q = fixR b l m
theorem InF.below {w w' : World} {v : Value} {q : Rat} (h : InF w v q) (hb : Below w.heap.size w w') : InF w' v q := by
  obtain ⟨b, l, m, h1, h2⟩ := h
  exact ⟨b, l, m, h1.below hb, h2⟩
theorem InF.len {w : World} {v : Value} {q : Rat} (h : InF w v q) : lenQ q ≤ 4096 := by
  obtain ⟨b, l, m, ⟨u, d, rfl, hu, hd⟩, rfl⟩ := h
  exact fix_len hu.ws hd.ws
theorem right_digs {q : Rat} (h : lenQ q ≤ 4096) : rightB (decide (q.num < 0)) (digs q.num.natAbs) (digs q.den) = true := by
  have h1 : val (digs q.num.natAbs) = q.num.natAbs := val_digs _
  have h2 : val (digs q.den) = q.den := val_digs _
  have h3 : digs q.den ≠ [] := fun e => by rw [e] at h2; have := q.den_nz; exact this (by rw [← h2]; rfl)
  unfold rightB shortF normB oneB
  simp only [Bool.and_eq_true, decide_eq_true_eq, Bool.not_eq_true']
  refine ⟨h, norm_digs _, norm_digs _, ?_, ?_, ?_⟩
  · unfold nilB; simpa using h3
  · by_cases h4 : q.num < 0
    · have h5 : digs q.num.natAbs ≠ [] := fun e => by rw [e] at h1; have : (0 : Nat) = q.num.natAbs := h1; omega
      have h6 : nilB (digs q.num.natAbs) = false := by unfold nilB; simpa using h5
      rw [h6]; simp
    · simp [h4]
  · rw [h1, h2]; exact q.reduced
theorem fix_digs {q : Rat} (h : lenQ q ≤ 4096) : fixR (decide (q.num < 0)) (digs q.num.natAbs) (digs q.den) = q := by
  unfold fixR
  rw [if_pos (right_digs h), val_digs, val_digs]
  have e : (if decide (q.num < 0) = true then -((q.num.natAbs : Nat) : Int) else ((q.num.natAbs : Nat) : Int)) = q.num := by
    by_cases h4 : q.num < 0
    · simp [h4]; omega
    · simp [h4]; omega
  rw [e]
  exact Rat.mkRat_self q
theorem FracV.inF {w : World} {v : Value} {q : Rat} (h : FracV w v q) (hl : lenQ q ≤ 4096) : InF w v q := by
  obtain ⟨u, d, rfl, hu, hd⟩ := h
  exact ⟨_, _, _, ⟨_, _, rfl, hu, hd⟩, (fix_digs hl).symm⟩

theorem fix_f {w : World} {x : Value} {P : Rat} (hx : InF w x P) : Calls Tryz.prog 52 #[x] w (TellPost w P) := by
  obtain ⟨b, l, m, h, rfl⟩ := hx
  exact fix_w h
theorem neg_f {w : World} {x : Value} {P : Rat} (hx : InF w x P) : Calls Tryz.prog 22 #[x] w (TellPost w (-P)) := by
  obtain ⟨b, l, m, h, rfl⟩ := hx
  exact neg_q h
/-- What has at most n words of each kind. -/
def FewF (n : Nat) (w : World) (v : Value) (q : Rat) : Prop := ∃ b l m, RawF w v b l m ∧ q = fixR b l m ∧ l.length ≤ n ∧ m.length ≤ n
theorem FewF.inF {n : Nat} {w : World} {v : Value} {q : Rat} (h : FewF n w v q) : InF w v q := by
  obtain ⟨b, l, m, h1, h2, _, _⟩ := h
  exact ⟨b, l, m, h1, h2⟩
theorem FewF.below {n : Nat} {w w' : World} {v : Value} {q : Rat} (h : FewF n w v q) (hb : Below w.heap.size w w') : FewF n w' v q := by
  obtain ⟨b, l, m, h1, h2⟩ := h
  exact ⟨b, l, m, h1.below hb, h2⟩
theorem FewF.len {n : Nat} {w : World} {v : Value} {q : Rat} (h : FewF n w v q) : lenQ q ≤ 2 * n + 1 := by
  obtain ⟨b, l, m, ⟨u, d, rfl, hu, hd⟩, rfl, h1, h2⟩ := h
  by_cases hr : rightB b l m = true
  · obtain ⟨e1, e2, _, _⟩ := right_rat hu.ws hd.ws hr
    unfold lenQ; rw [← e1, ← e2]; omega
  · have : fixR b l m = 0 := by unfold fixR; rw [if_neg hr]
    rw [this, len_zero]; omega
end Go.Proofs.YtafenoohjcpjgaaGreat

/- Arguments that are fractions, as they come in. -/
namespace Go.Proofs.YtafenoohjcpjgaaGreat
open Go.ChangeShapes Go.WideShapes Go.ChangeAt Go.RowKit

theorem own_knob : ownKnob Tryz.prog.godebug = none := by kernel_rfl
theorem laid_out : laidOutB Tryz.prog = true := by kernel_rfl
theorem cells_u32 : Tryz.prog.cellsOf 125 = 1 := by kernel_rfl
theorem cells_frac : Tryz.prog.cellsOf 43 = 3 := by kernel_rfl
/-- What is known of a slice of words that came in: if it is not too long, it reads as words. -/
def MayW (w : World) (v : Value) (n : Nat) : Prop := n ≤ 1073741824 → ∃ l, l.length = n ∧ IsW w v l

/-- What is known of a fraction that came in. -/
def FracI (w : World) (v : Value) (b : Bool) (a1 : Option Addr) (n1 c1 : Nat) (a2 : Option Addr) (n2 c2 : Nat) : Prop :=
  v = .agg #[.bool b, .slice a1 n1 c1, .slice a2 n2 c2] ∧ MayW w (.slice a1 n1 c1) n1 ∧ MayW w (.slice a2 n2 c2) n2

/-- Where the words are few it is a fraction as it comes. -/
theorem FracI.few {w : World} {v : Value} {b : Bool} {a1 : Option Addr} {n1 c1 : Nat} {a2 : Option Addr} {n2 c2 n : Nat} (h : FracI w v b a1 n1 c1 a2 n2 c2) (hn : n ≤ 1073741824) (h1 : n1 ≤ n) (h2 : n2 ≤ n) : ∃ q, FewF n w v q := by
  obtain ⟨rfl, k1, k2⟩ := h
  obtain ⟨l, e1, hl⟩ := k1 (by omega)
  obtain ⟨m, e2, hm⟩ := k2 (by omega)
  exact ⟨_, b, l, m, ⟨_, _, rfl, hl, hm⟩, rfl, by omega, by omega⟩
end Go.Proofs.YtafenoohjcpjgaaGreat

/- few, of the statements. -/
namespace Go.Proofs.YtafenoohjcpjgaaGreat
open Go.RowKit

/-- Have k fractions at most n words each? -/
def fewB (n k : Nat) (f g : Nat → Nat) : Bool := decide (∀ i, i < k → f i ≤ n ∧ g i ≤ n)

end Go.Proofs.YtafenoohjcpjgaaGreat

/- Arguments that are lists of fractions, as they come in. -/
namespace Go.Proofs.YtafenoohjcpjgaaGreat
open Go.ChangeShapes Go.WideShapes Go.ChangeAt Go.RowKit

theorem spot_none {w : World} {b o : Nat} {sp : Option Nat} {v : Value} (h : w.cell? ⟨b, o, sp⟩ = some v) : sp = none := by
  cases sp with
  | none => rfl
  | some x =>
    unfold World.cell? at h
    split at h <;> simp at h
theorem add_flat (b o k : Nat) : (⟨b, o, none⟩ : Addr).add k = ⟨b, o + k, none⟩ := by unfold Addr.add; split <;> simp_all
theorem spot_here {w : World} {a : Addr} {v : Value} (h : w.cell? a = some v) : ∃ b o, a = ⟨b, o, none⟩ ∧ b < w.heap.size := by
  obtain ⟨b, o, sp⟩ := a
  obtain rfl := spot_none h
  refine ⟨b, o, rfl, ?_⟩
  by_cases hb : b < w.heap.size
  · exact hb
  · have : w.heap[b]? = none := by simp; omega
    simp [World.cell?, this] at h

set_option maxRecDepth 8000 in
theorem words_trod {H : Type} {enc : TypeId × Value → H} {W : World} {v : Value} {base fuel : Nat} {x : DataW H × List MemPlace}
    (h : DataW.trod enc Tryz.prog W base (fun _ => true) true fuel 41 [v] = some x) : ∃ a n c, v = .slice a n c ∧ MayW W v n := by
  rcases open_ints Tryz.underlying41 Tryz.underlying125 cells_u32 h with ⟨hcs, _⟩ | ⟨y, len, cap, zs, hcs, _, hl, hm, hz, _, hcell, hw⟩
  · simp at hcs
    subst hcs
    exact ⟨none, 0, 0, rfl, fun _ => ⟨[], rfl, IsW.nil W⟩⟩
  · simp at hcs
    subst hcs
    refine ⟨some y, len, cap, rfl, fun hn => ?_⟩
    by_cases h0 : len = 0
    · subst h0
      exact ⟨[], rfl, some y, cap, rfl, Nat.zero_le _, Nat.zero_le _, ws_nil, Cells.nil _ _, fun h => absurd rfl h⟩
    have hz' : zs.length = cap := by simpa using hz
    have hcell0 : W.cell? y = _ := hcell 0 (by omega)
    obtain ⟨b, off, rfl, hlt⟩ := spot_here hcell0
    have hlen : ((zs.take len).map Int.toNat).length = len := by simp; omega
    have hws : ∀ z ∈ zs, 0 ≤ z ∧ z ≤ 4294967295 := by
      intro z hzm
      have := hw z hzm
      have m1 : IntKind.u32.min = 0 := by decide
      have m2 : IntKind.u32.max = 4294967295 := by decide
      simp only [Lit.wf, m1, m2, Bool.and_eq_true, decide_eq_true_eq] at this
      exact this
    refine ⟨(zs.take len).map Int.toNat, hlen, _, cap, by rw [hlen], by rw [hlen]; exact hl, by rw [hlen]; exact hn, ?_, ?_, ?_⟩
    · intro z hzm
      obtain ⟨z', hz1, rfl⟩ := List.mem_map.1 hzm
      have := hws z' (List.mem_of_mem_take hz1)
      omega
    · intro _
      refine ⟨b, off, rfl, hlt, fun j hj => ?_⟩
      have hj' : j < len := by simp at hj; omega
      have hj2 : j < zs.length := by omega
      have hc := hcell j hj2
      have e : (zs.getD j 0) = zs[j] := by simp [List.getD, hj2]
      have e2 := hws zs[j] (List.getElem_mem hj2)
      have e3 : ((zs[j].toNat : Nat) : Int) = zs[j] := by omega
      have hc' : W.cell? ⟨b, off + j, none⟩ = some (.int .u32 (zs.getD j 0)) := by rw [← add_flat]; exact hc
      rw [hc', e]
      simp [U, e3]
    · intro _ x hx
      cases hx
      exact hlt

set_option maxRecDepth 8000 in
/-- A fraction in memory. -/
theorem frac_trod {H : Type} {enc : TypeId × Value → H} {W : World} {cs : List Value} {base fuel : Nat} {x : DataW H × List MemPlace}
    (h : DataW.trod enc Tryz.prog W base (fun _ => true) true fuel 43 cs = some x) :
    ∃ b a1 n1 c1 a2 n2 c2, cs = [.bool b, .slice a1 n1 c1, .slice a2 n2 c2] ∧ FracI W (.agg #[.bool b, .slice a1 n1 c1, .slice a2 n2 c2]) b a1 n1 c1 a2 n2 c2 := by
  obtain ⟨xs, n, _, rfl, hl, hlen, hf⟩ := DataW.trod_struct Tryz.underlying43 h
  rw [cells_frac] at hl
  obtain ⟨v0, v1, v2, rfl⟩ : ∃ v0 v1 v2, cs = [v0, v1, v2] := by
    match cs, hl with
    | [c0, c1, c2], _ => exact ⟨c0, c1, c2, rfl⟩
  obtain ⟨y0, y1, y2, rfl⟩ : ∃ y0 y1 y2, xs = [y0, y1, y2] := by
    match xs, hlen with
    | [c0, c1, c2], _ => exact ⟨c0, c1, c2, rfl⟩
  have h0 := hf 0 _ rfl
  have h1 := hf 1 _ rfl
  have h2 := hf 2 _ rfl
  have h0' : DataW.trod enc Tryz.prog W base (fun _ => true) true n 4 [v0] = some y0 := h0
  have h1' : DataW.trod enc Tryz.prog W base (fun _ => true) true n 41 [v1] = some y1 := h1
  have h2' : DataW.trod enc Tryz.prog W base (fun _ => true) true n 41 [v2] = some y2 := h2
  obtain ⟨b, hb, _⟩ := DataW.trod_bool Tryz.underlying4 h0'
  obtain ⟨a1, n1, c1, rfl, k1⟩ := words_trod h1'
  obtain ⟨a2, n2, c2, rfl, k2⟩ := words_trod h2'
  simp at hb
  subst hb
  exact ⟨b, a1, n1, c1, a2, n2, c2, rfl, rfl, k1, k2⟩

/-- What is known of a list of fractions that came in. -/
def ListI (w : World) (v : Value) (a : Option Addr) (n c : Nat) : Prop :=
  v = .slice a n c ∧ ∀ i, i < n → ∃ B off b a1 n1 c1 a2 n2 c2, a = some ⟨B, off, none⟩ ∧ w.cell? ⟨B, off + i * 3, none⟩ = some (.bool b) ∧ w.cell? ⟨B, off + i * 3 + 1, none⟩ = some (.slice a1 n1 c1) ∧ w.cell? ⟨B, off + i * 3 + 2, none⟩ = some (.slice a2 n2 c2) ∧
    FracI w (.agg #[.bool b, .slice a1 n1 c1, .slice a2 n2 c2]) b a1 n1 c1 a2 n2 c2
set_option maxRecDepth 8000 in
theorem list_in {H : Type} {enc : TypeId × Value → H} {W : World} {v : Value} {d : DataW H} {p : List MemPlace}
    (h : DataW.Trod enc Tryz.prog W 0 (fun _ => true) true 23 v d p) (hv : ∃ a n c, v = .slice a n c) : ∃ a n c, ListI W v a n c := by
  obtain ⟨a, n, c, rfl⟩ := hv
  refine ⟨a, n, c, rfl, fun i hi => ?_⟩
  obtain ⟨fuel, hf⟩ := h
  rcases DataW.trod_slice Tryz.underlying23 hf with ⟨h0, _⟩ | ⟨a', len, cap, elems, rest, m, _, hcs, _, _, hl, hm, hlen, hel, _, _⟩
  · simp [Value.cells] at h0
    omega
  · simp [Value.cells] at hcs
    obtain ⟨rfl, rfl, rfl⟩ := hcs
    have hsp : ∃ B off, a' = ⟨B, off, none⟩ := by
      have h1 := hel 0 (by omega)
      rw [cells_frac, List.getElem?_eq_getElem (by omega), Option.bind_eq_some_iff] at h1
      obtain ⟨cs, hc1, hc2⟩ := h1
      obtain ⟨b, a1, n1, c1, a2, n2, c2, rfl, -⟩ := frac_trod hc2
      obtain ⟨-, -, hcell⟩ := World.cells?_some hc1
      have e0 := hcell 0 (by omega)
      rw [Nat.zero_mul] at e0
      have e0' : W.cell? a' = _ := e0
      obtain ⟨B, off, h, -⟩ := spot_here e0'
      exact ⟨B, off, h⟩
    obtain ⟨B, off, rfl⟩ := hsp
    have h1 := hel i hi
    rw [cells_frac, List.getElem?_eq_getElem (by omega), Option.bind_eq_some_iff] at h1
    obtain ⟨cs, hc1, hc2⟩ := h1
    obtain ⟨b, a1, n1, c1, a2, n2, c2, rfl, hF⟩ := frac_trod hc2
    obtain ⟨-, -, hcell⟩ := World.cells?_some hc1
    have e0 := hcell 0 (by omega)
    have e1 := hcell 1 (by omega)
    have e2 := hcell 2 (by omega)
    simp only [add_flat, Nat.add_zero] at e0 e1 e2
    exact ⟨B, off, b, a1, n1, c1, a2, n2, c2, rfl, e0, e1, e2, hF⟩
end Go.Proofs.YtafenoohjcpjgaaGreat
