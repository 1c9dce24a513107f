/- Several texts in one: Rg, Rh, Ri, Rj, Rk, Rl, Rm. -/
import Derived.Test.YtafenoohjcpjgaaGreatZ10
import Derived.Deep.DrawnRows
import Derived.Deep.DeepCutAuto
/- Fractions as they come: what they stand for. -/
namespace Go.Proofs.YtafenoohjcpjgaaGreat
open Go.RowKit

/-- What a fraction as it comes stands for. -/
def fixR (b : Bool) (l m : List Nat) : Rat := if rightB b l m = true then mkRat (if b then -(val l : Int) else val l) (val m) else 0

theorem right_parts {b : Bool} {l m : List Nat} (h : rightB b l m = true) : l.length + m.length ≤ 4096 ∧ Norm l ∧ Norm m ∧ m ≠ [] ∧ (b = true → l ≠ []) ∧ Nat.gcd (val l) (val m) = 1 := by
  unfold rightB shortF normB nilB oneB at h
  simp only [Bool.and_eq_true, decide_eq_true_eq, Bool.not_eq_true', decide_eq_false_iff_not] at h
  obtain ⟨h1, h2, h3, h4, h5, h6⟩ := h
  refine ⟨h1, h2, h3, fun e => h4 (by rw [e]; rfl), fun hb e => ?_, h6⟩
  subst hb; subst e
  simp at h5

/-- A right fraction is what it is written as. -/
theorem right_rat {b : Bool} {l m : List Nat} (hl : Ws l) (hm : Ws m) (h : rightB b l m = true) :
    l = digs (fixR b l m).num.natAbs ∧ m = digs (fixR b l m).den ∧ b = decide ((fixR b l m).num < 0) ∧ lenQ (fixR b l m) ≤ 4096 := by
  obtain ⟨h1, h2, h3, h4, h5, h6⟩ := right_parts h
  have e1 := digs_val l hl h2
  have e2 := digs_val m hm h3
  have hm0 : val m ≠ 0 := fun e => h4 (by rw [← e2, e, digs_zero])
  have hna : (if b then -(val l : Int) else (val l : Int)).natAbs = val l := by cases b <;> simp
  have hn : (fixR b l m).num = if b then -(val l : Int) else val l := by
    unfold fixR
    rw [if_pos h, mkRat_num hm0, hna, h6]; simp
  have hd : (fixR b l m).den = val m := by
    unfold fixR
    rw [if_pos h, mkRat_den hm0, hna, h6]; simp
  have hl2 : l = digs (fixR b l m).num.natAbs := by rw [hn, hna, e1]
  have hm2 : m = digs (fixR b l m).den := by rw [hd, e2]
  refine ⟨hl2, hm2, ?_, by unfold lenQ; rw [← hl2, ← hm2]; exact h1⟩
  rw [hn]
  cases b with
  | false => simp
  | true =>
    have : val l ≠ 0 := fun e => h5 rfl (by rw [← e1, e, digs_zero])
    simp; omega

theorem fix_len {b : Bool} {l m : List Nat} (hl : Ws l) (hm : Ws m) : lenQ (fixR b l m) ≤ 4096 := by
  by_cases h : rightB b l m = true
  · exact (right_rat hl hm h).2.2.2
  · unfold fixR; rw [if_neg h]
    have e1 : digs (0 : Rat).num.natAbs = [] := by show digs 0 = []; exact digs_zero
    have e2 : digs (0 : Rat).den = [1] := by show digs 1 = [1]; unfold digs; simp [digs]
    unfold lenQ; rw [e1, e2]; simp

set_option maxHeartbeats 1000000 in
theorem read_w {w : World} {v : Value} {b : Bool} {l m : List Nat} (hv : RawF w v b l m) :
    Calls Tryz.prog 56 #[v] w fun e w' => (∃ r, e = .returned r ∧ RatQ w' r (fixR b l m)) ∧ Below w.heap.size w w' := by
  have HV := Lib.hid hv
  obtain ⟨u, d, rfl, hu, hd⟩ := hv
  obtain ⟨ua, un, uc, hue⟩ := hu.form
  subst hue
  obtain ⟨da, dn, dc, hde⟩ := hd.form
  subst hde
  have HU := Lib.hid hu
  have HD := Lib.hid hd
  clear hu hd
  have HB0 : Hid (∀ o p, Below w.heap.size w ((w.alloc o).alloc p)) := Lib.hid (fun o p => ((Below.refl _ _).alloc (Nat.le_refl _) o).alloc (by simp) p)
  by_cases h : rightB b l m = true
  · have HRT := Lib.hid (right_rat HU.out.ws HD.out.ws h)
    go_enter Tryz.func56, Tryz.ntmps56
    go_wp2_with fail
    refine (right_w (HV.out.below (HB0.out _ _))).mono ?_
    rintro en w1 ⟨rfl, hbel1⟩
    have HB1 := Lib.hid (below_trans (HB0.out _ _) hbel1)
    have hb1 : w1.heap[w.heap.size]? = some (.cells #[Value.bool b, Value.slice ua un uc, Value.slice da dn dc] 43 (0, 0)) := (hbel1.block _ (by simp; omega)).trans (heap_alloc2_old w _ _)
    have hb2 : w1.heap[w.heap.size + 1]? = some (.cells #[Value.slice none 0 0, Value.bool false, Value.slice none 0 0] 89 (0, 0)) := (hbel1.block _ (by simp)).trans (heap_alloc2_new w _ _)
    have c0 : w1.cell? ⟨w.heap.size, 0, none⟩ = some (Value.bool b) := by rw [cell_of_row _ _ _ _ _ _ hb1]; rfl
    have c1 : w1.cell? ⟨w.heap.size, 1, none⟩ = some (Value.slice ua un uc) := by rw [cell_of_row _ _ _ _ _ _ hb1]; rfl
    have c2 : w1.cell? ⟨w.heap.size, 2, none⟩ = some (Value.slice da dn dc) := by rw [cell_of_row _ _ _ _ _ _ hb1]; rfl
    have r0 : w1.cell? ⟨w.heap.size + 1, 0, none⟩ = some (Value.slice none 0 0) := by rw [cell_of_row _ _ _ _ _ _ hb2]; rfl
    have r1 : w1.cell? ⟨w.heap.size + 1, 1, none⟩ = some (Value.bool false) := by rw [cell_of_row _ _ _ _ _ _ hb2]; rfl
    have r2 : w1.cell? ⟨w.heap.size + 1, 2, none⟩ = some (Value.slice none 0 0) := by rw [cell_of_row _ _ _ _ _ _ hb2]; rfl
    have f0 := frozen_of_row _ _ 0 _ _ hb2
    have f1 := frozen_of_row _ _ 1 _ _ hb2
    have f2 := frozen_of_row _ _ 2 _ _ hb2
    have HB2 := Lib.hid hb2
    clear hb1 hb2 hbel1
    go_wp2_with fail
    have h9 := rat3_q (q := fixR b l m) HB2.out (u := Value.slice ua un uc) (d := Value.slice da dn dc) (by rw [← HRT.out.1]; exact HU.out.below HB1.out) (by rw [← HRT.out.2.1]; exact HD.out.below HB1.out)
    rw [← HRT.out.2.2.1] at h9
    exact bodyPost_ret (results_cell_row rfl _ _ (w.heap.size + 1) _ _ _ _ rfl (rat3_heap HB2.out) Tryz.underlying89 rfl irat) rfl ⟨⟨_, rfl, h9⟩, below_only HB1.out (rat3_only _ _ _ _ _) (by omega)⟩
  · have h' : rightB b l m = false := by simpa using h
    have HF : Hid (fixR b l m = 0) := Lib.hid (by unfold fixR; rw [if_neg h])
    clear h
    go_enter Tryz.func56, Tryz.ntmps56
    go_wp2_with fail
    refine (right_w (HV.out.below (HB0.out _ _))).mono ?_
    rintro en w1 ⟨rfl, hbel1⟩
    have HB1 := Lib.hid (below_trans (HB0.out _ _) hbel1)
    have hb2 : w1.heap[w.heap.size + 1]? = some (.cells #[Value.slice none 0 0, Value.bool false, Value.slice none 0 0] 89 (0, 0)) := (hbel1.block _ (by simp)).trans (heap_alloc2_new w _ _)
    have HB2 := Lib.hid hb2
    clear hb2 hbel1
    go_wp2_with fail
    refine zero_w.mono ?_
    rintro en w2 ⟨⟨zv, rfl, zu, zd, rfl, hzu, hzd⟩, hbel2⟩
    obtain ⟨za, zn, zc, hze⟩ := hzu.form
    subst hze
    obtain ⟨ya, yn, yc, hye⟩ := hzd.form
    subst hye
    have hR2 := (hbel2.block _ (lt_of_block HB2.out)).trans HB2.out
    have HBb := Lib.hid (below_trans HB1.out hbel2)
    have HZU := Lib.hid hzu
    have HZD := Lib.hid hzd
    have r0 : w2.cell? ⟨w.heap.size + 1, 0, none⟩ = some (Value.slice none 0 0) := by rw [cell_of_row _ _ _ _ _ _ hR2]; rfl
    have r1 : w2.cell? ⟨w.heap.size + 1, 1, none⟩ = some (Value.bool false) := by rw [cell_of_row _ _ _ _ _ _ hR2]; rfl
    have r2 : w2.cell? ⟨w.heap.size + 1, 2, none⟩ = some (Value.slice none 0 0) := by rw [cell_of_row _ _ _ _ _ _ hR2]; rfl
    have f0 := frozen_of_row _ _ 0 _ _ hR2
    have f1 := frozen_of_row _ _ 1 _ _ hR2
    have f2 := frozen_of_row _ _ 2 _ _ hR2
    have HR2 := Lib.hid hR2
    clear hR2 hzu hzd hbel2
    go_wp2_with fail
    exact bodyPost_ret (results_cell_row rfl _ _ (w.heap.size + 1) _ _ _ _ rfl (rat3_heap HR2.out) Tryz.underlying89 rfl irat) rfl ⟨⟨_, rfl, by rw [HF.out]; exact rat3_q (q := 0) HR2.out HZU.out HZD.out⟩, below_only HBb.out (rat3_only _ _ _ _ _) (by omega)⟩
end Go.Proofs.YtafenoohjcpjgaaGreat

/- Ratios: the negative, the inverse. -/
namespace Go.Proofs.YtafenoohjcpjgaaGreat
open Go.RowKit

set_option maxHeartbeats 1000000 in
theorem rneg_w {w : World} {v : Value} {q : Rat} (hv : RatQ w v q) :
    Calls Tryz.prog 57 #[v] w fun e w' => (∃ r, e = .returned r ∧ RatQ w' r (-q)) ∧ Below w.heap.size w w' := by
  obtain ⟨u, d, rfl, hu, hd⟩ := hv
  obtain ⟨ua, un, uc, hue⟩ := hu.form
  subst hue
  obtain ⟨da, dn, dc, hde⟩ := hd.form
  subst hde
  have HU := Lib.hid hu
  have HD := Lib.hid hd
  clear hu hd
  have HB0 : Hid (∀ o p, Below w.heap.size w ((w.alloc o).alloc p)) := Lib.hid (fun o p => ((Below.refl _ _).alloc (Nat.le_refl _) o).alloc (by simp) p)
  obtain ⟨b, hb⟩ : ∃ b, b = decide (q.num < 0) := ⟨_, rfl⟩
  have HBQ := Lib.hid hb
  rw [← hb]
  clear hb
  go_enter Tryz.func57, Tryz.ntmps57
  go_wp2_with fail
  obtain ⟨w1, hw1⟩ : ∃ w1, w1 = (w.alloc (Obj.cells #[Value.slice ua un uc, Value.bool b, Value.slice da dn dc] 89)).alloc (Obj.cells #[Value.slice none 0 0, Value.bool false, Value.slice none 0 0] 89) := ⟨_, rfl⟩
  rw [← hw1]
  have HB1 : Hid (Below w.heap.size w w1) := Lib.hid (by rw [hw1]; exact HB0.out _ _)
  have hb1 : w1.heap[w.heap.size]? = some (.cells #[Value.slice ua un uc, Value.bool b, Value.slice da dn dc] 89 (0, 0)) := by rw [hw1]; exact heap_alloc2_old w _ _
  have HB2 : Hid (w1.heap[w.heap.size + 1]? = some (.cells #[Value.slice none 0 0, Value.bool false, Value.slice none 0 0] 89 (0, 0))) := Lib.hid (by rw [hw1]; exact heap_alloc2_new w _ _)
  have c0 : w1.cell? ⟨w.heap.size, 0, none⟩ = some (Value.slice ua un uc) := by rw [cell_of_row _ _ _ _ _ _ hb1]; rfl
  have c1 : w1.cell? ⟨w.heap.size, 1, none⟩ = some (Value.bool b) := by rw [cell_of_row _ _ _ _ _ _ hb1]; rfl
  have c2 : w1.cell? ⟨w.heap.size, 2, none⟩ = some (Value.slice da dn dc) := by rw [cell_of_row _ _ _ _ _ _ hb1]; rfl
  have R0 : Hid (∀ o v, (#[Value.slice none 0 0, Value.bool false, Value.slice none 0 0] : Array Value)[o]? = some v → w1.drew.cell? ⟨w.heap.size + 1, o, none⟩ = some v ∧ w1.drew.frozen? ⟨w.heap.size + 1, o, none⟩ = false) :=
    Lib.hid (fun o v h => ⟨by rw [World.cell?_drew, cell_of_row _ _ _ _ _ _ HB2.out]; exact h, by rw [World.frozen?_drew, frozen_of_row _ _ _ _ _ HB2.out]⟩)
  have HNV : Hid (NumV w1.drew (.agg #[Value.slice ua un uc, Value.bool b]) q.num) := Lib.hid ⟨_, by rw [HBQ.out], (HU.out.below HB1.out).drew⟩
  obtain ⟨nz, hnz⟩ : ∃ nz, nz = (-q).num := ⟨_, rfl⟩
  have HNC := Lib.hid (neg_w HNV.out)
  rw [show -q.num = nz from hnz.symm] at HNC
  have HNZ := Lib.hid hnz
  clear hw1 hb1 hnz
  go_region_held3 (fun w' => w'.cell? ⟨w.heap.size, 0, none⟩ = some (.slice ua un uc) ∧ w'.cell? ⟨w.heap.size, 1, none⟩ = some (.bool b) ∧ w'.cell? ⟨w.heap.size, 2, none⟩ = some (.slice da dn dc))
    (((try dsimp only); refine ⟨?_, ?_, ?_⟩ <;> (first | (refine cell_below ‹Below _ _ _› ?_; first | assumption | (simp [*]; done)) | go_keep)))
    (first | (go_at_call 88; refine HNC.out.mono ?_; rintro en w4 ⟨⟨r, rfl, r1u, rfl, hr1⟩, hbel4⟩; obtain ⟨ra, rn, rc, hre⟩ := hr1.form; subst hre; have r0 := cell_below hbel4 (R0.out 0 _ rfl).1; have r1 := cell_below hbel4 (R0.out 1 _ rfl).1; have r2 := cell_below hbel4 (R0.out 2 _ rfl).1; have f0 := frozen_below hbel4 (by rw [(R0.out 0 _ rfl).1]; rfl) (R0.out 0 _ rfl).2; have f1 := frozen_below hbel4 (by rw [(R0.out 1 _ rfl).1]; rfl) (R0.out 1 _ rfl).2; have f2 := frozen_below hbel4 (by rw [(R0.out 2 _ rfl).1]; rfl) (R0.out 2 _ rfl).2))
  have HR5 : Hid (w4.heap[w.heap.size + 1]? = some (.cells #[Value.slice none 0 0, Value.bool false, Value.slice none 0 0] 89 (0, 0))) := Lib.hid ((hbel4.block _ (lt_of_block HB2.out)).trans HB2.out)
  have HBW := Lib.hid (below_trans HB1.out (below_undrew hbel4))
  have HNU := Lib.hid hr1
  have HND := Lib.hid ((HD.out.below HB1.out).drew.below hbel4)
  clear r0 r1 r2 f0 f1 f2 hr1 hbel4
  go_wp2_with fail
  have h9 := rat3_q (q := -q) (u := Value.slice ra rn rc) HR5.out (by rw [← HNZ.out]; exact HNU.out) HND.out
  rw [← HNZ.out] at h9
  exact bodyPost_ret (results_cell_row rfl _ _ (w.heap.size + 1) _ _ _ _ rfl (rat3_heap HR5.out) Tryz.underlying89 rfl irat) rfl ⟨⟨_, rfl, h9⟩, below_only HBW.out (rat3_only _ _ _ _ _) (by omega)⟩

end Go.Proofs.YtafenoohjcpjgaaGreat

/- Ratios: products. -/
namespace Go.Proofs.YtafenoohjcpjgaaGreat
open Go.RowKit
attribute [local go_sem ↓] Go.wp_at_zero Go.wp_at_succ

theorem natAbs_div_le (z : Int) (g : Nat) : (z / (g : Int)).natAbs ≤ z.natAbs := Int.natAbs_ediv_le_natAbs z g

end Go.Proofs.YtafenoohjcpjgaaGreat

/- Ratios: sums. -/
namespace Go.Proofs.YtafenoohjcpjgaaGreat
open Go.RowKit
attribute [local go_sem ↓] Go.wp_at_zero Go.wp_at_succ

end Go.Proofs.YtafenoohjcpjgaaGreat

/- Ratios: order, floor. -/
namespace Go.Proofs.YtafenoohjcpjgaaGreat
open Go.RowKit
attribute [local go_sem ↓] Go.wp_at_zero Go.wp_at_succ

theorem signed_x {w : World} {v : Value} {b c : Bool} {x : Nat} {z : Int} (hv : IsW w v (digs x)) (hz : z = if b then -(x : Int) else x) (hc : c = decide (z < 0)) :
    Calls Tryz.prog 114 #[v, .bool b] w fun e w' => e = .returned (.agg #[v, .bool c]) ∧ Below w.heap.size w w' := by
  refine (signed_l hv b).mono ?_
  rintro e w' ⟨rfl, hb⟩
  refine ⟨?_, hb⟩
  rw [hc, hz]
  congr 4
  cases b with
  | false => simp
  | true => by_cases h : x = 0 <;> simp [zerB, h] <;> omega
theorem signed_abs {b : Bool} {x : Nat} {z : Int} (hz : z = if b then -(x : Int) else x) : z.natAbs = x := by
  rw [hz]; cases b <;> simp

end Go.Proofs.YtafenoohjcpjgaaGreat

/- What frac tells: made, fixed, computed, compared. -/
namespace Go.Proofs.YtafenoohjcpjgaaGreat
open Go.RowKit
attribute [local go_sem ↓] Go.wp_at_zero Go.wp_at_succ

theorem len_zero : lenQ 0 = 1 := by
  have e1 : digs (0 : Rat).num.natAbs = [] := by show digs 0 = []; exact digs_zero
  have e2 : digs (0 : Rat).den = [1] := by show digs 1 = [1]; unfold digs; simp [digs]
  unfold lenQ; rw [e1, e2]; simp
theorem cut_id {q : Rat} (h : lenQ q ≤ 4096) : cutR q = q := by unfold cutR; rw [if_pos h]

/-- A told fraction. -/
def TellPost (w : World) (q : Rat) (e : Ending) (w' : World) : Prop := (∃ r, e = .returned r ∧ FracV w' r q ∧ NewF w r) ∧ Below w.heap.size w w'
theorem NewF.mono {w w' : World} {v : Value} (h : NewF w' v) (hs : w.heap.size ≤ w'.heap.size) : NewF w v := by
  obtain ⟨b, u, d, rfl, h1, h2⟩ := h
  exact ⟨b, u, d, rfl, fun x e => Nat.le_trans hs (h1 x e), fun x e => Nat.le_trans hs (h2 x e)⟩

theorem len_neg (q : Rat) : lenQ (-q) = lenQ q := by unfold lenQ; rw [Rat.neg_num, Rat.neg_den, Int.natAbs_neg]
/-- The end of a function that tells: the told fraction laid into the result's block. -/
theorem tell_end {w w1 wk : World} {R : Nat} {Q : Rat} {u d : Value} {t : TypeId} (hB1 : Below w.heap.size w w1) (hz : Below w1.heap.size w1 wk) (hR : w1.heap[R]? = some (.cells #[Value.bool false, Value.slice none 0 0, Value.slice none 0 0] t (0, 0))) (hRw : w.heap.size ≤ R)
    (hf : FracV wk (.agg #[.bool (decide (Q.num < 0)), u, d]) Q) (hn : NewF w1 (.agg #[.bool (decide (Q.num < 0)), u, d])) :
    TellPost w Q (.returned (.agg #[.bool (decide (Q.num < 0)), u, d])) (frac3 wk R (decide (Q.num < 0)) u d) := by
  have hR' : wk.heap[R]? = _ := (hz.block _ (lt_of_block hR)).trans hR
  obtain ⟨u', d', he, hu, hd⟩ := hf
  simp only [Value.agg.injEq, Array.mk.injEq, List.cons.injEq, and_true, true_and] at he
  obtain ⟨rfl, rfl⟩ := he
  refine ⟨⟨_, rfl, frac3_q hR' hu hd, ?_⟩, below_only (below_trans hB1 hz) (frac3_only _ _ _ _ _) hRw⟩
  exact hn.mono hB1.size

theorem frac_form {w : World} {r : Value} {Q : Rat} (h : FracV w r Q) : ∃ a n c i j k, r = .agg #[.bool (decide (Q.num < 0)), .slice a n c, .slice i j k] := by
  obtain ⟨u, d, rfl, hu, hd⟩ := h
  obtain ⟨a, n, c, rfl⟩ := hu.form
  obtain ⟨i, j, k, rfl⟩ := hd.form
  exact ⟨a, n, c, i, j, k, rfl⟩

set_option maxHeartbeats 2000000 in
theorem fix_w {w : World} {v : Value} {b : Bool} {l m : List Nat} (hv : RawF w v b l m) :
    Calls Tryz.prog 52 #[v] w (TellPost w (fixR b l m)) := by
  have HV := Lib.hid hv
  have HL1 : Hid (lenQ (fixR b l m) ≤ 4096) := Lib.hid (by obtain ⟨u, d, rfl, hu, hd⟩ := hv; exact fix_len hu.ws hd.ws)
  obtain ⟨u, d, rfl, hu, hd⟩ := hv
  obtain ⟨ua, un, uc, hue⟩ := hu.form
  subst hue
  obtain ⟨da, dn, dc, hde⟩ := hd.form
  subst hde
  clear hu hd
  obtain ⟨P, hP⟩ : ∃ P, P = fixR b l m := ⟨_, rfl⟩
  have HP := Lib.hid hP
  rw [← hP] at HL1
  rw [← hP]
  obtain ⟨Q, hQ⟩ : ∃ Q, Q = P := ⟨_, rfl⟩
  have HQ := Lib.hid hQ
  rw [← hQ]
  clear hP hQ
  obtain ⟨w1, hw1⟩ : ∃ w1, w1 = (w.alloc (Obj.cells #[Value.bool b, Value.slice ua un uc, Value.slice da dn dc] 43)).alloc (Obj.cells #[Value.bool false, Value.slice none 0 0, Value.slice none 0 0] 43) := ⟨_, rfl⟩
  have HB1 : Hid (Below w.heap.size w w1) := Lib.hid (by rw [hw1]; exact ((Below.refl _ _).alloc (Nat.le_refl _) _).alloc (by simp) _)
  have HX : Hid (w1.heap[w.heap.size]? = some (.cells #[Value.bool b, Value.slice ua un uc, Value.slice da dn dc] 43 (0, 0))) := Lib.hid (by rw [hw1]; exact heap_alloc2_old w _ _)
  have HR : Hid (w1.heap[w.heap.size + 1]? = some (.cells #[Value.bool false, Value.slice none 0 0, Value.slice none 0 0] 43 (0, 0))) := Lib.hid (by rw [hw1]; exact heap_alloc2_new w _ _)
  have HW1 := Lib.hid hw1.symm
  clear hw1
  have R0 : Hid (∀ o v, (#[Value.bool false, Value.slice none 0 0, Value.slice none 0 0] : Array Value)[o]? = some v → ∀ w', Below w1.heap.size w1 w' → w'.cell? ⟨w.heap.size + 1, o, none⟩ = some v ∧ w'.frozen? ⟨w.heap.size + 1, o, none⟩ = false) :=
    Lib.hid (fun o v h w' hb => by
      have h9 : w'.heap[w.heap.size + 1]? = some (.cells #[Value.bool false, Value.slice none 0 0, Value.slice none 0 0] 43 (0, 0)) := (hb.block _ (lt_of_block HR.out)).trans HR.out
      exact ⟨by rw [cell_of_row _ _ _ _ _ _ h9]; exact h, frozen_of_row _ _ _ _ _ h9⟩)
  have R1 : Hid (∀ o v, (#[Value.bool b, Value.slice ua un uc, Value.slice da dn dc] : Array Value)[o]? = some v → ∀ w', Below w1.heap.size w1 w' → w'.cell? ⟨w.heap.size, o, none⟩ = some v) :=
    Lib.hid (fun o v h w' hb => by rw [cell_of_row _ _ _ _ _ _ ((hb.block _ (lt_of_block HX.out)).trans HX.out)]; exact h)
  have hz1 := Below.refl w1.heap.size w1
  have c0 := R1.out 0 _ rfl _ hz1
  have c1 := R1.out 1 _ rfl _ hz1
  have c2 := R1.out 2 _ rfl _ hz1
  go_enter Tryz.func52, Tryz.ntmps52
  go_wp2_with fail
  rw [HW1.out]
  have HC1 := Lib.hid (fun w' (hb : Below w1.heap.size w1 w') => read_w (w := w') (HV.out.below (below_trans HB1.out hb)))
  rw [← HP.out] at HC1
  refine (HC1.out _ hz1).mono ?_
  rintro en2 w2 ⟨⟨p2, rfl, h2⟩, hb2⟩
  have hz2 := below_trans hz1 hb2
  have H2 := Lib.hid h2
  clear c0 c1 c2 h2
  go_wp2_with fail
  have HCT := Lib.hid (tell_w H2.out (by have := HL1.out; omega))
  rw [cut_id HL1.out, ← HQ.out] at HCT
  refine HCT.out.mono ?_
  rintro en3 w3 ⟨⟨x3, rfl, hf3, hn3⟩, hb3⟩
  obtain ⟨xa, xn, xc, xi, xj, xk, hx⟩ := frac_form hf3
  subst hx
  have hz3 := below_trans hz2 hb3
  have r0 := (R0.out 0 _ rfl _ hz3).1
  have r1 := (R0.out 1 _ rfl _ hz3).1
  have r2 := (R0.out 2 _ rfl _ hz3).1
  have f0 := (R0.out 0 _ rfl _ hz3).2
  have f1 := (R0.out 1 _ rfl _ hz3).2
  have f2 := (R0.out 2 _ rfl _ hz3).2
  have HTE := Lib.hid (tell_end HB1.out hz3 HR.out (by omega) hf3 (hn3.mono hz2.size))
  clear r0 r1 r2 f0 f1 f2
  have r0 := (R0.out 0 _ rfl _ hz3).1
  have r1 := (R0.out 1 _ rfl _ hz3).1
  have r2 := (R0.out 2 _ rfl _ hz3).1
  have f0 := (R0.out 0 _ rfl _ hz3).2
  have f1 := (R0.out 1 _ rfl _ hz3).2
  have f2 := (R0.out 2 _ rfl _ hz3).2
  have HRW : Hid (w3.heap[w.heap.size + 1]? = some (.cells #[Value.bool false, Value.slice none 0 0, Value.slice none 0 0] 43 (0, 0))) := Lib.hid ((hz3.block _ (lt_of_block HR.out)).trans HR.out)
  go_wp2_with fail
  exact bodyPost_ret (results_cell_row rfl _ _ (w.heap.size + 1) _ _ _ _ rfl (frac3_heap HRW.out) Tryz.underlying43 rfl ifrac) rfl HTE.out

set_option maxHeartbeats 2000000 in
theorem neg_q {w : World} {v : Value} {b : Bool} {l m : List Nat} (hv : RawF w v b l m) :
    Calls Tryz.prog 22 #[v] w (TellPost w (-fixR b l m)) := by
  have HV := Lib.hid hv
  have HL1 : Hid (lenQ (fixR b l m) ≤ 4096) := Lib.hid (by obtain ⟨u, d, rfl, hu, hd⟩ := hv; exact fix_len hu.ws hd.ws)
  obtain ⟨u, d, rfl, hu, hd⟩ := hv
  obtain ⟨ua, un, uc, hue⟩ := hu.form
  subst hue
  obtain ⟨da, dn, dc, hde⟩ := hd.form
  subst hde
  clear hu hd
  obtain ⟨P, hP⟩ : ∃ P, P = fixR b l m := ⟨_, rfl⟩
  have HP := Lib.hid hP
  rw [← hP] at HL1
  rw [← hP]
  obtain ⟨Q, hQ⟩ : ∃ Q, Q = -P := ⟨_, rfl⟩
  have HQ := Lib.hid hQ
  rw [← hQ]
  clear hP hQ
  obtain ⟨w1, hw1⟩ : ∃ w1, w1 = (w.alloc (Obj.cells #[Value.bool b, Value.slice ua un uc, Value.slice da dn dc] 43)).alloc (Obj.cells #[Value.bool false, Value.slice none 0 0, Value.slice none 0 0] 43) := ⟨_, rfl⟩
  have HB1 : Hid (Below w.heap.size w w1) := Lib.hid (by rw [hw1]; exact ((Below.refl _ _).alloc (Nat.le_refl _) _).alloc (by simp) _)
  have HX : Hid (w1.heap[w.heap.size]? = some (.cells #[Value.bool b, Value.slice ua un uc, Value.slice da dn dc] 43 (0, 0))) := Lib.hid (by rw [hw1]; exact heap_alloc2_old w _ _)
  have HR : Hid (w1.heap[w.heap.size + 1]? = some (.cells #[Value.bool false, Value.slice none 0 0, Value.slice none 0 0] 43 (0, 0))) := Lib.hid (by rw [hw1]; exact heap_alloc2_new w _ _)
  have HW1 := Lib.hid hw1.symm
  clear hw1
  have R0 : Hid (∀ o v, (#[Value.bool false, Value.slice none 0 0, Value.slice none 0 0] : Array Value)[o]? = some v → ∀ w', Below w1.heap.size w1 w' → w'.cell? ⟨w.heap.size + 1, o, none⟩ = some v ∧ w'.frozen? ⟨w.heap.size + 1, o, none⟩ = false) :=
    Lib.hid (fun o v h w' hb => by
      have h9 : w'.heap[w.heap.size + 1]? = some (.cells #[Value.bool false, Value.slice none 0 0, Value.slice none 0 0] 43 (0, 0)) := (hb.block _ (lt_of_block HR.out)).trans HR.out
      exact ⟨by rw [cell_of_row _ _ _ _ _ _ h9]; exact h, frozen_of_row _ _ _ _ _ h9⟩)
  have R1 : Hid (∀ o v, (#[Value.bool b, Value.slice ua un uc, Value.slice da dn dc] : Array Value)[o]? = some v → ∀ w', Below w1.heap.size w1 w' → w'.cell? ⟨w.heap.size, o, none⟩ = some v) :=
    Lib.hid (fun o v h w' hb => by rw [cell_of_row _ _ _ _ _ _ ((hb.block _ (lt_of_block HX.out)).trans HX.out)]; exact h)
  have hz1 := Below.refl w1.heap.size w1
  have c0 := R1.out 0 _ rfl _ hz1
  have c1 := R1.out 1 _ rfl _ hz1
  have c2 := R1.out 2 _ rfl _ hz1
  go_enter Tryz.func22, Tryz.ntmps22
  go_wp2_with fail
  rw [HW1.out]
  have HC1 := Lib.hid (fun w' (hb : Below w1.heap.size w1 w') => read_w (w := w') (HV.out.below (below_trans HB1.out hb)))
  rw [← HP.out] at HC1
  refine (HC1.out _ hz1).mono ?_
  rintro en2 w2 ⟨⟨p2, rfl, h2⟩, hb2⟩
  have hz2 := below_trans hz1 hb2
  have H2 := Lib.hid h2
  clear c0 c1 c2 h2
  go_wp2_with fail
  refine (rneg_w H2.out).mono ?_
  rintro en3 w3 ⟨⟨p3, rfl, h3⟩, hb3⟩
  have hz3 := below_trans hz2 hb3
  have H3 := Lib.hid h3
  clear h3
  go_wp2_with fail
  have HCT := Lib.hid (tell_w H3.out (by have h9 : lenQ (-P) = lenQ P := len_neg P; have := HL1.out; omega))
  rw [cut_id (show lenQ (-P) ≤ 4096 by have h9 : lenQ (-P) = lenQ P := len_neg P; have := HL1.out; omega), ← HQ.out] at HCT
  refine HCT.out.mono ?_
  rintro en4 w4 ⟨⟨x4, rfl, hf4, hn4⟩, hb4⟩
  obtain ⟨xa, xn, xc, xi, xj, xk, hx⟩ := frac_form hf4
  subst hx
  have hz4 := below_trans hz3 hb4
  have r0 := (R0.out 0 _ rfl _ hz4).1
  have r1 := (R0.out 1 _ rfl _ hz4).1
  have r2 := (R0.out 2 _ rfl _ hz4).1
  have f0 := (R0.out 0 _ rfl _ hz4).2
  have f1 := (R0.out 1 _ rfl _ hz4).2
  have f2 := (R0.out 2 _ rfl _ hz4).2
  have HTE := Lib.hid (tell_end HB1.out hz4 HR.out (by omega) hf4 (hn4.mono hz3.size))
  clear r0 r1 r2 f0 f1 f2
  have r0 := (R0.out 0 _ rfl _ hz4).1
  have r1 := (R0.out 1 _ rfl _ hz4).1
  have r2 := (R0.out 2 _ rfl _ hz4).1
  have f0 := (R0.out 0 _ rfl _ hz4).2
  have f1 := (R0.out 1 _ rfl _ hz4).2
  have f2 := (R0.out 2 _ rfl _ hz4).2
  have HRW : Hid (w4.heap[w.heap.size + 1]? = some (.cells #[Value.bool false, Value.slice none 0 0, Value.slice none 0 0] 43 (0, 0))) := Lib.hid ((hz4.block _ (lt_of_block HR.out)).trans HR.out)
  go_wp2_with fail
  exact bodyPost_ret (results_cell_row rfl _ _ (w.heap.size + 1) _ _ _ _ rfl (frac3_heap HRW.out) Tryz.underlying43 rfl ifrac) rfl HTE.out

end Go.Proofs.YtafenoohjcpjgaaGreat

/- What frac tells of two fractions: sums, differences, products. -/
namespace Go.Proofs.YtafenoohjcpjgaaGreat
open Go.RowKit
attribute [local go_sem ↓] Go.wp_at_zero Go.wp_at_succ

theorem len_mul (q p : Rat) : lenQ (q * p) ≤ lenQ q + lenQ p := by
  have e1 : (digs (q * p).num.natAbs).length ≤ (digs q.num.natAbs).length + (digs p.num.natAbs).length := by
    rw [mul_num, Int.natAbs_mul]
    refine Nat.le_trans (len_digs_mul _ _) (Nat.add_le_add ?_ ?_)
    · exact len_digs_mono (natAbs_div_le _ _)
    · exact len_digs_mono (natAbs_div_le _ _)
  have e2 : (digs (q * p).den).length ≤ (digs q.den).length + (digs p.den).length := by
    rw [mul_den]
    refine Nat.le_trans (len_digs_mul _ _) (Nat.add_le_add ?_ ?_)
    · exact len_digs_mono (Nat.div_le_self _ _)
    · exact len_digs_mono (Nat.div_le_self _ _)
  unfold lenQ; omega

end Go.Proofs.YtafenoohjcpjgaaGreat
