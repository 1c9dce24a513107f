/- Several texts in one: Rg, Rh, Ri. -/
import Derived.Test.YtlaphdlocchagaaGreatZ12
import Derived.Deep.DrawnRows
/- Fractions as they come: what they stand for. -/
namespace Go.Proofs.YtlaphdlocchagaaGreat
open Go.RowKit

/-- What a fraction as it comes stands for. -/
def fixR (b : Bool) (l m : List Nat) : Rat := if rightB b l m = true then mkRat (if b then -(val l : Int) else val l) (val m) else 0

theorem right_parts {b : Bool} {l m : List Nat} (h : rightB b l m = true) : l.length + m.length ≤ 4096 ∧ Norm l ∧ Norm m ∧ m ≠ [] ∧ (b = true → l ≠ []) ∧ Nat.gcd (val l) (val m) = 1 := by
  unfold rightB shortF normB nilB oneB at h
  simp only [Bool.and_eq_true, decide_eq_true_eq, Bool.not_eq_true', decide_eq_false_iff_not] at h
  obtain ⟨h1, h2, h3, h4, h5, h6⟩ := h
  refine ⟨h1, h2, h3, fun e => h4 (by rw [e]; rfl), fun hb e => ?_, h6⟩
  subst hb; subst e
  simp at h5

/-- A right fraction is what it is written as. -/
theorem right_rat {b : Bool} {l m : List Nat} (hl : Ws l) (hm : Ws m) (h : rightB b l m = true) :
    l = digs (fixR b l m).num.natAbs ∧ m = digs (fixR b l m).den ∧ b = decide ((fixR b l m).num < 0) ∧ lenQ (fixR b l m) ≤ 4096 := by
  obtain ⟨h1, h2, h3, h4, h5, h6⟩ := right_parts h
  have e1 := digs_val l hl h2
  have e2 := digs_val m hm h3
  have hm0 : val m ≠ 0 := fun e => h4 (by rw [← e2, e, digs_zero])
  have hna : (if b then -(val l : Int) else (val l : Int)).natAbs = val l := by cases b <;> simp
  have hn : (fixR b l m).num = if b then -(val l : Int) else val l := by
    unfold fixR
    rw [if_pos h, mkRat_num hm0, hna, h6]; simp
  have hd : (fixR b l m).den = val m := by
    unfold fixR
    rw [if_pos h, mkRat_den hm0, hna, h6]; simp
  have hl2 : l = digs (fixR b l m).num.natAbs := by rw [hn, hna, e1]
  have hm2 : m = digs (fixR b l m).den := by rw [hd, e2]
  refine ⟨hl2, hm2, ?_, by unfold lenQ; rw [← hl2, ← hm2]; exact h1⟩
  rw [hn]
  cases b with
  | false => simp
  | true =>
    have : val l ≠ 0 := fun e => h5 rfl (by rw [← e1, e, digs_zero])
    simp; omega

theorem fix_len {b : Bool} {l m : List Nat} (hl : Ws l) (hm : Ws m) : lenQ (fixR b l m) ≤ 4096 := by
  by_cases h : rightB b l m = true
  · exact (right_rat hl hm h).2.2.2
  · unfold fixR; rw [if_neg h]
    have e1 : digs (0 : Rat).num.natAbs = [] := by show digs 0 = []; exact digs_zero
    have e2 : digs (0 : Rat).den = [1] := by show digs 1 = [1]; unfold digs; simp [digs]
    unfold lenQ; rw [e1, e2]; simp

set_option maxHeartbeats 1000000 in
theorem read_w {w : World} {v : Value} {b : Bool} {l m : List Nat} (hv : RawF w v b l m) :
    Calls Tryz.prog 68 #[v] w fun e w' => (∃ r, e = .returned r ∧ RatQ w' r (fixR b l m)) ∧ Below w.heap.size w w' := by
  have HV := Lib.hid hv
  obtain ⟨u, d, rfl, hu, hd⟩ := hv
  obtain ⟨ua, un, uc, hue⟩ := hu.form
  subst hue
  obtain ⟨da, dn, dc, hde⟩ := hd.form
  subst hde
  have HU := Lib.hid hu
  have HD := Lib.hid hd
  clear hu hd
  have HB0 : Hid (∀ o p, Below w.heap.size w ((w.alloc o).alloc p)) := Lib.hid (fun o p => ((Below.refl _ _).alloc (Nat.le_refl _) o).alloc (by simp) p)
  by_cases h : rightB b l m = true
  · have HRT := Lib.hid (right_rat HU.out.ws HD.out.ws h)
    go_enter Tryz.func68, Tryz.ntmps68
    go_wp2_with fail
    refine (right_w (HV.out.below (HB0.out _ _))).mono ?_
    rintro en w1 ⟨rfl, hbel1⟩
    have HB1 := Lib.hid (below_trans (HB0.out _ _) hbel1)
    have hb1 : w1.heap[w.heap.size]? = some (.cells #[Value.bool b, Value.slice ua un uc, Value.slice da dn dc] 47 (0, 0)) := (hbel1.block _ (by simp; omega)).trans (heap_alloc2_old w _ _)
    have hb2 : w1.heap[w.heap.size + 1]? = some (.cells #[Value.slice none 0 0, Value.bool false, Value.slice none 0 0] 93 (0, 0)) := (hbel1.block _ (by simp)).trans (heap_alloc2_new w _ _)
    have c0 : w1.cell? ⟨w.heap.size, 0, none⟩ = some (Value.bool b) := by rw [cell_of_row _ _ _ _ _ _ hb1]; rfl
    have c1 : w1.cell? ⟨w.heap.size, 1, none⟩ = some (Value.slice ua un uc) := by rw [cell_of_row _ _ _ _ _ _ hb1]; rfl
    have c2 : w1.cell? ⟨w.heap.size, 2, none⟩ = some (Value.slice da dn dc) := by rw [cell_of_row _ _ _ _ _ _ hb1]; rfl
    have r0 : w1.cell? ⟨w.heap.size + 1, 0, none⟩ = some (Value.slice none 0 0) := by rw [cell_of_row _ _ _ _ _ _ hb2]; rfl
    have r1 : w1.cell? ⟨w.heap.size + 1, 1, none⟩ = some (Value.bool false) := by rw [cell_of_row _ _ _ _ _ _ hb2]; rfl
    have r2 : w1.cell? ⟨w.heap.size + 1, 2, none⟩ = some (Value.slice none 0 0) := by rw [cell_of_row _ _ _ _ _ _ hb2]; rfl
    have f0 := frozen_of_row _ _ 0 _ _ hb2
    have f1 := frozen_of_row _ _ 1 _ _ hb2
    have f2 := frozen_of_row _ _ 2 _ _ hb2
    have HB2 := Lib.hid hb2
    clear hb1 hb2 hbel1
    go_wp2_with fail
    have h9 := rat3_q (q := fixR b l m) HB2.out (u := Value.slice ua un uc) (d := Value.slice da dn dc) (by rw [← HRT.out.1]; exact HU.out.below HB1.out) (by rw [← HRT.out.2.1]; exact HD.out.below HB1.out)
    rw [← HRT.out.2.2.1] at h9
    exact bodyPost_ret (results_cell_row rfl _ _ (w.heap.size + 1) _ _ _ _ rfl (rat3_heap HB2.out) Tryz.underlying93 rfl irat) rfl ⟨⟨_, rfl, h9⟩, below_only HB1.out (rat3_only _ _ _ _ _) (by omega)⟩
  · have h' : rightB b l m = false := by simpa using h
    have HF : Hid (fixR b l m = 0) := Lib.hid (by unfold fixR; rw [if_neg h])
    clear h
    go_enter Tryz.func68, Tryz.ntmps68
    go_wp2_with fail
    refine (right_w (HV.out.below (HB0.out _ _))).mono ?_
    rintro en w1 ⟨rfl, hbel1⟩
    have HB1 := Lib.hid (below_trans (HB0.out _ _) hbel1)
    have hb2 : w1.heap[w.heap.size + 1]? = some (.cells #[Value.slice none 0 0, Value.bool false, Value.slice none 0 0] 93 (0, 0)) := (hbel1.block _ (by simp)).trans (heap_alloc2_new w _ _)
    have HB2 := Lib.hid hb2
    clear hb2 hbel1
    go_wp2_with fail
    refine zero_w.mono ?_
    rintro en w2 ⟨⟨zv, rfl, zu, zd, rfl, hzu, hzd⟩, hbel2⟩
    obtain ⟨za, zn, zc, hze⟩ := hzu.form
    subst hze
    obtain ⟨ya, yn, yc, hye⟩ := hzd.form
    subst hye
    have hR2 := (hbel2.block _ (lt_of_block HB2.out)).trans HB2.out
    have HBb := Lib.hid (below_trans HB1.out hbel2)
    have HZU := Lib.hid hzu
    have HZD := Lib.hid hzd
    have r0 : w2.cell? ⟨w.heap.size + 1, 0, none⟩ = some (Value.slice none 0 0) := by rw [cell_of_row _ _ _ _ _ _ hR2]; rfl
    have r1 : w2.cell? ⟨w.heap.size + 1, 1, none⟩ = some (Value.bool false) := by rw [cell_of_row _ _ _ _ _ _ hR2]; rfl
    have r2 : w2.cell? ⟨w.heap.size + 1, 2, none⟩ = some (Value.slice none 0 0) := by rw [cell_of_row _ _ _ _ _ _ hR2]; rfl
    have f0 := frozen_of_row _ _ 0 _ _ hR2
    have f1 := frozen_of_row _ _ 1 _ _ hR2
    have f2 := frozen_of_row _ _ 2 _ _ hR2
    have HR2 := Lib.hid hR2
    clear hR2 hzu hzd hbel2
    go_wp2_with fail
    exact bodyPost_ret (results_cell_row rfl _ _ (w.heap.size + 1) _ _ _ _ rfl (rat3_heap HR2.out) Tryz.underlying93 rfl irat) rfl ⟨⟨_, rfl, by rw [HF.out]; exact rat3_q (q := 0) HR2.out HZU.out HZD.out⟩, below_only HBb.out (rat3_only _ _ _ _ _) (by omega)⟩
end Go.Proofs.YtlaphdlocchagaaGreat

/- Ratios: the negative, the inverse. -/
namespace Go.Proofs.YtlaphdlocchagaaGreat
open Go.RowKit

set_option maxHeartbeats 1000000 in
theorem rneg_w {w : World} {v : Value} {q : Rat} (hv : RatQ w v q) :
    Calls Tryz.prog 88 #[v] w fun e w' => (∃ r, e = .returned r ∧ RatQ w' r (-q)) ∧ Below w.heap.size w w' := by
  obtain ⟨u, d, rfl, hu, hd⟩ := hv
  obtain ⟨ua, un, uc, hue⟩ := hu.form
  subst hue
  obtain ⟨da, dn, dc, hde⟩ := hd.form
  subst hde
  have HU := Lib.hid hu
  have HD := Lib.hid hd
  clear hu hd
  have HB0 : Hid (∀ o p, Below w.heap.size w ((w.alloc o).alloc p)) := Lib.hid (fun o p => ((Below.refl _ _).alloc (Nat.le_refl _) o).alloc (by simp) p)
  obtain ⟨b, hb⟩ : ∃ b, b = decide (q.num < 0) := ⟨_, rfl⟩
  have HBQ := Lib.hid hb
  rw [← hb]
  clear hb
  go_enter Tryz.func88, Tryz.ntmps88
  go_wp2_with fail
  obtain ⟨w1, hw1⟩ : ∃ w1, w1 = (w.alloc (Obj.cells #[Value.slice ua un uc, Value.bool b, Value.slice da dn dc] 93)).alloc (Obj.cells #[Value.slice none 0 0, Value.bool false, Value.slice none 0 0] 93) := ⟨_, rfl⟩
  rw [← hw1]
  have HB1 : Hid (Below w.heap.size w w1) := Lib.hid (by rw [hw1]; exact HB0.out _ _)
  have hb1 : w1.heap[w.heap.size]? = some (.cells #[Value.slice ua un uc, Value.bool b, Value.slice da dn dc] 93 (0, 0)) := by rw [hw1]; exact heap_alloc2_old w _ _
  have HB2 : Hid (w1.heap[w.heap.size + 1]? = some (.cells #[Value.slice none 0 0, Value.bool false, Value.slice none 0 0] 93 (0, 0))) := Lib.hid (by rw [hw1]; exact heap_alloc2_new w _ _)
  have c0 : w1.cell? ⟨w.heap.size, 0, none⟩ = some (Value.slice ua un uc) := by rw [cell_of_row _ _ _ _ _ _ hb1]; rfl
  have c1 : w1.cell? ⟨w.heap.size, 1, none⟩ = some (Value.bool b) := by rw [cell_of_row _ _ _ _ _ _ hb1]; rfl
  have c2 : w1.cell? ⟨w.heap.size, 2, none⟩ = some (Value.slice da dn dc) := by rw [cell_of_row _ _ _ _ _ _ hb1]; rfl
  have R0 : Hid (∀ o v, (#[Value.slice none 0 0, Value.bool false, Value.slice none 0 0] : Array Value)[o]? = some v → w1.drew.cell? ⟨w.heap.size + 1, o, none⟩ = some v ∧ w1.drew.frozen? ⟨w.heap.size + 1, o, none⟩ = false) :=
    Lib.hid (fun o v h => ⟨by rw [World.cell?_drew, cell_of_row _ _ _ _ _ _ HB2.out]; exact h, by rw [World.frozen?_drew, frozen_of_row _ _ _ _ _ HB2.out]⟩)
  have HNV : Hid (NumV w1.drew (.agg #[Value.slice ua un uc, Value.bool b]) q.num) := Lib.hid ⟨_, by rw [HBQ.out], (HU.out.below HB1.out).drew⟩
  obtain ⟨nz, hnz⟩ : ∃ nz, nz = (-q).num := ⟨_, rfl⟩
  have HNC := Lib.hid (neg_w HNV.out)
  rw [show -q.num = nz from hnz.symm] at HNC
  have HNZ := Lib.hid hnz
  clear hw1 hb1 hnz
  go_region_held3 (fun w' => w'.cell? ⟨w.heap.size, 0, none⟩ = some (.slice ua un uc) ∧ w'.cell? ⟨w.heap.size, 1, none⟩ = some (.bool b) ∧ w'.cell? ⟨w.heap.size, 2, none⟩ = some (.slice da dn dc))
    (((try dsimp only); refine ⟨?_, ?_, ?_⟩ <;> (first | (refine cell_below ‹Below _ _ _› ?_; first | assumption | (simp [*]; done)) | go_keep)))
    (first | (go_at_call 120; refine HNC.out.mono ?_; rintro en w4 ⟨⟨r, rfl, r1u, rfl, hr1⟩, hbel4⟩; obtain ⟨ra, rn, rc, hre⟩ := hr1.form; subst hre; have r0 := cell_below hbel4 (R0.out 0 _ rfl).1; have r1 := cell_below hbel4 (R0.out 1 _ rfl).1; have r2 := cell_below hbel4 (R0.out 2 _ rfl).1; have f0 := frozen_below hbel4 (by rw [(R0.out 0 _ rfl).1]; rfl) (R0.out 0 _ rfl).2; have f1 := frozen_below hbel4 (by rw [(R0.out 1 _ rfl).1]; rfl) (R0.out 1 _ rfl).2; have f2 := frozen_below hbel4 (by rw [(R0.out 2 _ rfl).1]; rfl) (R0.out 2 _ rfl).2))
  have HR5 : Hid (w4.heap[w.heap.size + 1]? = some (.cells #[Value.slice none 0 0, Value.bool false, Value.slice none 0 0] 93 (0, 0))) := Lib.hid ((hbel4.block _ (lt_of_block HB2.out)).trans HB2.out)
  have HBW := Lib.hid (below_trans HB1.out (below_undrew hbel4))
  have HNU := Lib.hid hr1
  have HND := Lib.hid ((HD.out.below HB1.out).drew.below hbel4)
  clear r0 r1 r2 f0 f1 f2 hr1 hbel4
  go_wp2_with fail
  have h9 := rat3_q (q := -q) (u := Value.slice ra rn rc) HR5.out (by rw [← HNZ.out]; exact HNU.out) HND.out
  rw [← HNZ.out] at h9
  exact bodyPost_ret (results_cell_row rfl _ _ (w.heap.size + 1) _ _ _ _ rfl (rat3_heap HR5.out) Tryz.underlying93 rfl irat) rfl ⟨⟨_, rfl, h9⟩, below_only HBW.out (rat3_only _ _ _ _ _) (by omega)⟩

end Go.Proofs.YtlaphdlocchagaaGreat

/- Ratios: products. -/
namespace Go.Proofs.YtlaphdlocchagaaGreat
open Go.RowKit
attribute [local go_sem ↓] Go.wp_at_zero Go.wp_at_succ

theorem natAbs_div_le (z : Int) (g : Nat) : (z / (g : Int)).natAbs ≤ z.natAbs := Int.natAbs_ediv_le_natAbs z g

/-! ### The contracts of numbers with their signs behind letters -/
theorem shrink_x {w : World} {u d : Value} {b x : Bool} {z q : Int} {y : Nat} (hu : IsW w u (digs z.natAbs)) (hb : b = decide (z < 0)) (hd : IsW w d (digs y)) (hy : 0 < y) (hq : z = q * y) (hl : (digs z.natAbs).length < 1073741824) (hx : x = decide (q < 0)) :
    Calls Tryz.prog 131 #[.agg #[u, .bool b], d] w fun e w' => (∃ r, e = .returned (.agg #[r, .bool x]) ∧ IsW w' r (digs q.natAbs)) ∧ Below w.heap.size w w' := by
  subst hb; subst hx
  refine (shrink_w ⟨_, rfl, hu⟩ hd hy hq hl).mono ?_
  rintro e w' ⟨⟨r, rfl, u', rfl, h⟩, hb⟩
  exact ⟨⟨u', rfl, h⟩, hb⟩
theorem scale_x {w : World} {u d : Value} {b x : Bool} {z q : Int} {y : Nat} (hu : IsW w u (digs z.natAbs)) (hb : b = decide (z < 0)) (hd : IsW w d (digs y)) (hl : (digs z.natAbs).length + (digs y).length ≤ 536870912) (hq : q = z * y) (hx : x = decide (q < 0)) :
    Calls Tryz.prog 157 #[.agg #[u, .bool b], d] w fun e w' => (∃ r, e = .returned (.agg #[r, .bool x]) ∧ IsW w' r (digs q.natAbs)) ∧ Below w.heap.size w w' := by
  subst hb; subst hx; subst hq
  refine (scale_w ⟨_, rfl, hu⟩ hd hl).mono ?_
  rintro e w' ⟨⟨r, rfl, u', rfl, h⟩, hb⟩
  exact ⟨⟨u', rfl, h⟩, hb⟩
theorem times_x {w : World} {u d : Value} {b c x : Bool} {z y q : Int} (hu : IsW w u (digs z.natAbs)) (hb : b = decide (z < 0)) (hd : IsW w d (digs y.natAbs)) (hc : c = decide (y < 0)) (hl : (digs z.natAbs).length + (digs y.natAbs).length ≤ 536870912) (hq : q = z * y) (hx : x = decide (q < 0)) :
    Calls Tryz.prog 132 #[.agg #[u, .bool b], .agg #[d, .bool c]] w fun e w' => (∃ r, e = .returned (.agg #[r, .bool x]) ∧ IsW w' r (digs q.natAbs)) ∧ Below w.heap.size w w' := by
  subst hb; subst hc; subst hx; subst hq
  refine (times_w ⟨_, rfl, hu⟩ ⟨_, rfl, hd⟩ hl).mono ?_
  rintro e w' ⟨⟨r, rfl, u', rfl, h⟩, hb⟩
  exact ⟨⟨u', rfl, h⟩, hb⟩
theorem plus_x {w : World} {u d : Value} {b c x : Bool} {z y q : Int} (hu : IsW w u (digs z.natAbs)) (hb : b = decide (z < 0)) (hd : IsW w d (digs y.natAbs)) (hc : c = decide (y < 0)) (hl : (digs z.natAbs).length < 1073741824) (hl2 : (digs y.natAbs).length < 1073741824) (hq : q = z + y) (hx : x = decide (q < 0)) :
    Calls Tryz.prog 158 #[.agg #[u, .bool b], .agg #[d, .bool c]] w fun e w' => (∃ r, e = .returned (.agg #[r, .bool x]) ∧ IsW w' r (digs q.natAbs)) ∧ Below w.heap.size w w' := by
  subst hb; subst hc; subst hx; subst hq
  refine (plus_w ⟨_, rfl, hu⟩ ⟨_, rfl, hd⟩ hl hl2).mono ?_
  rintro e w' ⟨⟨r, rfl, u', rfl, h⟩, hb⟩
  exact ⟨⟨u', rfl, h⟩, hb⟩

set_option maxRecDepth 4000 in
set_option maxHeartbeats 2000000 in
theorem rtimes_q {w : World} {v d : Value} {q p : Rat} (hv : RatQ w v q) (hd : RatQ w d p) (hlen : lenQ q + lenQ p ≤ 536870912) :
    Calls Tryz.prog 107 #[v, d] w fun e w' => (∃ r, e = .returned r ∧ RatQ w' r (q * p)) ∧ Below w.heap.size w w' := by
  obtain ⟨u1, d1, rfl, hu1, hd1⟩ := hv
  obtain ⟨u2, d2, rfl, hu2, hd2⟩ := hd
  obtain ⟨ua, un, uc, hue⟩ := hu1.form
  subst hue
  obtain ⟨da, dn, dc, hde⟩ := hd1.form
  subst hde
  obtain ⟨va, vn, vc, hve⟩ := hu2.form
  subst hve
  obtain ⟨ea, en, ec, hee⟩ := hd2.form
  subst hee
  have HU := Lib.hid hu1
  have HD := Lib.hid hd1
  have HV := Lib.hid hu2
  have HE := Lib.hid hd2
  have HL : Hid ((digs q.num.natAbs).length + (digs q.den).length + ((digs p.num.natAbs).length + (digs p.den).length) ≤ 536870912) := Lib.hid hlen
  clear hu1 hd1 hu2 hd2 hlen
  obtain ⟨b, hb⟩ : ∃ b, b = decide (q.num < 0) := ⟨_, rfl⟩
  obtain ⟨c, hc⟩ : ∃ c, c = decide (p.num < 0) := ⟨_, rfl⟩
  have HBQ := Lib.hid hb
  have HCQ := Lib.hid hc
  rw [← hb, ← hc]
  obtain ⟨g, hg⟩ : ∃ g, g = Nat.gcd q.num.natAbs p.den := ⟨_, rfl⟩
  obtain ⟨h, hh⟩ : ∃ h, h = Nat.gcd p.num.natAbs q.den := ⟨_, rfl⟩
  have HG := Lib.hid hg
  have HH := Lib.hid hh
  have hg0 : 0 < g := by rw [hg]; exact Nat.gcd_pos_of_pos_right _ p.den_pos
  have hh0 : 0 < h := by rw [hh]; exact Nat.gcd_pos_of_pos_right _ q.den_pos
  obtain ⟨n1, hn1⟩ : ∃ n1, n1 = q.num / (g : Int) := ⟨_, rfl⟩
  obtain ⟨n2, hn2⟩ : ∃ n2, n2 = p.num / (h : Int) := ⟨_, rfl⟩
  have HN1 : Hid (q.num = n1 * (g : Int)) := Lib.hid (by rw [hn1, hg]; exact (Int.ediv_mul_cancel (gcd_dvd_int _ _)).symm)
  have HN2 : Hid (p.num = n2 * (h : Int)) := Lib.hid (by rw [hn2, hh]; exact (Int.ediv_mul_cancel (gcd_dvd_int _ _)).symm)
  have HNN : Hid ((q * p).num = n1 * n2) := Lib.hid (by rw [hn1, hn2, hg, hh]; exact mul_num q p)
  have HDD : Hid ((q * p).den = q.den / h * (p.den / g)) := Lib.hid (by rw [hg, hh]; exact mul_den q p)
  have HL1 : Hid ((digs n1.natAbs).length ≤ (digs q.num.natAbs).length) := Lib.hid (len_digs_mono (by rw [hn1]; exact natAbs_div_le _ _))
  have HL2 : Hid ((digs n2.natAbs).length ≤ (digs p.num.natAbs).length) := Lib.hid (len_digs_mono (by rw [hn2]; exact natAbs_div_le _ _))
  have HL3 : Hid ((digs (q.den / h)).length ≤ (digs q.den).length) := Lib.hid (len_digs_mono (Nat.div_le_self _ _))
  have HL4 : Hid ((digs (p.den / g)).length ≤ (digs p.den).length) := Lib.hid (len_digs_mono (Nat.div_le_self _ _))
  obtain ⟨x1, hx1⟩ : ∃ x, x = decide (n1 < 0) := ⟨_, rfl⟩
  obtain ⟨x2, hx2⟩ : ∃ x, x = decide (n2 < 0) := ⟨_, rfl⟩
  obtain ⟨x3, hx3⟩ : ∃ x, x = decide (n1 * n2 < 0) := ⟨_, rfl⟩
  have HX1 := Lib.hid hx1
  have HX2 := Lib.hid hx2
  have HX3 := Lib.hid hx3
  clear hb hc hg hh hn1 hn2 hx1 hx2 hx3
  go_enter Tryz.func107, Tryz.ntmps107
  go_wp2_with fail
  obtain ⟨w1, hw1⟩ : ∃ w1, w1 = ((w.alloc (Obj.cells #[Value.slice ua un uc, Value.bool b, Value.slice da dn dc] 93)).alloc (Obj.cells #[Value.slice va vn vc, Value.bool c, Value.slice ea en ec] 93)).alloc (Obj.cells #[Value.slice none 0 0, Value.bool false, Value.slice none 0 0] 93) := ⟨_, rfl⟩
  rw [← hw1]
  have HB1 : Hid (Below w.heap.size w w1) := Lib.hid (by rw [hw1]; exact (((Below.refl _ _).alloc (Nat.le_refl _) _).alloc (by simp) _).alloc (by simp; omega) _)
  have HX : Hid (w1.heap[w.heap.size]? = some (.cells #[Value.slice ua un uc, Value.bool b, Value.slice da dn dc] 93 (0, 0))) := Lib.hid (by rw [hw1]; exact alloc3_0 w _ _ _)
  have HY : Hid (w1.heap[w.heap.size + 1]? = some (.cells #[Value.slice va vn vc, Value.bool c, Value.slice ea en ec] 93 (0, 0))) := Lib.hid (by rw [hw1]; exact alloc3_1 w _ _ _)
  have HR : Hid (w1.heap[w.heap.size + 2]? = some (.cells #[Value.slice none 0 0, Value.bool false, Value.slice none 0 0] 93 (0, 0))) := Lib.hid (by rw [hw1]; exact alloc3_new w _ _ _)
  have c0 : w1.cell? ⟨w.heap.size, 0, none⟩ = some (Value.slice ua un uc) := by rw [cell_of_row _ _ _ _ _ _ HX.out]; rfl
  have c1 : w1.cell? ⟨w.heap.size, 1, none⟩ = some (Value.bool b) := by rw [cell_of_row _ _ _ _ _ _ HX.out]; rfl
  have c2 : w1.cell? ⟨w.heap.size, 2, none⟩ = some (Value.slice da dn dc) := by rw [cell_of_row _ _ _ _ _ _ HX.out]; rfl
  have e0 : w1.cell? ⟨w.heap.size + 1, 0, none⟩ = some (Value.slice va vn vc) := by rw [cell_of_row _ _ _ _ _ _ HY.out]; rfl
  have e1 : w1.cell? ⟨w.heap.size + 1, 1, none⟩ = some (Value.bool c) := by rw [cell_of_row _ _ _ _ _ _ HY.out]; rfl
  have e2 : w1.cell? ⟨w.heap.size + 1, 2, none⟩ = some (Value.slice ea en ec) := by rw [cell_of_row _ _ _ _ _ _ HY.out]; rfl
  clear hw1
  have HC1 := Lib.hid (gcd_w (HU.out.below HB1.out).drew (HE.out.below HB1.out).drew (by have := HL.out; omega) (by have := HL.out; omega))
  have HC2 := Lib.hid (fun w' (hb : Below w1.drew.heap.size w1.drew w') => gcd_w ((HV.out.below HB1.out).drew.below hb) ((HD.out.below HB1.out).drew.below hb) (by have := HL.out; omega) (by have := HL.out; omega))
  rw [← HG.out] at HC1
  go_region_held3 (fun w' => w'.cell? ⟨w.heap.size, 0, none⟩ = some (.slice ua un uc) ∧ w'.cell? ⟨w.heap.size, 1, none⟩ = some (.bool b) ∧ w'.cell? ⟨w.heap.size, 2, none⟩ = some (.slice da dn dc) ∧ w'.cell? ⟨w.heap.size + 1, 0, none⟩ = some (.slice va vn vc) ∧ w'.cell? ⟨w.heap.size + 1, 1, none⟩ = some (.bool c) ∧ w'.cell? ⟨w.heap.size + 1, 2, none⟩ = some (.slice ea en ec))
    (((try dsimp only); refine ⟨?_, ?_, ?_, ?_, ?_, ?_⟩ <;> (first | (refine cell_below ‹Below _ _ _› ?_; first | assumption | (simp [*]; done)) | go_keep)))
    (first | (go_at_call_of 123 (Value.slice ua un uc); refine HC1.out.mono ?_; rintro en w4 ⟨⟨gv, rfl, hgv, hgo⟩, hbel4⟩; obtain ⟨ga, gn, gc, hge⟩ := hgv.form; subst hge) | (go_at_call 123; refine (HC2.out _ hbel4).mono ?_; rintro en w5 ⟨⟨hv, rfl, hhv, hho⟩, hbel5⟩; obtain ⟨ia, in_, ic, hie⟩ := hhv.form; subst hie))
  have HBA : Hid (Below w1.heap.size w1 w5) := Lib.hid (below_trans (below_undrew hbel4) hbel5)
  have HB5 := Lib.hid (below_trans HB1.out HBA.out)
  have HX5 : Hid (w5.heap[w.heap.size]? = some (.cells #[Value.slice ua un uc, Value.bool b, Value.slice da dn dc] 93 (0, 0))) := Lib.hid ((HBA.out.block _ (lt_of_block HX.out)).trans HX.out)
  have HY5 : Hid (w5.heap[w.heap.size + 1]? = some (.cells #[Value.slice va vn vc, Value.bool c, Value.slice ea en ec] 93 (0, 0))) := Lib.hid ((HBA.out.block _ (lt_of_block HY.out)).trans HY.out)
  have HR5 : Hid (w5.heap[w.heap.size + 2]? = some (.cells #[Value.slice none 0 0, Value.bool false, Value.slice none 0 0] 93 (0, 0))) := Lib.hid ((HBA.out.block _ (lt_of_block HR.out)).trans HR.out)
  have HGV := Lib.hid (hgv.below hbel5)
  have HHV : Hid (IsW w5 (Value.slice ia in_ ic) (digs h)) := Lib.hid (by rw [HH.out]; exact hhv)
  clear c0 c1 c2 e0 e1 e2 hgv hgo hhv hho hbel4 hbel5
  have c0 : w5.cell? ⟨w.heap.size, 0, none⟩ = some (Value.slice ua un uc) := by rw [cell_of_row _ _ _ _ _ _ HX5.out]; rfl
  have c1 : w5.cell? ⟨w.heap.size, 1, none⟩ = some (Value.bool b) := by rw [cell_of_row _ _ _ _ _ _ HX5.out]; rfl
  have c2 : w5.cell? ⟨w.heap.size, 2, none⟩ = some (Value.slice da dn dc) := by rw [cell_of_row _ _ _ _ _ _ HX5.out]; rfl
  have e0 : w5.cell? ⟨w.heap.size + 1, 0, none⟩ = some (Value.slice va vn vc) := by rw [cell_of_row _ _ _ _ _ _ HY5.out]; rfl
  have e1 : w5.cell? ⟨w.heap.size + 1, 1, none⟩ = some (Value.bool c) := by rw [cell_of_row _ _ _ _ _ _ HY5.out]; rfl
  have e2 : w5.cell? ⟨w.heap.size + 1, 2, none⟩ = some (Value.slice ea en ec) := by rw [cell_of_row _ _ _ _ _ _ HY5.out]; rfl
  have R0 : Hid (∀ o v, (#[Value.slice none 0 0, Value.bool false, Value.slice none 0 0] : Array Value)[o]? = some v → ∀ w', Below w5.drew.heap.size w5.drew w' → w'.cell? ⟨w.heap.size + 2, o, none⟩ = some v ∧ w'.frozen? ⟨w.heap.size + 2, o, none⟩ = false) :=
    Lib.hid (fun o v h w' hb => by
      have h9 : w'.heap[w.heap.size + 2]? = some (.cells #[Value.slice none 0 0, Value.bool false, Value.slice none 0 0] 93 (0, 0)) := (hb.block _ (lt_of_block HR5.out)).trans HR5.out
      exact ⟨by rw [cell_of_row _ _ _ _ _ _ h9]; exact h, frozen_of_row _ _ _ _ _ h9⟩)
  have R1 : Hid (∀ o v, (#[Value.slice ua un uc, Value.bool b, Value.slice da dn dc] : Array Value)[o]? = some v → ∀ w', Below w5.drew.heap.size w5.drew w' → w'.cell? ⟨w.heap.size, o, none⟩ = some v) :=
    Lib.hid (fun o v h w' hb => by rw [cell_of_row _ _ _ _ _ _ ((hb.block _ (lt_of_block HX5.out)).trans HX5.out)]; exact h)
  have R2 : Hid (∀ o v, (#[Value.slice va vn vc, Value.bool c, Value.slice ea en ec] : Array Value)[o]? = some v → ∀ w', Below w5.drew.heap.size w5.drew w' → w'.cell? ⟨w.heap.size + 1, o, none⟩ = some v) :=
    Lib.hid (fun o v h w' hb => by rw [cell_of_row _ _ _ _ _ _ ((hb.block _ (lt_of_block HY5.out)).trans HY5.out)]; exact h)
  have HC3 := Lib.hid (shrink_x (w := w5.drew) (x := x1) (HU.out.below HB5.out).drew HBQ.out HGV.out.drew hg0 HN1.out (by have := HL.out; omega) HX1.out)
  have HC4 := Lib.hid (fun w' (hb : Below w5.drew.heap.size w5.drew w') => shrink_x (w := w') (x := x2) ((HV.out.below HB5.out).drew.below hb) HCQ.out (HHV.out.drew.below hb) hh0 HN2.out (by have := HL.out; omega) HX2.out)
  have HC5 := Lib.hid (fun w' u1 u2 (h1 : IsW w' u1 (digs n1.natAbs)) (h2 : IsW w' u2 (digs n2.natAbs)) => times_x (w := w') (u := u1) (d := u2) h1 HX1.out h2 HX2.out (by have := HL.out; have := HL1.out; have := HL2.out; omega) rfl HX3.out)
  have HC6 := Lib.hid (fun w' (hb : Below w5.drew.heap.size w5.drew w') => over_w (w := w') ((HD.out.below HB5.out).drew.below hb) (HHV.out.drew.below hb) hh0 (by have := HL.out; omega))
  have HC7 := Lib.hid (fun w' (hb : Below w5.drew.heap.size w5.drew w') => over_w (w := w') ((HE.out.below HB5.out).drew.below hb) (HGV.out.drew.below hb) hg0 (by have := HL.out; omega))
  have HC8 := Lib.hid (fun w' u1 u2 (h1 : IsW w' u1 (digs (q.den / h))) (h2 : IsW w' u2 (digs (p.den / g))) => mul_w (w := w') (u := u1) (v := u2) h1 h2 (by have := HL.out; have := HL3.out; have := HL4.out; omega))
  go_wp2_with fail
  go_region_held3 (fun w' => w'.cell? ⟨w.heap.size, 0, none⟩ = some (.slice ua un uc) ∧ w'.cell? ⟨w.heap.size, 1, none⟩ = some (.bool b) ∧ w'.cell? ⟨w.heap.size, 2, none⟩ = some (.slice da dn dc) ∧ w'.cell? ⟨w.heap.size + 1, 0, none⟩ = some (.slice va vn vc) ∧ w'.cell? ⟨w.heap.size + 1, 1, none⟩ = some (.bool c) ∧ w'.cell? ⟨w.heap.size + 1, 2, none⟩ = some (.slice ea en ec))
    (((try dsimp only); refine ⟨?_, ?_, ?_, ?_, ?_, ?_⟩ <;> (first | exact R1.out _ _ rfl _ (by assumption) | exact R2.out _ _ rfl _ (by assumption) | (rw [World.cell?_setCell_far _ _ _ _ (by dsimp only; omega), World.cell?_setCell_far _ _ _ _ (by dsimp only; omega), World.cell?_setCell_far _ _ _ _ (by dsimp only; omega)]; first | exact R1.out _ _ rfl _ (by assumption) | exact R2.out _ _ rfl _ (by assumption)) | go_keep)))
    (first | (go_at_call_of 131 (Value.slice ga gn gc); refine HC3.out.mono ?_; rintro en w6 ⟨⟨r6, rfl, hr6⟩, hbel6⟩; obtain ⟨a6, n6, k6, he6⟩ := hr6.form; subst he6; have hz6 := hbel6) | (go_at_call 131; refine (HC4.out _ hbel6).mono ?_; rintro en w7 ⟨⟨r7, rfl, hr7⟩, hbel7⟩; obtain ⟨a7, n7, k7, he7⟩ := hr7.form; subst he7; have hz7 := below_trans hz6 hbel7) | (go_at_call 132; refine (HC5.out _ _ _ (hr6.below hbel7) hr7).mono ?_; rintro en w8 ⟨⟨r8, rfl, hr8⟩, hbel8⟩; obtain ⟨a8, n8, k8, he8⟩ := hr8.form; subst he8; have hz8 := below_trans hz7 hbel8) | (go_at_call_of 133 (Value.slice da dn dc); refine (HC6.out _ hz8).mono ?_; rintro en w9 ⟨⟨r9, rfl, hr9, hro9⟩, hbel9⟩; obtain ⟨a9, n9, k9, he9⟩ := hr9.form; subst he9; have hz9 := below_trans hz8 hbel9) | (go_at_call 133; refine (HC7.out _ hz9).mono ?_; rintro en wa ⟨⟨ra, rfl, hra, hroa⟩, hbela⟩; obtain ⟨aa, na, ka, hea⟩ := hra.form; subst hea; have hza := below_trans hz9 hbela) | (go_at_call 104; refine (HC8.out _ _ _ (hr9.below hbela) hra).mono ?_; rintro en wb ⟨⟨rb, rfl, hrb, hrob⟩, hbelb⟩; obtain ⟨ab, nb, kb, heb⟩ := hrb.form; subst heb; have hzb := below_trans hza hbelb; have r0 := (R0.out 0 _ rfl _ hzb).1; have r1 := (R0.out 1 _ rfl _ hzb).1; have r2 := (R0.out 2 _ rfl _ hzb).1; have f0 := (R0.out 0 _ rfl _ hzb).2; have f1 := (R0.out 1 _ rfl _ hzb).2; have f2 := (R0.out 2 _ rfl _ hzb).2))
  have HRB : Hid (wb.heap[w.heap.size + 2]? = some (.cells #[Value.slice none 0 0, Value.bool false, Value.slice none 0 0] 93 (0, 0))) := Lib.hid ((hzb.block _ (lt_of_block HR5.out)).trans HR5.out)
  have HBW := Lib.hid (below_trans HB5.out (below_undrew hzb))
  have HNU := Lib.hid ((hr8.below hbel9).below (below_trans hbela hbelb))
  have HND := Lib.hid hrb
  clear hz6 hz7 hz8 hz9 hza hzb r0 r1 r2 f0 f1 f2 hr6 hr7 hr8 hr9 hra hrb hbel6 hbel7 hbel8 hbel9 hbela hbelb hro9 hroa hrob
  go_wp2_with fail
  have h9 := rat3_q (q := q * p) (u := Value.slice a8 n8 k8) (d := Value.slice ab nb kb) HRB.out (by rw [HNN.out]; exact HNU.out) (by rw [HDD.out]; exact HND.out)
  rw [HNN.out, ← HX3.out] at h9
  exact bodyPost_ret (results_cell_row rfl _ _ (w.heap.size + 2) _ _ _ _ rfl (rat3_heap HRB.out) Tryz.underlying93 rfl irat) rfl ⟨⟨_, rfl, h9⟩, below_only HBW.out (rat3_only _ _ _ _ _) (by omega)⟩
end Go.Proofs.YtlaphdlocchagaaGreat
