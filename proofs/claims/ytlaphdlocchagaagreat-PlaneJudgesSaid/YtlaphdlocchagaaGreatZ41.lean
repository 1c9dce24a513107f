/- Several texts in one: K8e, K8f, K8. -/
import Derived.Test.YtlaphdlocchagaaGreatZ35
import Derived.Deep.RegionHeld3
import Derived.Deep.DrawnRows
import Derived.Test.YtlaphdlocchagaaGreatZ36
import Derived.Test.YtlaphdlocchagaaGreatZ37
import Derived.Test.YtlaphdlocchagaaGreatZ38
import Derived.Test.YtlaphdlocchagaaGreatZ39
import Derived.Test.YtlaphdlocchagaaGreatZ40
/- Certificates: Judge of plane and of the reference. -/
namespace Go.Proofs.YtlaphdlocchagaaGreat
open Go.RowKit
attribute [local go_sem ↓] Go.wp_at_zero Go.wp_at_succ

theorem fv_few {N : Nat} {w : World} {v : Value} {q : Rat} (h : FracV w v q) (h1 : (digs q.num.natAbs).length ≤ N) (h2 : (digs q.den).length ≤ N) (hl : lenQ q ≤ 4096) : FewF N w v q := by
  obtain ⟨u, d, rfl, hu, hd⟩ := h
  exact ⟨_, _, _, ⟨_, _, rfl, hu, hd⟩, (fix_digs hl).symm, h1, h2⟩
set_option linter.unusedSimpArgs false in
set_option maxRecDepth 100000 in
set_option maxHeartbeats 8000000 in
theorem rj2_w {N : Nat} {w : World} {v c : Value} {P : Pm} {xs ys zs : List Rat} (h : ProgF N w v P) (hc : CertF N w c 2 xs ys zs) (hs : SizesC N P xs zs) :
    Calls Tryz.prog 9 #[v, c] w fun e w' => e = .returned (.bool (judgeQ P 2 xs ys zs)) ∧ Below w.heap.size w w' := by
  have HS := Lib.hid hs
  have HP0 := Lib.hid h
  have HP := Lib.hid h
  obtain ⟨fa, fc, ga, gc, ra, rc, rfl, -, -, -, hG, hR⟩ := h
  obtain ⟨xa, xc, ya, yc, za, zc, rfl, hX, hY, hZ⟩ := hc
  have HX0 := Lib.hid hX
  have HY0 := Lib.hid hY
  have HR := Lib.hid hR
  obtain ⟨z, hz⟩ : ∃ z, z = P.vars := ⟨_, rfl⟩
  obtain ⟨fn, hfn⟩ : ∃ n, n = P.free.length := ⟨_, rfl⟩
  obtain ⟨gn, hgn⟩ : ∃ n, n = P.goal.length := ⟨_, rfl⟩
  obtain ⟨rn, hrn⟩ : ∃ n, n = P.rows.length := ⟨_, rfl⟩
  obtain ⟨xn, hxn⟩ : ∃ n, n = xs.length := ⟨_, rfl⟩
  obtain ⟨yn, hyn⟩ : ∃ n, n = ys.length := ⟨_, rfl⟩
  obtain ⟨zn, hzn⟩ : ∃ n, n = zs.length := ⟨_, rfl⟩
  rw [← hz] at HP ⊢
  rw [← hfn] at HP ⊢
  rw [← hgn] at HP hG ⊢
  rw [← hrn] at HP ⊢
  rw [← hxn] at hX ⊢
  rw [← hyn] at hY ⊢
  rw [← hzn] at hZ ⊢
  have HG := Lib.hid hG
  have HX := Lib.hid hX
  have HY := Lib.hid hY
  have HZ := Lib.hid hZ
  have HEQ := Lib.hid (And.intro hz (And.intro hfn (And.intro hgn (And.intro hrn (And.intro hxn (And.intro hyn hzn))))))
  obtain ⟨w1, hw1⟩ : ∃ w1, w1 = (w.alloc (Obj.cells #[Value.int .i64 z, Value.slice fa fn fc, Value.slice ga gn gc, Value.slice ra rn rc] 26)).alloc (Obj.cells #[Value.int .i64 2, Value.slice xa xn xc, Value.slice ya yn yc, Value.slice za zn zc] 28) := ⟨_, rfl⟩
  have HB1 : Hid (Below w.heap.size w w1) := Lib.hid (by rw [hw1]; exact ((Below.refl _ _).alloc (Nat.le_refl _) _).alloc (by simp) _)
  have HX1 : Hid (w1.heap[w.heap.size]? = some (.cells #[Value.int .i64 z, Value.slice fa fn fc, Value.slice ga gn gc, Value.slice ra rn rc] 26 (0, 0))) := Lib.hid (by rw [hw1]; exact heap_alloc2_old w _ _)
  have HC1 : Hid (w1.heap[w.heap.size + 1]? = some (.cells #[Value.int .i64 2, Value.slice xa xn xc, Value.slice ya yn yc, Value.slice za zn zc] 28 (0, 0))) := Lib.hid (by rw [hw1]; exact heap_alloc2_new w _ _)
  have HW1 := Lib.hid hw1.symm
  clear hw1 hG hR hX hY hZ hz hfn hgn hrn hxn hyn hzn hs
  have RX := Lib.hid (cells_later HX1.out)
  have RC := Lib.hid (cells_later HC1.out)
  have hb1 := Below.refl w1.heap.size w1
  have x0 := RX.out 0 _ rfl _ hb1
  have x1 := RX.out 1 _ rfl _ hb1
  have x2 := RX.out 2 _ rfl _ hb1
  have x3 := RX.out 3 _ rfl _ hb1
  have KR := Lib.hid (fun w' (hb : Below w.heap.size w w') => rright2_w (HP.out.below hb) HS.out.1)
  cases hb : rightB2 P with
  | false =>
    have HE : Hid (judgeQ P 2 xs ys zs = false) := Lib.hid (by unfold judgeQ; rw [hb]; rfl)
    rw [right_20 hb] at KR
    clear hb
    go_enter Tryz.func9, Tryz.ntmps9
    go_wp2_with fail
    rw [HW1.out]
    refine (KR.out _ HB1.out).mono ?_
    rintro en2 w2 ⟨rfl, hb2⟩
    go_wp2_with fail
    go_ret
    exact ⟨by rw [HE.out]; first | done | rfl, below_trans HB1.out hb2⟩
  | true =>
  have HRB := Lib.hid hb
  rw [right_0 hb] at KR
  have HFN : Hid (z = (fn : Int)) := Lib.hid (by have h8 := (right_goal hb).2.1; have := HEQ.out; omega)
  clear hb
  go_enter Tryz.func9, Tryz.ntmps9
  go_wp2_with fail
  rw [HW1.out]
  refine (KR.out _ HB1.out).mono ?_
  rintro en2 w2 ⟨rfl, hb2⟩
  have HZ2 := Lib.hid hb2
  have x0 := RX.out 0 _ rfl _ hb2
  have x1 := RX.out 1 _ rfl _ hb2
  have x2 := RX.out 2 _ rfl _ hb2
  have x3 := RX.out 3 _ rfl _ hb2
  have c0 := RC.out 0 _ rfl _ hb2
  have c1 := RC.out 1 _ rfl _ hb2
  have c2 := RC.out 2 _ rfl _ hb2
  have c3 := RC.out 3 _ rfl _ hb2
  have hz0 : Below w1.heap.size w1 w2.drew := below_drewN hb2 1
  obtain ⟨sb, hsb⟩ : ∃ b, b = signsQ P ys := ⟨_, rfl⟩
  have HSB := Lib.hid hsb
  have KG := Lib.hid (fun w' (hb : Below w.heap.size w w') => rsigns_w (HP.out.below hb) (HY.out.below hb) HRB.out HS.out.2.2.2.2.1 HS.out.2.2.1 HS.out.2.1 HS.out.2.2.2.2.2.2.1)
  rw [← hsb] at KG
  clear hsb
  obtain ⟨U0, hU0⟩ : ∃ U0, U0 = (0 : Rat) := ⟨_, rfl⟩
  have HU0 := Lib.hid hU0
  have KW : Hid (∀ w', Calls Tryz.prog 38 #[.int .i64 0] w' (RTell w' U0)) := Lib.hid (fun w' => by rw [hU0]; exact whole0_w)
  have HUL : Hid ((digs U0.num.natAbs).length ≤ 1 ∧ (digs U0.den).length ≤ 1 ∧ lenQ U0 ≤ 4096) := Lib.hid (by rw [hU0]; exact len_zero9)
  clear hU0 hz0
  obtain rfl := HFN.out
  have hfn100 : fn ≤ 100 := by have := HS.out.2.1; have := HEQ.out; omega
  go_wp2_with fail
  go_loopw [5, 6] (fun lv iv wr => ∃ (i : Nat) (oa : Option Addr) (oc : Nat), i ≤ fn ∧ iv = .int .i64 i ∧ lv = .slice oa i oc ∧ Hid (LFs 1 wr w1.heap.size (.slice oa i oc) (List.replicate i U0)) ∧ Hid (Below w1.heap.size w1 wr)) (fun _ iv _ => fn - (intOf iv).toNat)
  case atStart => exact ⟨0, none, 0, Nat.zero_le _, rfl, rfl, Lib.hid (LFs.nil _ _ _), HZ2⟩
  case round =>
    obtain ⟨i, oa, oc, hi, rfl, rfl, hO, hZ⟩ := hrel
    obtain ⟨wo, rfl⟩ : ∃ wo : World, wo = wr := ⟨_, rfl⟩
    have x0 := RX.out 0 _ rfl _ hZ.out
    by_cases hin : i < fn
    · have t5 : decide ((i : Int) < (fn : Int)) = true := by simp; omega
      go_wp2_with fail
      refine (KW.out _).mono ?_
      rintro en5 w5 ⟨⟨v5, rfl, f5⟩, hb5⟩
      obtain ⟨a5, n5, c5, i5, j5, k5, hq5⟩ := frac_form f5
      subst hq5
      have HB5 := Lib.hid hb5
      have HF5 := Lib.hid (fv_few f5 HUL.out.1 HUL.out.2.1 HUL.out.2.2)
      obtain ⟨bq, hbq⟩ : ∃ bq, bq = decide (U0.num < 0) := ⟨_, rfl⟩
      rw [← hbq] at HF5
      rw [← hbq]
      clear hbq f5 hb5 x0
      obtain ⟨w6, hw6⟩ : ∃ w6, w6 = w5.alloc (Obj.cells #[Value.bool bq, Value.slice a5 n5 c5, Value.slice i5 j5 k5] 47) := ⟨_, rfl⟩
      have HB6 : Hid (Below w5.heap.size w5 w6) := Lib.hid (by rw [hw6]; exact (Below.refl _ _).alloc (Nat.le_refl _) _)
      have HR6 : Hid (w6.heap[w5.heap.size]? = some (.cells #[Value.bool bq, Value.slice a5 n5 c5, Value.slice i5 j5 k5] 47 (0, 0))) := Lib.hid (by rw [hw6]; exact heap_alloc_new w5 _)
      have HZ6 := Lib.hid (below_trans HB5.out HB6.out)
      have HO6 := Lib.hid (hO.out.below HZ6.out)
      have HF6 := Lib.hid (HF5.out.below HB6.out)
      have hsz6 : Hid (w1.heap.size ≤ w6.heap.size) := Lib.hid (by have h1 := hZ.out.size; have h2 := HZ6.out.size; omega)
      go_wp2_with (at_builtin; rw [← hw6]; refine wpList_push_frac rfl _ _ rfl 1 w1.heap.size (Value.slice oa i oc) (List.replicate i U0) rfl HO6.out w5.heap.size 1 bq a5 i5 n5 c5 j5 k5 U0 rfl HR6.out HF6.out (by rw [List.length_replicate]; omega) hsz6.out ?_; intro v7 w7 hown7 hgrow7 hbel7 hat7; refine halt ?_)
      rw [← List.replicate_succ'] at hown7
      have HO7 := Lib.hid hown7
      have HB7 := Lib.hid (hbel7 w1 (below_trans hZ.out HZ6.out))
      obtain ⟨ga7, gc7, hgv⟩ := hown7.form
      rw [List.length_replicate] at hgv
      subst hgv
      clear hown7 hgrow7 hbel7 hat7 hw6
      refine go_on ?_
      go_wp2_with fail
      go_roundw
      case rel => exact ⟨i + 1, _, _, by omega, by go_num, by go_num, HO7, HB7⟩
      case measure => simp [intOf]; omega
    · have t5 : decide ((i : Int) < (fn : Int)) = false := by simp; omega
      obtain rfl : i = fn := by omega
      have x0 := RX.out 0 _ rfl _ hZ.out
      have x1 := RX.out 1 _ rfl _ hZ.out
      have x2 := RX.out 2 _ rfl _ hZ.out
      have x3 := RX.out 3 _ rfl _ hZ.out
      have c2 := RC.out 2 _ rfl _ hZ.out
      have HL := Lib.hid (hO.out.list.up HS.out.2.2.2.1 : ListF N wo (.slice oa i oc) (List.replicate i U0))
      have HEI : Hid (List.replicate i U0 = List.replicate P.free.length 0) := Lib.hid (by rw [HU0.out, HEQ.out.2.1])
      have HGL : Hid (((List.replicate i U0).length : Int) = P.vars) := Lib.hid (by rw [List.length_replicate]; have := HEQ.out; omega)
      go_wp2_with fail
      refine (KG.out _ (below_trans HB1.out hZ.out)).mono ?_
      rintro en4 w4 ⟨rfl, hb4⟩
      have HZ4 := Lib.hid (below_trans hZ.out hb4)
      have HB4 := Lib.hid hb4
      clear hb4 x0 x1 x2 x3 c2
      have x0 := RX.out 0 _ rfl _ HZ4.out
      have x1 := RX.out 1 _ rfl _ HZ4.out
      have x2 := RX.out 2 _ rfl _ HZ4.out
      have x3 := RX.out 3 _ rfl _ HZ4.out
      have c2 := RC.out 2 _ rfl _ HZ4.out
      cases sb with
      | false =>
        have HE : Hid (judgeQ P 2 xs ys zs = false) := Lib.hid (by unfold judgeQ; rw [bounds_two (goal := List.replicate P.free.length 0), ← HSB.out]; simp)
        go_wp2_with fail
        go_ret
        exact ⟨by rw [HE.out]; first | done | rfl, below_trans HB1.out HZ4.out⟩
      | true =>
      obtain ⟨cb, hcb⟩ : ∃ b, b = coverB P ys (List.replicate i U0) := ⟨_, rfl⟩
      have HCB := Lib.hid hcb
      have KT := Lib.hid (fun w' (hb : Below w.heap.size w w') (hb9 : Below wo.heap.size wo w') => rcovers_w (HP.out.below hb) (HY.out.below hb) (HL.out.below hb9) HRB.out HGL.out (signs_len HSB.out.symm) HS.out.2.2.2.2.1 HS.out.2.2.1 HS.out.2.1 HS.out.2.2.2.2.2.2.1)
      rw [← hcb] at KT
      clear hcb
      go_wp2_with fail
      refine (KT.out _ (below_trans HB1.out HZ4.out) HB4.out).mono ?_
      rintro en5 w5 ⟨rfl, hb5⟩
      have HZ5 := Lib.hid (below_trans HZ4.out hb5)
      clear hb5 x0 x1 x2 x3 c2
      have x0 := RX.out 0 _ rfl _ HZ5.out
      have x1 := RX.out 1 _ rfl _ HZ5.out
      have x2 := RX.out 2 _ rfl _ HZ5.out
      have x3 := RX.out 3 _ rfl _ HZ5.out
      have c2 := RC.out 2 _ rfl _ HZ5.out
      cases cb with
      | false =>
        have HE : Hid (judgeQ P 2 xs ys zs = false) := Lib.hid (by unfold judgeQ; rw [bounds_two (goal := List.replicate P.free.length 0), ← HEI.out, ← HCB.out]; simp)
        go_wp2_with fail
        go_ret
        exact ⟨by rw [HE.out]; first | done | rfl, below_trans HB1.out HZ5.out⟩
      | true =>
      have HYR : Hid (yn = rn) := Lib.hid (by have h9 := signs_len HSB.out.symm; have := HEQ.out; omega)
      have HSL : Hid (lenQ (sideQ P ys) ≤ 4002) := Lib.hid (len_side HP0.out HY0.out (signs_len HSB.out.symm) HS.out.2.2.2.2.1 HS.out.2.2.1 HS.out.2.2.2.2.2.2.1)
      obtain ⟨Sd, hS⟩ : ∃ Q, Q = sideQ P ys := ⟨_, rfl⟩
      have HSD := Lib.hid hS
      rw [← hS] at HSL
      have KP := Lib.hid (fun w' (hb : Below w.heap.size w w') => rworth_w (HP.out.below hb) (HY.out.below hb) HRB.out (signs_len HSB.out.symm) HS.out.2.2.2.2.1 HS.out.2.2.1 HS.out.2.1 HS.out.2.2.2.2.2.2.1)
      rw [← hS] at KP
      clear hS
      go_wp2_with fail
      refine (KP.out _ (below_trans HB1.out HZ5.out)).mono ?_
      rintro en6 w6 ⟨⟨v6, rfl, f6⟩, hb6⟩
      obtain ⟨a6, n6, c6, i6, j6, k6, hq6⟩ := frac_form f6
      subst hq6
      have K9 := Lib.hid (rsign_s (n := 4096) (f6.sz (by have := HSL.out; omega) (by have := HSL.out; omega)) (by omega))
      have HZ6 := Lib.hid (below_trans HZ5.out hb6)
      obtain ⟨o, ho⟩ : ∃ o, o = cmpQ Sd 0 := ⟨_, rfl⟩
      have HO := Lib.hid ho
      rw [← ho] at K9
      clear f6 hb6 ho x0 x1 x2 x3 c2
      go_wp2_with fail
      refine K9.out.mono ?_
      rintro en7 w7 ⟨rfl, hb7⟩
      have HZ7 := Lib.hid (below_trans HZ6.out hb7)
      clear hb7
      have HE : Hid (judgeQ P 2 xs ys zs = decide (o < 0)) := Lib.hid (by unfold judgeQ; rw [HRB.out, bounds_two (goal := List.replicate P.free.length 0), ← HEI.out, ← HSB.out, ← HCB.out, ← HSD.out, ← HO.out]; simp)
      by_cases h0 : o < 0
      · have u : decide (o < 0) = true := by simpa using h0
        have HE := Lib.hid (HE.out.trans u)
        clear h0
        go_wp2_with fail
        go_ret
        exact ⟨by rw [HE.out]; first | done | rfl, below_trans HB1.out HZ7.out⟩
      · have u : decide (o < 0) = false := by simpa using h0
        have HE := Lib.hid (HE.out.trans u)
        clear h0
        go_wp2_with fail
        go_ret
        exact ⟨by rw [HE.out]; first | done | rfl, below_trans HB1.out HZ7.out⟩
end Go.Proofs.YtlaphdlocchagaaGreat

/- Certificates: Judge of plane and of the reference. -/
namespace Go.Proofs.YtlaphdlocchagaaGreat
open Go.RowKit
attribute [local go_sem ↓] Go.wp_at_zero Go.wp_at_succ

set_option linter.unusedSimpArgs false in
set_option maxRecDepth 100000 in
set_option maxHeartbeats 8000000 in
theorem rj3_w {N : Nat} {w : World} {v c : Value} {P : Pm} {xs ys zs : List Rat} (h : ProgF N w v P) (hc : CertF N w c 3 xs ys zs) (hs : SizesC N P xs zs) :
    Calls Tryz.prog 9 #[v, c] w fun e w' => e = .returned (.bool (judgeQ P 3 xs ys zs)) ∧ Below w.heap.size w w' := by
  have HS := Lib.hid hs
  have HP0 := Lib.hid h
  have HP := Lib.hid h
  obtain ⟨fa, fc, ga, gc, ra, rc, rfl, -, -, -, hG, hR⟩ := h
  obtain ⟨xa, xc, ya, yc, za, zc, rfl, hX, hY, hZ⟩ := hc
  have HX0 := Lib.hid hX
  have HY0 := Lib.hid hY
  have HR := Lib.hid hR
  obtain ⟨z, hz⟩ : ∃ z, z = P.vars := ⟨_, rfl⟩
  obtain ⟨fn, hfn⟩ : ∃ n, n = P.free.length := ⟨_, rfl⟩
  obtain ⟨gn, hgn⟩ : ∃ n, n = P.goal.length := ⟨_, rfl⟩
  obtain ⟨rn, hrn⟩ : ∃ n, n = P.rows.length := ⟨_, rfl⟩
  obtain ⟨xn, hxn⟩ : ∃ n, n = xs.length := ⟨_, rfl⟩
  obtain ⟨yn, hyn⟩ : ∃ n, n = ys.length := ⟨_, rfl⟩
  obtain ⟨zn, hzn⟩ : ∃ n, n = zs.length := ⟨_, rfl⟩
  rw [← hz] at HP ⊢
  rw [← hfn] at HP ⊢
  rw [← hgn] at HP hG ⊢
  rw [← hrn] at HP ⊢
  rw [← hxn] at hX ⊢
  rw [← hyn] at hY ⊢
  rw [← hzn] at hZ ⊢
  have HG := Lib.hid hG
  have HX := Lib.hid hX
  have HY := Lib.hid hY
  have HZ := Lib.hid hZ
  have HEQ := Lib.hid (And.intro hz (And.intro hfn (And.intro hgn (And.intro hrn (And.intro hxn (And.intro hyn hzn))))))
  obtain ⟨w1, hw1⟩ : ∃ w1, w1 = (w.alloc (Obj.cells #[Value.int .i64 z, Value.slice fa fn fc, Value.slice ga gn gc, Value.slice ra rn rc] 26)).alloc (Obj.cells #[Value.int .i64 3, Value.slice xa xn xc, Value.slice ya yn yc, Value.slice za zn zc] 28) := ⟨_, rfl⟩
  have HB1 : Hid (Below w.heap.size w w1) := Lib.hid (by rw [hw1]; exact ((Below.refl _ _).alloc (Nat.le_refl _) _).alloc (by simp) _)
  have HX1 : Hid (w1.heap[w.heap.size]? = some (.cells #[Value.int .i64 z, Value.slice fa fn fc, Value.slice ga gn gc, Value.slice ra rn rc] 26 (0, 0))) := Lib.hid (by rw [hw1]; exact heap_alloc2_old w _ _)
  have HC1 : Hid (w1.heap[w.heap.size + 1]? = some (.cells #[Value.int .i64 3, Value.slice xa xn xc, Value.slice ya yn yc, Value.slice za zn zc] 28 (0, 0))) := Lib.hid (by rw [hw1]; exact heap_alloc2_new w _ _)
  have HW1 := Lib.hid hw1.symm
  clear hw1 hG hR hX hY hZ hz hfn hgn hrn hxn hyn hzn hs
  have RX := Lib.hid (cells_later HX1.out)
  have RC := Lib.hid (cells_later HC1.out)
  have hb1 := Below.refl w1.heap.size w1
  have x0 := RX.out 0 _ rfl _ hb1
  have x1 := RX.out 1 _ rfl _ hb1
  have x2 := RX.out 2 _ rfl _ hb1
  have x3 := RX.out 3 _ rfl _ hb1
  have KR := Lib.hid (fun w' (hb : Below w.heap.size w w') => rright2_w (HP.out.below hb) HS.out.1)
  cases hb : rightB2 P with
  | false =>
    have HE : Hid (judgeQ P 3 xs ys zs = false) := Lib.hid (by unfold judgeQ; rw [hb]; rfl)
    rw [right_20 hb] at KR
    clear hb
    go_enter Tryz.func9, Tryz.ntmps9
    go_wp2_with fail
    rw [HW1.out]
    refine (KR.out _ HB1.out).mono ?_
    rintro en2 w2 ⟨rfl, hb2⟩
    go_wp2_with fail
    go_ret
    exact ⟨by rw [HE.out]; first | done | rfl, below_trans HB1.out hb2⟩
  | true =>
  have HRB := Lib.hid hb
  rw [right_0 hb] at KR
  have HFN : Hid (z = (fn : Int)) := Lib.hid (by have h8 := (right_goal hb).2.1; have := HEQ.out; omega)
  clear hb
  go_enter Tryz.func9, Tryz.ntmps9
  go_wp2_with fail
  rw [HW1.out]
  refine (KR.out _ HB1.out).mono ?_
  rintro en2 w2 ⟨rfl, hb2⟩
  have HZ2 := Lib.hid hb2
  have x0 := RX.out 0 _ rfl _ hb2
  have x1 := RX.out 1 _ rfl _ hb2
  have x2 := RX.out 2 _ rfl _ hb2
  have x3 := RX.out 3 _ rfl _ hb2
  have c0 := RC.out 0 _ rfl _ hb2
  have c1 := RC.out 1 _ rfl _ hb2
  have c2 := RC.out 2 _ rfl _ hb2
  have c3 := RC.out 3 _ rfl _ hb2
  have hz0 : Below w1.heap.size w1 w2.drew := below_drewN hb2 1
  have KF := Lib.hid (fun w' (hb : Below w.heap.size w w') => rfits_w (HP.out.below hb) (HX.out.below hb) HS.out.1 HS.out.2.2.2.2.1 HS.out.2.2.2.2.2.2.2.1.1 HS.out.2.2.2.2.2.2.2.1.2)
  obtain ⟨fb, hfb⟩ : ∃ b, b = fitsQ P xs := ⟨_, rfl⟩
  rw [← hfb] at KF
  have HFB := Lib.hid hfb
  clear hfb
  have KL := Lib.hid (fun w' (hb : Below w.heap.size w w') => rgoes_w (HP.out.below hb) (HZ.out.below hb) HS.out.1 HRB.out HS.out.2.1 HS.out.2.2.2.2.2.1 HS.out.2.2.2.2.1 HS.out.2.2.2.2.2.2.2.2.1 HS.out.2.2.2.2.2.2.2.2.2)
  obtain ⟨lb, hlb⟩ : ∃ b, b = leadsQ P zs := ⟨_, rfl⟩
  rw [← hlb] at KL
  have HLB := Lib.hid hlb
  clear hlb hz0
  go_wp2_with fail
  refine (KF.out _ (below_trans HB1.out HZ2.out)).mono ?_
  rintro en4 w4 ⟨rfl, hb4⟩
  have HZ4 := Lib.hid (below_trans HZ2.out hb4)
  have x0 := RX.out 0 _ rfl _ HZ4.out
  have x1 := RX.out 1 _ rfl _ HZ4.out
  have x2 := RX.out 2 _ rfl _ HZ4.out
  have x3 := RX.out 3 _ rfl _ HZ4.out
  have c3 := RC.out 3 _ rfl _ HZ4.out
  clear hb4
  cases fb with
  | false =>
    have HE : Hid (judgeQ P 3 xs ys zs = false) := Lib.hid (by unfold judgeQ; rw [← HFB.out]; simp)
    go_wp2_with fail
    go_ret
    exact ⟨by rw [HE.out]; first | done | rfl, below_trans HB1.out HZ4.out⟩
  | true =>
  have HE : Hid (judgeQ P 3 xs ys zs = lb) := Lib.hid (by unfold judgeQ; rw [HRB.out, ← HFB.out, ← HLB.out]; simp)
  go_wp2_with fail
  refine (KL.out _ (below_trans HB1.out HZ4.out)).mono ?_
  rintro en5 w5 ⟨rfl, hb5⟩
  have HZ5 := Lib.hid (below_trans HZ4.out hb5)
  clear hb5
  go_wp2_with fail
  go_ret
  exact ⟨by rw [HE.out]; first | done | rfl, below_trans HB1.out HZ5.out⟩
set_option linter.unusedSimpArgs false in
set_option maxRecDepth 100000 in
set_option maxHeartbeats 8000000 in
theorem rj0_w {N : Nat} {w : World} {v c : Value} {P : Pm} {k : Int} {xs ys zs : List Rat} (h : ProgF N w v P) (hc : CertF N w c k xs ys zs) (hs : SizesC N P xs zs) (hk : ¬ k = 1 ∧ ¬ k = 2 ∧ ¬ k = 3) :
    Calls Tryz.prog 9 #[v, c] w fun e w' => e = .returned (.bool (judgeQ P k xs ys zs)) ∧ Below w.heap.size w w' := by
  have HS := Lib.hid hs
  have HP0 := Lib.hid h
  have HP := Lib.hid h
  obtain ⟨fa, fc, ga, gc, ra, rc, rfl, -, -, -, hG, hR⟩ := h
  obtain ⟨xa, xc, ya, yc, za, zc, rfl, hX, hY, hZ⟩ := hc
  have HX0 := Lib.hid hX
  have HY0 := Lib.hid hY
  have HR := Lib.hid hR
  obtain ⟨z, hz⟩ : ∃ z, z = P.vars := ⟨_, rfl⟩
  obtain ⟨fn, hfn⟩ : ∃ n, n = P.free.length := ⟨_, rfl⟩
  obtain ⟨gn, hgn⟩ : ∃ n, n = P.goal.length := ⟨_, rfl⟩
  obtain ⟨rn, hrn⟩ : ∃ n, n = P.rows.length := ⟨_, rfl⟩
  obtain ⟨xn, hxn⟩ : ∃ n, n = xs.length := ⟨_, rfl⟩
  obtain ⟨yn, hyn⟩ : ∃ n, n = ys.length := ⟨_, rfl⟩
  obtain ⟨zn, hzn⟩ : ∃ n, n = zs.length := ⟨_, rfl⟩
  rw [← hz] at HP ⊢
  rw [← hfn] at HP ⊢
  rw [← hgn] at HP hG ⊢
  rw [← hrn] at HP ⊢
  rw [← hxn] at hX ⊢
  rw [← hyn] at hY ⊢
  rw [← hzn] at hZ ⊢
  have HG := Lib.hid hG
  have HX := Lib.hid hX
  have HY := Lib.hid hY
  have HZ := Lib.hid hZ
  have HEQ := Lib.hid (And.intro hz (And.intro hfn (And.intro hgn (And.intro hrn (And.intro hxn (And.intro hyn hzn))))))
  obtain ⟨w1, hw1⟩ : ∃ w1, w1 = (w.alloc (Obj.cells #[Value.int .i64 z, Value.slice fa fn fc, Value.slice ga gn gc, Value.slice ra rn rc] 26)).alloc (Obj.cells #[Value.int .i64 k, Value.slice xa xn xc, Value.slice ya yn yc, Value.slice za zn zc] 28) := ⟨_, rfl⟩
  have HB1 : Hid (Below w.heap.size w w1) := Lib.hid (by rw [hw1]; exact ((Below.refl _ _).alloc (Nat.le_refl _) _).alloc (by simp) _)
  have HX1 : Hid (w1.heap[w.heap.size]? = some (.cells #[Value.int .i64 z, Value.slice fa fn fc, Value.slice ga gn gc, Value.slice ra rn rc] 26 (0, 0))) := Lib.hid (by rw [hw1]; exact heap_alloc2_old w _ _)
  have HC1 : Hid (w1.heap[w.heap.size + 1]? = some (.cells #[Value.int .i64 k, Value.slice xa xn xc, Value.slice ya yn yc, Value.slice za zn zc] 28 (0, 0))) := Lib.hid (by rw [hw1]; exact heap_alloc2_new w _ _)
  have HW1 := Lib.hid hw1.symm
  clear hw1 hG hR hX hY hZ hz hfn hgn hrn hxn hyn hzn hs
  have RX := Lib.hid (cells_later HX1.out)
  have RC := Lib.hid (cells_later HC1.out)
  have hb1 := Below.refl w1.heap.size w1
  have x0 := RX.out 0 _ rfl _ hb1
  have x1 := RX.out 1 _ rfl _ hb1
  have x2 := RX.out 2 _ rfl _ hb1
  have x3 := RX.out 3 _ rfl _ hb1
  have KR := Lib.hid (fun w' (hb : Below w.heap.size w w') => rright2_w (HP.out.below hb) HS.out.1)
  cases hb : rightB2 P with
  | false =>
    have HE : Hid (judgeQ P k xs ys zs = false) := Lib.hid (by unfold judgeQ; rw [hb]; rfl)
    rw [right_20 hb] at KR
    clear hb
    go_enter Tryz.func9, Tryz.ntmps9
    go_wp2_with fail
    rw [HW1.out]
    refine (KR.out _ HB1.out).mono ?_
    rintro en2 w2 ⟨rfl, hb2⟩
    go_wp2_with fail
    go_ret
    exact ⟨by rw [HE.out]; first | done | rfl, below_trans HB1.out hb2⟩
  | true =>
  have HRB := Lib.hid hb
  rw [right_0 hb] at KR
  have HFN : Hid (z = (fn : Int)) := Lib.hid (by have h8 := (right_goal hb).2.1; have := HEQ.out; omega)
  clear hb
  go_enter Tryz.func9, Tryz.ntmps9
  go_wp2_with fail
  rw [HW1.out]
  refine (KR.out _ HB1.out).mono ?_
  rintro en2 w2 ⟨rfl, hb2⟩
  have HZ2 := Lib.hid hb2
  have x0 := RX.out 0 _ rfl _ hb2
  have x1 := RX.out 1 _ rfl _ hb2
  have x2 := RX.out 2 _ rfl _ hb2
  have x3 := RX.out 3 _ rfl _ hb2
  have c0 := RC.out 0 _ rfl _ hb2
  have c1 := RC.out 1 _ rfl _ hb2
  have c2 := RC.out 2 _ rfl _ hb2
  have c3 := RC.out 3 _ rfl _ hb2
  have hz0 : Below w1.heap.size w1 w2.drew := below_drewN hb2 1
  have t1 : (k == 1) = false := by simpa using hk.1
  have t2 : (k == 2) = false := by simpa using hk.2.1
  have t3 : (k == 3) = false := by simpa using hk.2.2
  have HE : Hid (judgeQ P k xs ys zs = false) := Lib.hid (by unfold judgeQ; rw [if_neg hk.1, if_neg hk.2.1, if_neg hk.2.2]; simp)
  clear hk
  go_wp2_with fail
  go_ret
  exact ⟨by rw [HE.out]; first | done | rfl, below_trans HB1.out HZ2.out⟩
end Go.Proofs.YtlaphdlocchagaaGreat

/- Certificates: Judge of plane and of the reference. -/
namespace Go.Proofs.YtlaphdlocchagaaGreat
open Go.RowKit
attribute [local go_sem ↓] Go.wp_at_zero Go.wp_at_succ

theorem pjudge_w {N : Nat} {w : World} {v c : Value} {P : Pm} {k : Int} {xs ys zs : List Rat} (h : ProgF N w v P) (hc : CertF N w c k xs ys zs) (hs : SizesC N P xs zs) :
    Calls Tryz.prog 8 #[v, c] w fun e w' => e = .returned (.bool (judgeQ P k xs ys zs)) ∧ Below w.heap.size w w' := by
  rcases (by omega : k = 1 ∨ k = 2 ∨ k = 3 ∨ (¬ k = 1 ∧ ¬ k = 2 ∧ ¬ k = 3)) with rfl | rfl | rfl | hk
  · cases hf : fitsQ P xs with
    | false => exact pj1a_w h hc hs hf
    | true =>
      cases hb : boundsQ P ys P.goal with
      | false => exact pj1b_w h hc hs hf hb
      | true => exact pj1c_w h hc hs hf hb
  · cases hb : boundsQ P ys (List.replicate P.free.length 0) with
    | false => exact pj2a_w h hc hs hb
    | true => exact pj2b_w h hc hs hb
  · exact pj3_w h hc hs
  · exact pj0_w h hc hs hk
theorem rjudge_w {N : Nat} {w : World} {v c : Value} {P : Pm} {k : Int} {xs ys zs : List Rat} (h : ProgF N w v P) (hc : CertF N w c k xs ys zs) (hs : SizesC N P xs zs) :
    Calls Tryz.prog 9 #[v, c] w fun e w' => e = .returned (.bool (judgeQ P k xs ys zs)) ∧ Below w.heap.size w w' := by
  rcases (by omega : k = 1 ∨ k = 2 ∨ k = 3 ∨ (¬ k = 1 ∧ ¬ k = 2 ∧ ¬ k = 3)) with rfl | rfl | rfl | hk
  · cases hf : fitsQ P xs with
    | false => exact rj1a_w h hc hs hf
    | true =>
      cases hb : signsQ P ys with
      | false => exact rj1b_w h hc hs hf hb
      | true =>
        cases hg : coverB P ys P.goal with
        | false => exact rj1c_w h hc hs hf hb hg
        | true => exact rj1d_w h hc hs hf hb hg
  · exact rj2_w h hc hs
  · exact rj3_w h hc hs
  · exact rj0_w h hc hs hk
end Go.Proofs.YtlaphdlocchagaaGreat
