/- HallAccept answers true at every input: deferred acceptance tells just the matching that the definition says, and no pair blocks it. No conditions. -/
import Derived.Test.YtomnnickiljkgaaIa
import Derived.Test.YtomnnickiljkgaaHz
import Derived.Test.YtomnnickiljkgaaRows
import Derived.WalkKit
import Derived.ProofKit
namespace Go.Proofs.Ytomnnickiljkgaa
open Go.ChangeShapes Go.WideShapes Go.ChangeAt Go.RowKit
section
attribute [local go_sem ↓] Go.wp_at_zero Go.wp_at_succ
set_option maxRecDepth 100000 in
set_option maxHeartbeats 8000000 in
theorem accept_walk {w : World} {u v x : Value} {a b d : Option Addr} {P R : List (List Int)} {l : List Int} {ca cb c : Nat} (h : InL w u a P ca) (h2 : InL w v b R cb) (h3 : InI w x d l c) :
    Calls Try.prog 3 #[u, v, x] w fun e w' => e = .returned (.bool true) ∧ Below w.heap.size w w' := by
  obtain ⟨rfl, hp9, hP⟩ := h
  obtain ⟨rfl, hr9, hR⟩ := h2
  obtain ⟨rfl, hl9, hlc, hI, -⟩ := h3
  have S1 := Lib.hid (small_w (c := ca) hP rfl hp9)
  have S2 := Lib.hid (small_w (c := cb) hR rfl hr9)
  have HP := Lib.hid hP
  have HR := Lib.hid hR
  have HI := Lib.hid hI
  obtain ⟨np, hnp⟩ : ∃ x, x = P.length := ⟨_, rfl⟩
  obtain ⟨nr, hnr⟩ : ∃ x, x = R.length := ⟨_, rfl⟩
  obtain ⟨m, hm⟩ : ∃ x, x = l.length := ⟨_, rfl⟩
  have HNP := Lib.hid hnp
  have HNR := Lib.hid hnr
  have HM := Lib.hid hm
  have hm9 : m ≤ 9223372036854775807 := by simp only [maxLen] at hl9; omega
  rw [← hnp] at S1 ⊢
  rw [← hnr] at S2 ⊢
  rw [← hm]
  clear hp9 hP hr9 hR hl9 hlc hI hnp hnr hm
  go_enter Try.func3, Try.ntmps3
  go_wp2_with fail
  refine S1.out.mono ?_
  rintro en1 w1 ⟨⟨b1, rfl, hs1⟩, rfl⟩
  cases b1 with
  | false =>
    clear hs1
    go_wp2_with fail
    go_ret
    exact ⟨rfl, Below.refl _ _⟩
  | true =>
  have HS1 := Lib.hid (hs1 rfl)
  clear hs1 S1
  go_wp2_with fail
  refine S2.out.mono ?_
  rintro en1 w1 ⟨⟨b1, rfl, hs1⟩, rfl⟩
  cases b1 with
  | false =>
    clear hs1
    go_wp2_with fail
    go_ret
    exact ⟨rfl, Below.refl _ _⟩
  | true =>
  have HS2 := Lib.hid (hs1 rfl)
  clear hs1 S2
  by_cases hm12 : m > 12
  · have t1 : decide ((12 : Int) < (m : Int)) = true := by simp; omega
    have t2 : decide ((m : Int) > 12) = true := by simp; omega
    go_wp2_with fail
    go_ret
    exact ⟨rfl, Below.refl _ _⟩
  have t1 : decide ((12 : Int) < (m : Int)) = false := by simp; omega
  have t2 : decide ((m : Int) > 12) = false := by simp; omega
  have hmm : m ≤ 12 := by omega
  have K1 := Lib.hid (raccept_w (ca := ca) (cb := cb) HP.out HS1.out HNP.out HR.out HS2.out HNR.out)
  obtain ⟨er, her⟩ : ∃ x, x = errS P R := ⟨_, rfl⟩
  have HER := Lib.hid her
  rw [← her] at K1
  clear her hm12
  go_wp2_with fail
  refine K1.out.mono ?_
  rintro en2 w2 ⟨⟨va, vc, l1, rfl, hI1, hA1⟩, hb2⟩
  have HI1 := Lib.hid hI1
  have HA1 := Lib.hid hA1
  have HZ2 := Lib.hid hb2
  have K2 := Lib.hid (rblock_w (ca := ca) (cb := cb) (c := c) (HP.out.below hb2) HS1.out HNP.out (HR.out.below hb2) HS2.out HNR.out (HI.out.below hb2) HM.out hmm)
  obtain ⟨eb, heb⟩ : ∃ x, x = errB P R l := ⟨_, rfl⟩
  have HEB := Lib.hid heb
  rw [← heb] at K2
  obtain ⟨n1, hn1⟩ : ∃ x, x = l1.length := ⟨_, rfl⟩
  have HN1 := Lib.hid hn1
  rw [← hn1]
  clear hI1 hA1 hb2 heb hn1 K1
  go_wp2_with fail
  refine K2.out.mono ?_
  rintro en3 w3 ⟨⟨x1, y1, rfl, hB1⟩, hb3⟩
  have HB1 := Lib.hid hB1
  have HZ3 := Lib.hid (below_trans HZ2.out hb3)
  have HI1b := Lib.hid (HI1.out.below hb3)
  have K1 := Lib.hid (accept_w (ca := ca) (cb := cb) (HP.out.below HZ3.out) HS1.out HNP.out (HR.out.below HZ3.out) HS2.out HNR.out)
  rw [← HER.out] at K1
  clear hB1 hb3 K2 HI1 HZ2
  go_wp2_with fail
  refine K1.out.mono ?_
  rintro en4 w4 ⟨⟨va2, vc2, l2, rfl, hI2, hA2⟩, hb4⟩
  obtain rfl := AccQ.one HA1.out hA2
  have HI2 := Lib.hid hI2
  have HI1c := Lib.hid (HI1b.out.below hb4)
  have HZ4 := Lib.hid (below_trans HZ3.out hb4)
  have K2 := Lib.hid (block_w (ca := ca) (cb := cb) (c := c) (HP.out.below HZ4.out) HS1.out HNP.out (HR.out.below HZ4.out) HS2.out HNR.out (HI.out.below HZ4.out) HM.out hmm)
  rw [← HEB.out] at K2
  rw [← HN1.out]
  clear hI2 hA2 hb4 HI1b K1 HZ3
  go_wp2_with fail
  refine K2.out.mono ?_
  rintro en5 w5 ⟨⟨x2, y2, rfl, hB2⟩, hb5⟩
  obtain ⟨e1, e2⟩ := BlkA.one HB1.out hB2
  subst e1 e2
  have HI2b := Lib.hid (HI2.out.below hb5)
  have HI1d := Lib.hid (HI1c.out.below hb5)
  have HZ5 := Lib.hid (below_trans HZ4.out hb5)
  have hn12 : n1 ≤ 12 := by rw [HN1.out]; exact HA1.out.len HS1.out.1
  have K3 := Lib.hid (fxi_w (c := vc2) (d := vc) HI2b.out HI1d.out HN1.out (by omega))
  have u1 : (er == er) = true := by simp
  have u2 : (er != er) = false := by simp
  have u3 : (eb == eb) = true := by simp
  have u4 : (eb != eb) = false := by simp
  have u5 : (x1 == x1) = true := by simp
  have u6 : (x1 != x1) = false := by simp
  have u7 : (y1 == y1) = true := by simp
  have u8 : (y1 != y1) = false := by simp
  clear hB2 hb5 HI2 HI1c K2 HZ4
  go_wp2_with fail
  refine K3.out.mono ?_
  rintro en6 w6 ⟨rfl, hb6⟩
  have HZ6 := Lib.hid (below_trans HZ5.out hb6)
  have HI2c := Lib.hid (HI2b.out.below hb6)
  have K2 := Lib.hid (block_w (ca := ca) (cb := cb) (c := vc2) (HP.out.below HZ6.out) HS1.out HNP.out (HR.out.below HZ6.out) HS2.out HNR.out HI2c.out HN1.out hn12)
  obtain ⟨eg, heg⟩ : ∃ x, x = errB P R l1 := ⟨_, rfl⟩
  have HEG := Lib.hid heg
  rw [← heg] at K2
  clear hb6 K3 HZ5 HI2b HI1d heg
  go_wp2_with fail
  refine K2.out.mono ?_
  rintro en7 w7 ⟨⟨x3, y3, rfl, hB3⟩, hb7⟩
  have HB3 := Lib.hid hB3
  have HZ7 := Lib.hid (below_trans HZ6.out hb7)
  clear hB3 hb7 K2 HZ6
  by_cases he0 : er = 0
  · obtain ⟨h9, h8⟩ := acc_ok (by rw [← HER.out]; exact he0) HA1.out
    obtain ⟨e3, e4⟩ := h8 _ _ HB3.out
    have e5 : eg = 0 := by rw [HEG.out]; exact h9
    subst he0 e3 e4 e5
    clear h9 h8
    go_wp2_with fail
    go_ret
    exact ⟨rfl, HZ7.out⟩
  · have u9 : (er == 0) = false := by simpa using he0
    have ua : (er != 0) = true := by simpa using he0
    have KF := Lib.hid (fixed_w (w := w7))
    go_wp2_with fail
    refine KF.out.mono ?_
    rintro en8 w8 ⟨rfl, hb8⟩
    have HZ8 := Lib.hid (below_trans HZ7.out hb8)
    clear hb8 KF
    go_wp2_with fail
    go_ret
    exact ⟨rfl, HZ8.out⟩
end

set_option maxRecDepth 100000 in
theorem hallAccept_lifted (os : Os) (started : os.Started) (H : Type) (enc : TypeId × Value → H) :
    ReturnsInHanded {} Try.checked os 3 .any (Rows.hallAcceptSpec.pre6 enc Try.prog Try.f3 Rows.hallAcceptRow.domain false) (Rows.hallAcceptSpec.post enc Try.prog Try.f3 false true false false) := by
  refine returnsInHanded_of_change (C := Try.checked) own_knob started (by kernel_rfl) Try.func3
    (ChangeSpec.witness6 (enc := enc) (C := Try.checked) false ⟨#[], #[.slice none 0 0, .slice none 0 0, .slice none 0 0], []⟩ 8 (by kernel_rfl) (by kernel_rfl) (by kernel_rfl) (by kernel_rfl)) ?_
  intro W base args ds gs before hval0 hW hcnd _
  have hval : ∀ (j : Nat) t v, Try.f3.params[j]? = some t → args[j]? = some v → Value.okWide Try.prog W .any base t v := hval0
  have hW' := hW
  obtain ⟨p, q, hA0, hV, rfl, hfz, hnd⟩ := hW
  have hA : DataW.TrodAll enc Try.prog W 0 (fun _ => true) true Try.f3.params.toList args.toList ds p := hA0
  rw [Try.params3] at hA hval
  obtain ⟨v0, vs0, d0, ds0, p0, q0, hargs, rfl, rfl, h0, r0⟩ := trodAll_cons hA
  obtain ⟨v1, vs1, d1, ds1, p1, q1, rfl, rfl, rfl, h1, r1⟩ := trodAll_cons r0
  obtain ⟨v2, vs2, d2, ds2, p2, q2, rfl, rfl, rfl, h2, r2⟩ := trodAll_cons r1
  obtain ⟨rfl, rfl, rfl⟩ := trodAll_nil r2
  obtain rfl : args = #[v0, v1, v2] := by cases args; simp_all
  obtain ⟨rfl, rfl⟩ := trodVars_none hV
  have k0 := h0
  have k1 := h1
  have k2 := h2
  have lt0 : ∀ x ∈ p0, x.block < W.heap.size := by obtain ⟨m, hm⟩ := k0; exact DataW.trod_lt m _ _ _ hm
  have lt1 : ∀ x ∈ p1, x.block < W.heap.size := by obtain ⟨m, hm⟩ := k1; exact DataW.trod_lt m _ _ _ hm
  have lt2 : ∀ x ∈ p2, x.block < W.heap.size := by obtain ⟨m, hm⟩ := k2; exact DataW.trod_lt m _ _ _ hm
  obtain ⟨a, P, ca, hx⟩ := lists_in h0 (okWide_slice Try.underlying22 (hval 0 22 v0 rfl rfl))
  obtain ⟨b, R, cb, hy⟩ := lists_in h1 (okWide_slice Try.underlying22 (hval 1 22 v1 rfl rfl))
  obtain ⟨d, l, c, hz⟩ := ints_in h2 (okWide_slice Try.underlying23 (hval 2 23 v2 rfl rfl))
  clear hA0 hval0
  refine (accept_walk hx hy hz).mono fun e W' ⟨he, bel⟩ => ?_
  subst he
  exact ⟨_, rfl, _, _, _, [], _, [], hW', trodAll_mk1 (shut_bool Try.underlying4 _), (trodAll_cons_mk (Below.trod laid_out (by kernel_rfl) (of_decide_eq_true (by kernel_rfl)) k0 bel lt0) (trodAll_cons_mk (Below.trod laid_out (by kernel_rfl) (of_decide_eq_true (by kernel_rfl)) k1 bel lt1) (trodAll_cons_mk (Below.trod laid_out (by kernel_rfl) (of_decide_eq_true (by kernel_rfl)) k2 bel lt2) trodAll_mk0))), rfl, bel.frame _, fun h => by cases h⟩

theorem hallAccept_holds : Rows.HallAcceptSaid :=
  OpenClaim.holds_of_wide 3 Try.f3 rfl rfl rfl rfl rfl rfl rfl ⟨rfl, rfl, rfl, rfl, rfl⟩ rfl rfl rfl rfl rfl (by kernel_rfl) Try.func3 (by kernel_rfl)
    (of_decide_eq_true (by kernel_rfl)) (by unfold Func.isWrapper; first | (rw [if_pos (by decide +kernel)]; kernel_rfl) | (rw [if_neg (by decide +kernel)]; exact ⟨rfl, rfl⟩))
    (fun os started H enc _ => hallAccept_lifted os started H enc)
end Go.Proofs.Ytomnnickiljkgaa
