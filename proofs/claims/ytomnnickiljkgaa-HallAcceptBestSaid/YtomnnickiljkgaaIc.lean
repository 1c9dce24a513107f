/- HallAcceptBest answers true at every input: no matching that nobody blocks gives any proposer a better receiver than deferred acceptance, and the same are matched in each. No conditions. -/
import Derived.Test.YtomnnickiljkgaaIa
import Derived.Test.YtomnnickiljkgaaHz
import Derived.Test.YtomnnickiljkgaaRows
import Derived.WalkKit
import Derived.ProofKit
namespace Go.Proofs.Ytomnnickiljkgaa
open Go.ChangeShapes Go.WideShapes Go.ChangeAt Go.RowKit
theorem best_all {P R : List (List Int)} {g l : List Int} {x y : Int} (he : errS P R = 0) (hg : AccQ P R g) (hb : errB P R l = 0) (hx : BlkA P R l x y) (hx0 : x < 0) :
    g.length = l.length ∧ ∀ i, i < l.length → ¬ scoreQ (nthL P i) (nthI l i) < scoreQ (nthL P i) (nthI g i) ∧ (nthI l i < 0 ↔ nthI g i < 0) ∧ (0 ≤ nthI l i → nthI l i ∈ g) := by
  have hS := (errS_ok he).1
  obtain ⟨m, rfl, hm⟩ := hg.1 he
  have hmt := (errB_ok hb).2
  obtain ⟨h1, h2, h3⟩ := matQ_parts hmt
  have hcl : ∀ p, p < P.length → ClearB P R l p := by
    rcases hx.1 hb with ⟨_, _, h⟩ | ⟨p, _, _, h, _⟩
    · exact h
    · omega
  have hst := clear_stable hS hmt hcl
  have hru := rural hS hm hst
  refine ⟨by rw [tab_len, h1], fun i hi => ?_⟩
  rw [h1] at hi
  rw [tab_nth hi]
  have hr1 := hru.1 i hi
  refine ⟨?_, ?_, fun h0 => ?_⟩
  · have := hm.best _ hst i hi
    omega
  · have k1 : nthI l i = -1 ∨ 0 ≤ nthI l i := by
      rcases h2 _ (List.mem_of_getElem? (nthI_get (l := l) (i := i) (by omega))) with e | e
      · exact Or.inl e
      · exact Or.inr e.1
    have k2 : m i = -1 ∨ 0 ≤ m i := by
      rcases hm.stable.own i hi with e | ⟨e, _⟩
      · exact Or.inl e
      · exact Or.inr ((sides_P hS i).2 _ e).1
    constructor
    · intro h
      have : m i = -1 := hr1.2 (by omega)
      omega
    · intro h
      have : nthI l i = -1 := hr1.1 (by omega)
      omega
  · obtain ⟨q, hq, e⟩ := hru.2 i hi (by omega)
    exact List.mem_of_getElem? (by rw [tab_get hq, e])
section
attribute [local go_sem ↓] Go.wp_at_zero Go.wp_at_succ
set_option maxRecDepth 100000 in
set_option maxHeartbeats 8000000 in
theorem best_walk {w : World} {u v x : Value} {a b d : Option Addr} {P R : List (List Int)} {l : List Int} {ca cb c : Nat} (h : InL w u a P ca) (h2 : InL w v b R cb) (h3 : InI w x d l c) :
    Calls Try.prog 4 #[u, v, x] w fun e w' => e = .returned (.bool true) ∧ Below w.heap.size w w' := by
  obtain ⟨rfl, hp9, hP⟩ := h
  obtain ⟨rfl, hr9, hR⟩ := h2
  obtain ⟨rfl, hl9, hlc, hI, -⟩ := h3
  have S1 := Lib.hid (small_w (c := ca) hP rfl hp9)
  have S2 := Lib.hid (small_w (c := cb) hR rfl hr9)
  have HP := Lib.hid hP
  have HR := Lib.hid hR
  have HI := Lib.hid hI
  obtain ⟨np, hnp⟩ : ∃ x, x = P.length := ⟨_, rfl⟩
  obtain ⟨nr, hnr⟩ : ∃ x, x = R.length := ⟨_, rfl⟩
  obtain ⟨m, hm⟩ : ∃ x, x = l.length := ⟨_, rfl⟩
  have HNP := Lib.hid hnp
  have HNR := Lib.hid hnr
  have HM := Lib.hid hm
  have hm9 : m ≤ 9223372036854775807 := by simp only [maxLen] at hl9; omega
  rw [← hnp] at S1 ⊢
  rw [← hnr] at S2 ⊢
  rw [← hm]
  clear hp9 hP hr9 hR hl9 hlc hI hnp hnr hm
  go_enter Try.func4, Try.ntmps4
  go_wp2_with fail
  refine S1.out.mono ?_
  rintro en1 w1 ⟨⟨b1, rfl, hs1⟩, rfl⟩
  cases b1 with
  | false =>
    clear hs1
    go_wp2_with fail
    go_ret
    exact ⟨rfl, Below.refl _ _⟩
  | true =>
  have HS1 := Lib.hid (hs1 rfl)
  clear hs1 S1
  go_wp2_with fail
  refine S2.out.mono ?_
  rintro en1 w1 ⟨⟨b1, rfl, hs1⟩, rfl⟩
  cases b1 with
  | false =>
    clear hs1
    go_wp2_with fail
    go_ret
    exact ⟨rfl, Below.refl _ _⟩
  | true =>
  have HS2 := Lib.hid (hs1 rfl)
  clear hs1 S2
  by_cases hm12 : m > 12
  · have t1 : decide ((12 : Int) < (m : Int)) = true := by simp; omega
    have t2 : decide ((m : Int) > 12) = true := by simp; omega
    go_wp2_with fail
    go_ret
    exact ⟨rfl, Below.refl _ _⟩
  have t1 : decide ((12 : Int) < (m : Int)) = false := by simp; omega
  have t2 : decide ((m : Int) > 12) = false := by simp; omega
  have hmm : m ≤ 12 := by omega
  have K1 := Lib.hid (accept_w (ca := ca) (cb := cb) HP.out HS1.out HNP.out HR.out HS2.out HNR.out)
  obtain ⟨er, her⟩ : ∃ x, x = errS P R := ⟨_, rfl⟩
  have HER := Lib.hid her
  rw [← her] at K1
  clear her hm12
  go_wp2_with fail
  refine K1.out.mono ?_
  rintro en2 w2 ⟨⟨va, vc, g, rfl, hI1, hA1⟩, hb2⟩
  have HI1 := Lib.hid hI1
  have HA1 := Lib.hid hA1
  have HZ2 := Lib.hid hb2
  have K2 := Lib.hid (block_w (ca := ca) (cb := cb) (c := c) (HP.out.below hb2) HS1.out HNP.out (HR.out.below hb2) HS2.out HNR.out (HI.out.below hb2) HM.out hmm)
  obtain ⟨eb, heb⟩ : ∃ x, x = errB P R l := ⟨_, rfl⟩
  have HEB := Lib.hid heb
  rw [← heb] at K2
  obtain ⟨n1, hn1⟩ : ∃ x, x = g.length := ⟨_, rfl⟩
  have HN1 := Lib.hid hn1
  rw [← hn1]
  clear hI1 hA1 hb2 heb hn1 K1
  go_wp2_with fail
  refine K2.out.mono ?_
  rintro en3 w3 ⟨⟨x1, y1, rfl, hB1⟩, hb3⟩
  have HB1 := Lib.hid hB1
  have HZ3 := Lib.hid (below_trans HZ2.out hb3)
  have HG3 := Lib.hid (HI1.out.below hb3)
  clear hB1 hb3 K2 HI1 HZ2
  have KF : Hid (∀ w' : World, Calls Try.prog 15 #[] w' fun e w'' => e = .returned (.bool true) ∧ Below w'.heap.size w' w'') := Lib.hid (fun w' => fixed_w)
  by_cases he0 : er = 0
  rotate_left
  · have u9 : (er == 0) = false := by simpa using he0
    have ua : (er != 0) = true := by simpa using he0
    go_wp2_with fail
    refine (KF.out _).mono ?_
    rintro en8 w8 ⟨rfl, hb8⟩
    have HZ8 := Lib.hid (below_trans HZ3.out hb8)
    clear hb8
    go_wp2_with fail
    go_ret
    exact ⟨rfl, HZ8.out⟩
  by_cases hf0 : eb = 0
  rotate_left
  · have u9 : (eb == 0) = false := by simpa using hf0
    have ua : (eb != 0) = true := by simpa using hf0
    subst he0
    go_wp2_with fail
    refine (KF.out _).mono ?_
    rintro en8 w8 ⟨rfl, hb8⟩
    have HZ8 := Lib.hid (below_trans HZ3.out hb8)
    clear hb8
    go_wp2_with fail
    go_ret
    exact ⟨rfl, HZ8.out⟩
  by_cases hx0 : x1 < 0
  rotate_left
  · have u9 : decide (x1 ≥ 0) = true := by simp; omega
    have ua : decide (0 ≤ x1) = true := by simp; omega
    subst he0 hf0
    go_wp2_with fail
    refine (KF.out _).mono ?_
    rintro en8 w8 ⟨rfl, hb8⟩
    have HZ8 := Lib.hid (below_trans HZ3.out hb8)
    clear hb8
    go_wp2_with fail
    go_ret
    exact ⟨rfl, HZ8.out⟩
  have u9 : decide (x1 ≥ 0) = false := by simp; omega
  have ua : decide (0 ≤ x1) = false := by simp; omega
  obtain ⟨hgl, hall⟩ := best_all (by rw [← HER.out]; exact he0) HA1.out (by rw [← HEB.out]; exact hf0) HB1.out hx0
  have HALL := Lib.hid hall
  have hnm : n1 = m := by rw [HN1.out, HM.out]; exact hgl
  have HGW : Hid (∀ z ∈ g, -9223372036854775808 ≤ z ∧ z ≤ 9223372036854775807) := Lib.hid (fun z hz => HG3.out.wide hz)
  have HPL : Hid (m = np) := Lib.hid (by rw [HM.out, HNP.out]; exact (matQ_parts (errB_ok (by rw [← HEB.out]; exact hf0)).2).1)
  subst he0 hf0 hnm
  clear hx0 hgl hall
  go_wp2_with fail
  go_loopw [12] (fun iv wr => ∃ i : Nat, i ≤ n1 ∧ iv = .int .i64 i ∧ Hid (Below w.heap.size w wr) ∧ Hid (Below w3.heap.size w3 wr)) (fun iv _ => n1 - (intOf iv).toNat)
  case atStart => exact ⟨0, Nat.zero_le _, rfl, HZ3, Lib.hid (Below.refl _ _)⟩
  case round =>
    obtain ⟨i, hi, rfl, hZ, hY⟩ := hrel
    obtain ⟨wo, rfl⟩ : ∃ wo : World, wo = wr := ⟨_, rfl⟩
    by_cases hin : i < n1
    rotate_left
    · have t0 : decide ((i : Int) < (n1 : Int)) = false := by simp; omega
      go_wp2_with fail
      refine (KF.out _).mono ?_
      rintro en8 w8 ⟨rfl, hb8⟩
      have HZ8 := Lib.hid (below_trans hZ.out hb8)
      clear hb8
      go_wp2_with fail
      go_ret
      exact ⟨rfl, HZ8.out⟩
    have t0 : decide ((i : Int) < (n1 : Int)) = true := by simp; omega
    obtain ⟨B, off, a', c', ha, hIP, -, -, hc⟩ := HP.out.at (i := i) (by have := HNP.out; have := HPL.out; omega)
    obtain ⟨z, B2, off2, hz, hd, -, hc2⟩ := HI.out.at (i := i) (by have := HM.out; omega)
    obtain ⟨y, B3, off3, hy, hva, -, hc3⟩ := HG3.out.at (i := i) (by have := HN1.out; omega)
    subst ha hd hva
    have e1 := hc wo hZ.out
    have e2 := hc2 wo hZ.out
    have e3 := hc3 wo hY.out
    obtain ⟨ha1, ha2, ha3⟩ := HALL.out i (by have := HM.out; omega)
    rw [nthI_some hz, nthI_some hy] at ha1
    rw [nthI_some hz, nthI_some hy] at ha2
    rw [nthI_some hz] at ha3
    have hl12 := HS1.out.nth i
    have hbp : i < np := by have := HPL.out; omega
    have KA : Hid (∀ n, Calls Try.prog 16 #[.slice a' (nthL P i).length c', .int .i64 z, .int .i64 y] (wo.drewN n) fun e w' => e = .returned (.bool false) ∧ wo.drewN n = w') := Lib.hid (fun n => by
      have h9 := rahead_w (c := c') (x := z) (y := y) (hIP.below (below_drewN hZ.out n)) rfl (by omega)
      rw [decide_eq_false ha1] at h9
      exact h9)
    have HG4 : Hid (∀ n, IntsF (wo.drewN n) (some ⟨B3, off3, none⟩) g) := Lib.hid (fun n => (HG3.out.below hY.out).drewN n)
    obtain ⟨ln, hln⟩ : ∃ x, x = (nthL P i).length := ⟨_, rfl⟩
    rw [← hln] at KA e1
    have HA3 := Lib.hid ha3
    have hzl : decide (z < 0) = decide (y < 0) := by
      by_cases h : z < 0
      · rw [decide_eq_true h, decide_eq_true (ha2.1 h)]
      · rw [decide_eq_false h, decide_eq_false (fun e => h (ha2.2 e))]
    obtain ⟨sb, hsb⟩ : ∃ sb, sb = decide (y < 0) := ⟨_, rfl⟩
    rw [← hsb] at hzl
    have q1 : decide (y < 0) = sb := hsb.symm
    have q2 : (sb == sb) = true := by simp
    have q3 : (sb != sb) = false := by simp
    clear ha1 ha2 ha3 hc hc2 hc3 hz hy hIP hl12 hln hsb
    go_wp2_with fail
    go_quiet ((go_at_call 16; exact quiet_left (KA.out _)))
    obtain ⟨w5, hw5⟩ : ∃ w5, w5 = wo.drewN nq := ⟨_, rfl⟩
    rw [← hw5]
    have f2 : w5.cell? ⟨B2, off2 + i, none⟩ = some (.int .i64 z) := by rw [hw5]; exact e2
    have HG5 : Hid (IntsF w5 (some ⟨B3, off3, none⟩) g) := Lib.hid (by rw [hw5]; exact HG4.out _)
    have hZ5 : Hid (Below w.heap.size w w5) := Lib.hid (by rw [hw5]; exact below_drewN hZ.out _)
    have hY5 : Hid (Below w3.heap.size w3 w5) := Lib.hid (by rw [hw5]; exact below_drewN hY.out _)
    clear hw5 e1 e2 e3 KA HG4 hzl q1 q2 q3
    by_cases hz0 : z < 0
    · have t5 : decide (z ≥ 0) = false := by simp; omega
      have t6 : decide (0 ≤ z) = false := by simp; omega
      go_wp2_with fail
      go_roundw
      case rel => exact ⟨i + 1, by omega, by go_num, hZ5, hY5⟩
      case measure => simp [intOf]; omega
    · have t5 : decide (z ≥ 0) = true := by simp; omega
      have t6 : decide (0 ≤ z) = true := by simp; omega
      have KS := Lib.hid (score_w (c := vc) (v := z) HG5.out HN1.out (by omega))
      obtain ⟨sc, hsc⟩ : ∃ x, x = scoreQ g z := ⟨_, rfl⟩
      have hscl : sc < n1 := by rw [hsc, HN1.out]; exact score_lt.2 (HA3.out (by omega))
      have t7 : decide ((sc : Int) ≥ (n1 : Int)) = false := by simp; omega
      have t8 : decide ((n1 : Int) ≤ (sc : Int)) = false := by simp; omega
      rw [← hsc] at KS
      clear hsc
      go_wp2_with fail
      refine KS.out.mono ?_
      rintro en6 w6 ⟨rfl, rfl⟩
      go_wp2_with fail
      go_roundw
      case rel => exact ⟨i + 1, by omega, by go_num, hZ5, hY5⟩
      case measure => simp [intOf]; omega
end

set_option maxRecDepth 100000 in
theorem hallAcceptBest_lifted (os : Os) (started : os.Started) (H : Type) (enc : TypeId × Value → H) :
    ReturnsInHanded {} Try.checked os 4 .any (Rows.hallAcceptBestSpec.pre6 enc Try.prog Try.f4 Rows.hallAcceptBestRow.domain false) (Rows.hallAcceptBestSpec.post enc Try.prog Try.f4 false true false false) := by
  refine returnsInHanded_of_change (C := Try.checked) own_knob started (by kernel_rfl) Try.func4
    (ChangeSpec.witness6 (enc := enc) (C := Try.checked) false ⟨#[], #[.slice none 0 0, .slice none 0 0, .slice none 0 0], []⟩ 8 (by kernel_rfl) (by kernel_rfl) (by kernel_rfl) (by kernel_rfl)) ?_
  intro W base args ds gs before hval0 hW hcnd _
  have hval : ∀ (j : Nat) t v, Try.f4.params[j]? = some t → args[j]? = some v → Value.okWide Try.prog W .any base t v := hval0
  have hW' := hW
  obtain ⟨p, q, hA0, hV, rfl, hfz, hnd⟩ := hW
  have hA : DataW.TrodAll enc Try.prog W 0 (fun _ => true) true Try.f4.params.toList args.toList ds p := hA0
  rw [Try.params4] at hA hval
  obtain ⟨v0, vs0, d0, ds0, p0, q0, hargs, rfl, rfl, h0, r0⟩ := trodAll_cons hA
  obtain ⟨v1, vs1, d1, ds1, p1, q1, rfl, rfl, rfl, h1, r1⟩ := trodAll_cons r0
  obtain ⟨v2, vs2, d2, ds2, p2, q2, rfl, rfl, rfl, h2, r2⟩ := trodAll_cons r1
  obtain ⟨rfl, rfl, rfl⟩ := trodAll_nil r2
  obtain rfl : args = #[v0, v1, v2] := by cases args; simp_all
  obtain ⟨rfl, rfl⟩ := trodVars_none hV
  have k0 := h0
  have k1 := h1
  have k2 := h2
  have lt0 : ∀ x ∈ p0, x.block < W.heap.size := by obtain ⟨m, hm⟩ := k0; exact DataW.trod_lt m _ _ _ hm
  have lt1 : ∀ x ∈ p1, x.block < W.heap.size := by obtain ⟨m, hm⟩ := k1; exact DataW.trod_lt m _ _ _ hm
  have lt2 : ∀ x ∈ p2, x.block < W.heap.size := by obtain ⟨m, hm⟩ := k2; exact DataW.trod_lt m _ _ _ hm
  obtain ⟨a, P, ca, hx⟩ := lists_in h0 (okWide_slice Try.underlying22 (hval 0 22 v0 rfl rfl))
  obtain ⟨b, R, cb, hy⟩ := lists_in h1 (okWide_slice Try.underlying22 (hval 1 22 v1 rfl rfl))
  obtain ⟨d, l, c, hz⟩ := ints_in h2 (okWide_slice Try.underlying23 (hval 2 23 v2 rfl rfl))
  clear hA0 hval0
  refine (best_walk hx hy hz).mono fun e W' ⟨he, bel⟩ => ?_
  subst he
  exact ⟨_, rfl, _, _, _, [], _, [], hW', trodAll_mk1 (shut_bool Try.underlying4 _), (trodAll_cons_mk (Below.trod laid_out (by kernel_rfl) (of_decide_eq_true (by kernel_rfl)) k0 bel lt0) (trodAll_cons_mk (Below.trod laid_out (by kernel_rfl) (of_decide_eq_true (by kernel_rfl)) k1 bel lt1) (trodAll_cons_mk (Below.trod laid_out (by kernel_rfl) (of_decide_eq_true (by kernel_rfl)) k2 bel lt2) trodAll_mk0))), rfl, bel.frame _, fun h => by cases h⟩

theorem hallAcceptBest_holds : Rows.HallAcceptBestSaid :=
  OpenClaim.holds_of_wide 4 Try.f4 rfl rfl rfl rfl rfl rfl rfl ⟨rfl, rfl, rfl, rfl, rfl⟩ rfl rfl rfl rfl rfl (by kernel_rfl) Try.func4 (by kernel_rfl)
    (of_decide_eq_true (by kernel_rfl)) (by unfold Func.isWrapper; first | (rw [if_pos (by decide +kernel)]; kernel_rfl) | (rw [if_neg (by decide +kernel)]; exact ⟨rfl, rfl⟩))
    (fun os started H enc _ => hallAcceptBest_lifted os started H enc)
end Go.Proofs.Ytomnnickiljkgaa
