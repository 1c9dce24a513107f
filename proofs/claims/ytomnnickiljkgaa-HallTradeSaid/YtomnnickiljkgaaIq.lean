/- HallTrade answers true at every input: top trading cycles are as the definition says, nobody objects to them, and to whatever else somebody does. No conditions. -/
import Derived.Test.YtomnnickiljkgaaId
import Derived.Test.YtomnnickiljkgaaIg
import Derived.Test.YtomnnickiljkgaaIp
namespace Go.Proofs.Ytomnnickiljkgaa
open Go.ChangeShapes Go.WideShapes Go.ChangeAt Go.RowKit
theorem number_of (f : Nat → Bool) (n : Nat) : ∃ z, z < 2 ^ n ∧ ∀ i, z.testBit i = (decide (i < n) && f i) := by
  induction n with
  | zero => exact ⟨0, by simp, fun i => by simp⟩
  | succ n ih =>
    obtain ⟨z, hz, hb⟩ := ih
    have hp : 2 ^ (n + 1) = 2 ^ n + 2 ^ n := by rw [Nat.pow_succ]; omega
    by_cases hf : f n = true
    · refine ⟨2 ^ n + z, by omega, fun i => ?_⟩
      rcases Nat.lt_trichotomy i n with h | h | h
      · rw [Nat.testBit_two_pow_add_gt h, hb i]
        simp [h, show i < n + 1 by omega]
      · subst h
        rw [Nat.testBit_two_pow_add_eq, hb i]
        simp [hf]
      · rw [Nat.testBit_lt_two_pow (x := 2 ^ n + z) (i := i) (Nat.lt_of_lt_of_le (show 2 ^ n + z < 2 ^ (n + 1) by omega) (Nat.pow_le_pow_right (by omega) (by omega)))]
        simp [show ¬ i < n + 1 by omega]
    · refine ⟨z, by omega, fun i => ?_⟩
      rw [hb i]
      by_cases h : i = n
      · subst h; simp [hf]
      · by_cases h2 : i < n
        · simp [h2, show i < n + 1 by omega]
        · simp [h2, show ¬ i < n + 1 by omega]
theorem objZ_iff {W : List (List Int)} {gl : List Int} {z : Nat} (hn : W.length ≤ 8) (hz : z < 2 ^ W.length) : objZ W gl z = true ↔ ∃ s, ObjT W (gotF gl) (fun i => z.testBit i = true) s := by
  unfold objZ
  rw [shareB_iff (memL_nodup _ _)]
  have hin : ∀ i, i ∈ memL 8 (fun i => z.testBit i) ↔ i < W.length ∧ z.testBit i = true := fun i => by
    rw [memL_mem]
    exact ⟨fun h => ⟨group_small hn hz h.1 h.2, h.2⟩, fun h => ⟨by omega, h.2⟩⟩
  constructor
  · rintro ⟨s, h1, h2, h3⟩
    refine ⟨s, fun i hi hG => ?_, fun i j hi hj hGi hGj he => h2 i ((hin i).2 ⟨hi, hGi⟩) j ((hin j).2 ⟨hj, hGj⟩) he, ?_⟩
    · exact h1 i ((hin i).2 ⟨hi, hG⟩)
    · rcases h3 with h | ⟨i, hi, hne⟩
      · cases h
      · exact ⟨i, ((hin i).1 hi).1, ((hin i).1 hi).2, hne⟩
  · rintro ⟨s, h1, h2, i, hi, hG, hne⟩
    refine ⟨s, fun c hc => ?_, fun c hc d hd he => ?_, Or.inr ⟨i, (hin i).2 ⟨hi, hG⟩, hne⟩⟩
    · exact h1 c ((hin c).1 hc).1 ((hin c).1 hc).2
    · exact h2 c d ((hin c).1 hc).1 ((hin d).1 hd).1 ((hin c).1 hc).2 ((hin d).1 hd).2 he
theorem ObjT.congr {W : List (List Int)} {g h : Nat → Nat} {G : Nat → Prop} {s : Nat → Nat} (e : ∀ i, i < W.length → g i = h i) (ho : ObjT W g G s) : ObjT W h G s := by
  obtain ⟨h1, h2, i, hi, hG, hne⟩ := ho
  exact ⟨fun i hi hG => by rw [← e i hi]; exact h1 i hi hG, h2, i, hi, hG, by rw [← e i hi]; exact hne⟩
theorem trade_none {W : List (List Int)} {gl l : List Int} (he : errT W = 0) (hg : TrdA W gl) (h : ObjA W gl l) : l = [] := by
  by_cases ho : errO W gl = 0
  · rcases h.1 ho with ⟨z, hz, hzt, _, _⟩ | ⟨_, e⟩
    · exfalso
      obtain ⟨g, ρ, hc, rfl⟩ := hg.1 he
      obtain ⟨s, hs⟩ := (objZ_iff (errT_ok he).1 hz).1 hzt
      refine hc.core (errT_ok he).2.2 (ObjT.congr (fun i hi => ?_) hs)
      unfold gotF
      rw [tab_nth hi]
      simp
    · exact e
  · exact h.2 ho
theorem trade_other {W : List (List Int)} {gl o l : List Int} (he : errT W = 0) (hg : TrdA W gl) (ho : errO W o = 0) (h : ObjA W o l) : l = [] ↔ gl = o := by
  constructor
  · intro hl
    apply Classical.byContradiction
    intro hne
    obtain ⟨g, ρ, hc, rfl⟩ := hg.1 he
    have h9 := ho
    unfold errO at h9
    rw [if_pos he] at h9
    have hol : o.length = W.length ∧ listedQ W.length o = true := by
      apply Classical.byContradiction
      intro hh
      rw [if_neg hh] at h9
      cases h9
    obtain ⟨hnd, hr⟩ := listed_iff.1 hol.2
    obtain ⟨hot, hor⟩ := got_tab hol.1 hr
    have hp : PermF W.length (gotF o) := by
      refine ⟨fun i hi => hor i hi, fun i j hi hj e => ?_⟩
      have h1 := nthI_get (l := o) (i := i) (by omega)
      have h2 := nthI_get (l := o) (i := j) (by omega)
      have r1 := hr _ (List.mem_of_getElem? h1)
      have r2 := hr _ (List.mem_of_getElem? h2)
      have e9 : nthI o i = nthI o j := by unfold gotF at e; omega
      have h3 := score_at hnd h1
      have h4 := score_at hnd h2
      rw [e9] at h3
      omega
    have hex : ∃ i, i < W.length ∧ gotF o i ≠ g i := by
      apply Classical.byContradiction
      intro hh
      refine hne ?_
      rw [hot]
      apply tab_congr
      intro i hi
      apply Classical.byContradiction
      intro h5
      exact hh ⟨i, hi, fun e => h5 (by rw [e])⟩
    obtain ⟨r, hr9⟩ := hc.object hp hex
    obtain ⟨z, hz, hb⟩ := number_of (fun i => decide (ρ i = r)) W.length
    have hzt : objZ W o z = true := (objZ_iff (errT_ok he).1 hz).2 ⟨g, by
      obtain ⟨k1, k2, i, hi, hG, hne⟩ := hr9
      have e : ∀ i, i < W.length → (z.testBit i = true ↔ ρ i = r) := fun i hi => by rw [hb i]; simp [hi]
      exact ⟨fun i hi hG => by
        obtain ⟨j1, j2, j3⟩ := k1 i hi ((e i hi).1 hG)
        exact ⟨j1, (e _ j1).2 j2, j3⟩, fun i j hi hj h1 h2 he => k2 i j hi hj ((e i hi).1 h1) ((e j hj).1 h2) he, i, hi, (e i hi).2 hG, hne⟩⟩
    rcases h.1 ho with ⟨y, _, hy, _, e⟩ | ⟨hno, _⟩
    · rw [hl] at e
      have : memL 8 (fun i => y.testBit i) = [] := List.map_eq_nil_iff.1 e.symm
      unfold objZ at hy
      rw [this, shareB] at hy
      cases hy
    · rw [hno z hz] at hzt
      cases hzt
  · rintro rfl
    exact trade_none he hg h
section
attribute [local go_sem ↓] Go.wp_at_zero Go.wp_at_succ
set_option maxRecDepth 100000 in
set_option maxHeartbeats 8000000 in
theorem trade_walk {w : World} {u x : Value} {a d : Option Addr} {W : List (List Int)} {o : List Int} {ca c : Nat} (h : InL w u a W ca) (h3 : InI w x d o c) :
    Calls Try.prog 6 #[u, x] w fun e w' => e = .returned (.bool true) ∧ Below w.heap.size w w' := by
  obtain ⟨rfl, hp9, hP⟩ := h
  obtain ⟨rfl, hl9, hlc, hI, -⟩ := h3
  have S1 := Lib.hid (small_w (c := ca) hP rfl hp9)
  have HP := Lib.hid hP
  have HI := Lib.hid hI
  obtain ⟨n, hn⟩ : ∃ x, x = W.length := ⟨_, rfl⟩
  obtain ⟨m, hm⟩ : ∃ x, x = o.length := ⟨_, rfl⟩
  have HN := Lib.hid hn
  have HM := Lib.hid hm
  have hm9 : m ≤ 9223372036854775807 := by simp only [maxLen] at hl9; omega
  rw [← hn] at S1 ⊢
  rw [← hm]
  clear hp9 hP hl9 hlc hI hn hm
  go_enter Try.func6, Try.ntmps6
  go_wp2_with fail
  refine S1.out.mono ?_
  rintro en1 w1 ⟨⟨b1, rfl, hs1⟩, rfl⟩
  cases b1 with
  | false =>
    clear hs1
    go_wp2_with fail
    go_ret
    exact ⟨rfl, Below.refl _ _⟩
  | true =>
  have HS1 := Lib.hid (hs1 rfl)
  clear hs1 S1
  by_cases hm12 : m > 12
  · have t1 : decide ((12 : Int) < (m : Int)) = true := by simp; omega
    have t2 : decide ((m : Int) > 12) = true := by simp; omega
    go_wp2_with fail
    go_ret
    exact ⟨rfl, Below.refl _ _⟩
  have t1 : decide ((12 : Int) < (m : Int)) = false := by simp; omega
  have t2 : decide ((m : Int) > 12) = false := by simp; omega
  have hmm : m ≤ 12 := by omega
  have K1 := Lib.hid (rtrade_w (ca := ca) HP.out HS1.out HN.out)
  obtain ⟨er, her⟩ : ∃ x, x = errT W := ⟨_, rfl⟩
  have HER := Lib.hid her
  rw [← her] at K1
  clear her hm12
  go_wp2_with fail
  refine K1.out.mono ?_
  rintro en2 w2 ⟨⟨va, vc, g, rfl, hI1, hA1⟩, hb2⟩
  have HI1 := Lib.hid hI1
  have HA1 := Lib.hid hA1
  have HZ2 := Lib.hid hb2
  have K2 := Lib.hid (robject_w (ca := ca) (cb := c) (HP.out.below hb2) HS1.out HN.out (HI.out.below hb2) HM.out hmm)
  obtain ⟨eo, heo⟩ : ∃ x, x = errO W o := ⟨_, rfl⟩
  have HEO := Lib.hid heo
  rw [← heo] at K2
  obtain ⟨n1, hn1⟩ : ∃ x, x = g.length := ⟨_, rfl⟩
  have HN1 := Lib.hid hn1
  rw [← hn1]
  clear hI1 hA1 hb2 heo hn1 K1
  go_wp2_with fail
  refine K2.out.mono ?_
  rintro en3 w3 ⟨⟨vb, vd, l, rfl, hI2, hA2⟩, hb3⟩
  have HI2 := Lib.hid hI2
  have HA2 := Lib.hid hA2
  have HI1b := Lib.hid (HI1.out.below hb3)
  have HZ3 := Lib.hid (below_trans HZ2.out hb3)
  have K1 := Lib.hid (trade_w (ca := ca) (HP.out.below HZ3.out) HS1.out HN.out)
  rw [← HER.out] at K1
  obtain ⟨n2, hn2⟩ : ∃ x, x = l.length := ⟨_, rfl⟩
  have HN2 := Lib.hid hn2
  rw [← hn2]
  clear hI2 hA2 hb3 hn2 K2 HI1 HZ2
  go_wp2_with fail
  refine K1.out.mono ?_
  rintro en4 w4 ⟨⟨xa, xc, g2, rfl, hI3, hA3⟩, hb4⟩
  obtain rfl := TrdA.one HA1.out hA3
  have HI3 := Lib.hid hI3
  have HI1c := Lib.hid (HI1b.out.below hb4)
  have HI2b := Lib.hid (HI2.out.below hb4)
  have HZ4 := Lib.hid (below_trans HZ3.out hb4)
  have K2 := Lib.hid (object_w (ca := ca) (cb := c) (HP.out.below HZ4.out) HS1.out HN.out (HI.out.below HZ4.out) HM.out hmm)
  rw [← HEO.out] at K2
  rw [← HN1.out]
  clear hI3 hA3 hb4 HI1b HI2 K1 HZ3
  go_wp2_with fail
  refine K2.out.mono ?_
  rintro en5 w5 ⟨⟨ya, yc, l2, rfl, hI4, hA4⟩, hb5⟩
  obtain rfl := ObjA.one HA2.out hA4
  have HI4 := Lib.hid hI4
  have HI3b := Lib.hid (HI3.out.below hb5)
  have HI1d := Lib.hid (HI1c.out.below hb5)
  have HI2c := Lib.hid (HI2b.out.below hb5)
  have HZ5 := Lib.hid (below_trans HZ4.out hb5)
  rw [← HN2.out]
  have hn18 : n1 ≤ 8 := by rw [HN1.out]; exact HA1.out.len
  have hn28 : n2 ≤ 8 := by rw [HN2.out]; exact HA2.out.len
  have K3 := Lib.hid (fxi_w (c := xc) (d := vc) HI3b.out HI1d.out HN1.out (by omega))
  have ea1 : (er == er) = true := by simp
  have ea2 : (er != er) = false := by simp
  have ea3 : (eo == eo) = true := by simp
  have ea4 : (eo != eo) = false := by simp
  clear hI4 hA4 hb5 HI3 HI1c HI2b K2 HZ4
  go_wp2_with fail
  refine K3.out.mono ?_
  rintro en6 w6 ⟨rfl, hb6⟩
  have HZ6 := Lib.hid (below_trans HZ5.out hb6)
  have HI3c := Lib.hid (HI3b.out.below hb6)
  have K4 := Lib.hid (fxi_w (c := yc) (d := vd) (HI4.out.below hb6) (HI2c.out.below hb6) HN2.out (by omega))
  clear hb6 K3 HZ5 HI3b HI1d
  go_wp2_with fail
  refine K4.out.mono ?_
  rintro en7 w7 ⟨rfl, hb7⟩
  have HZ7 := Lib.hid (below_trans HZ6.out hb7)
  have HI3d := Lib.hid (HI3c.out.below hb7)
  clear hb7 K4 HZ6 HI3c HI4 HI2c
  have KF : Hid (∀ w' : World, Calls Try.prog 15 #[] w' fun e w'' => e = .returned (.bool true) ∧ Below w'.heap.size w' w'') := Lib.hid (fun w' => fixed_w)
  by_cases he0 : er = 0
  rotate_left
  · have p9 : (er == 0) = false := by simpa using he0
    have pa : (er != 0) = true := by simpa using he0
    go_wp2_with fail
    refine (KF.out _).mono ?_
    rintro en8 w8 ⟨rfl, hb8⟩
    have HZ8 := Lib.hid (below_trans HZ7.out hb8)
    clear hb8
    go_wp2_with fail
    go_ret
    exact ⟨rfl, HZ8.out⟩
  by_cases hf0 : eo = 0
  rotate_left
  · have p9 : (eo == 0) = false := by simpa using hf0
    have pa : (eo != 0) = true := by simpa using hf0
    subst he0
    go_wp2_with fail
    refine (KF.out _).mono ?_
    rintro en8 w8 ⟨rfl, hb8⟩
    have HZ8 := Lib.hid (below_trans HZ7.out hb8)
    clear hb8
    go_wp2_with fail
    go_ret
    exact ⟨rfl, HZ8.out⟩
  have HTN : Hid (∀ k, ObjA W g k → k = []) := Lib.hid (fun k hk => trade_none (HER.out.symm.trans he0) HA1.out hk)
  have HTO : Hid (l = [] ↔ g = o) := Lib.hid (trade_other (HER.out.symm.trans he0) HA1.out (HEO.out.symm.trans hf0) HA2.out)
  subst he0 hf0
  have K5 := Lib.hid (object_w (ca := ca) (cb := xc) (HP.out.below HZ7.out) HS1.out HN.out HI3d.out HN1.out (by omega))
  obtain ⟨ex, hex⟩ : ∃ x, x = errO W g := ⟨_, rfl⟩
  rw [← hex] at K5
  clear hex
  go_wp2_with fail
  refine K5.out.mono ?_
  rintro en8 w8 ⟨⟨za, zc, k, rfl, -, hA5⟩, hb8⟩
  obtain rfl := HTN.out k hA5
  have HZ8 := Lib.hid (below_trans HZ7.out hb8)
  have HI3e := Lib.hid (HI3d.out.below hb8)
  clear hA5 hb8 K5
  have K6 := Lib.hid (sameInts_w (c := xc) (d := c) HI3e.out HN1.out (by omega) (HI.out.below HZ8.out) HM.out)
  obtain ⟨sb, hsb⟩ : ∃ x, x = decide (g = o) := ⟨_, rfl⟩
  rw [← hsb] at K6
  have hz2 : ((n2 : Int) == 0) = sb := by
    rw [hsb, Bool.eq_iff_iff, decide_eq_true_eq, ← HTO.out, beq_iff_eq]
    have := HN2.out
    constructor
    · intro h9
      exact List.eq_nil_of_length_eq_zero (by omega)
    · intro h9
      rw [h9] at this
      simp at this
      omega
  have q7 : (sb == sb) = true := by simp
  have HNL : Hid ((([] : List Int).length : Int) = 0) := Lib.hid rfl
  clear hsb
  go_wp2_with fail
  refine K6.out.mono ?_
  rintro en9 w9 ⟨rfl, hb9⟩
  have HZ9 := Lib.hid (below_trans HZ8.out hb9)
  clear hb9 K6
  go_wp2_with fail
  refine (KF.out _).mono ?_
  rintro en10 w10 ⟨rfl, hb10⟩
  have HZ10 := Lib.hid (below_trans HZ9.out hb10)
  clear hb10
  go_wp2_with fail
  go_ret
  exact ⟨rfl, HZ10.out⟩
end

set_option maxRecDepth 100000 in
theorem hallTrade_lifted (os : Os) (started : os.Started) (H : Type) (enc : TypeId × Value → H) :
    ReturnsInHanded {} Try.checked os 6 .any (Rows.hallTradeSpec.pre6 enc Try.prog Try.f6 Rows.hallTradeRow.domain false) (Rows.hallTradeSpec.post enc Try.prog Try.f6 false true false false) := by
  refine returnsInHanded_of_change (C := Try.checked) own_knob started (by kernel_rfl) Try.func6
    (ChangeSpec.witness6 (enc := enc) (C := Try.checked) false ⟨#[], #[.slice none 0 0, .slice none 0 0], []⟩ 8 (by kernel_rfl) (by kernel_rfl) (by kernel_rfl) (by kernel_rfl)) ?_
  intro W base args ds gs before hval0 hW hcnd _
  have hval : ∀ (j : Nat) t v, Try.f6.params[j]? = some t → args[j]? = some v → Value.okWide Try.prog W .any base t v := hval0
  have hW' := hW
  obtain ⟨p, q, hA0, hV, rfl, hfz, hnd⟩ := hW
  have hA : DataW.TrodAll enc Try.prog W 0 (fun _ => true) true Try.f6.params.toList args.toList ds p := hA0
  rw [Try.params6] at hA hval
  obtain ⟨v0, vs0, d0, ds0, p0, q0, hargs, rfl, rfl, h0, r0⟩ := trodAll_cons hA
  obtain ⟨v1, vs1, d1, ds1, p1, q1, rfl, rfl, rfl, h1, r1⟩ := trodAll_cons r0
  obtain ⟨rfl, rfl, rfl⟩ := trodAll_nil r1
  obtain rfl : args = #[v0, v1] := by cases args; simp_all
  obtain ⟨rfl, rfl⟩ := trodVars_none hV
  have k0 := h0
  have k1 := h1
  have lt0 : ∀ x ∈ p0, x.block < W.heap.size := by obtain ⟨m, hm⟩ := k0; exact DataW.trod_lt m _ _ _ hm
  have lt1 : ∀ x ∈ p1, x.block < W.heap.size := by obtain ⟨m, hm⟩ := k1; exact DataW.trod_lt m _ _ _ hm
  obtain ⟨a, P, ca, hx⟩ := lists_in h0 (okWide_slice Try.underlying22 (hval 0 22 v0 rfl rfl))
  obtain ⟨d, l, c, hz⟩ := ints_in h1 (okWide_slice Try.underlying23 (hval 1 23 v1 rfl rfl))
  clear hA0 hval0
  refine (trade_walk hx hz).mono fun e W' ⟨he, bel⟩ => ?_
  subst he
  exact ⟨_, rfl, _, _, _, [], _, [], hW', trodAll_mk1 (shut_bool Try.underlying4 _), (trodAll_cons_mk (Below.trod laid_out (by kernel_rfl) (of_decide_eq_true (by kernel_rfl)) k0 bel lt0) (trodAll_cons_mk (Below.trod laid_out (by kernel_rfl) (of_decide_eq_true (by kernel_rfl)) k1 bel lt1) trodAll_mk0)), rfl, bel.frame _, fun h => by cases h⟩

theorem hallTrade_holds : Rows.HallTradeSaid :=
  OpenClaim.holds_of_wide 6 Try.f6 rfl rfl rfl rfl rfl rfl rfl ⟨rfl, rfl, rfl, rfl, rfl⟩ rfl rfl rfl rfl rfl (by kernel_rfl) Try.func6 (by kernel_rfl)
    (of_decide_eq_true (by kernel_rfl)) (by unfold Func.isWrapper; first | (rw [if_pos (by decide +kernel)]; kernel_rfl) | (rw [if_neg (by decide +kernel)]; exact ⟨rfl, rfl⟩))
    (fun os started H enc _ => hallTrade_lifted os started H enc)
end Go.Proofs.Ytomnnickiljkgaa
