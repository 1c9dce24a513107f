/- HallAcceptTrue answers true at every input: a proposer gets nothing that it ranks ahead by whatever it says in the place of its list. No conditions. -/
import Derived.Test.YtomnnickiljkgaaIa
import Derived.Test.YtomnnickiljkgaaHz
import Derived.Test.YtomnnickiljkgaaRows
import Derived.WalkKit
import Derived.ProofKit
import Derived.StillTailTactics
namespace Go.Proofs.Ytomnnickiljkgaa
open Go.ChangeShapes Go.WideShapes Go.ChangeAt Go.RowKit
theorem int_trod {H : Type} {enc : TypeId × Value → H} {W : World} {v : Value} {base fuel : Nat} {x : DataW H × List MemPlace}
    (h : DataW.trod enc Try.prog W base (fun _ => true) true fuel 3 [v] = some x) : ∃ z, v = .int .i64 z ∧ -9223372036854775808 ≤ z ∧ z ≤ 9223372036854775807 := by
  obtain ⟨z, hz, _, hw⟩ := DataW.trod_int Try.underlying3 h
  simp at hz
  refine ⟨z, hz, ?_⟩
  have m1 : IntKind.i64.min = -9223372036854775808 := by decide
  have m2 : IntKind.i64.max = 9223372036854775807 := by decide
  simpa only [Lit.wf, m1, m2, Bool.and_eq_true, decide_eq_true_eq] using hw
theorem cells_lied : Try.prog.cellsOf 36 = 2 := by kernel_rfl
/-- One that lies, as it came in. -/
def InLie (W : World) (v : Value) (z : Int) (a : Option Addr) (l : List Int) (c : Nat) : Prop := v = .agg #[.int .i64 z, .slice a l.length c] ∧ (-9223372036854775808 ≤ z ∧ z ≤ 9223372036854775807) ∧ InI W (.slice a l.length c) a l c
set_option maxRecDepth 100000 in
theorem lied_in {H : Type} {enc : TypeId × Value → H} {W : World} {v : Value} {d : DataW H} {p : List MemPlace}
    (hv : Value.okWide Try.prog W .any 0 36 v) (h : DataW.Trod enc Try.prog W 0 (fun _ => true) true 36 v d p) :
    ∃ z a l c, InLie W v z a l c := by
  obtain ⟨v0, v1, y0, y1, m, rfl, rfl, rfl, h0, h1⟩ := Go.Joins.open_agg2 Try.underlying36 (by kernel_rfl) cells_lied hv h
  obtain ⟨z, rfl, hz⟩ := int_trod h0
  obtain ⟨a, l, c, hI⟩ := ints_trod h1
  obtain rfl := hI.1
  exact ⟨z, a, l, c, rfl, hz, hI⟩
theorem SmallL.set {L : List (List Int)} {l : List Int} (h : SmallL L) (hl : l.length ≤ 12) (i : Nat) : SmallL (L.set i l) := ⟨by rw [List.length_set]; exact h.1, fun x hx => by
  rcases List.mem_or_eq_of_mem_set hx with e | e
  · exact h.2 x e
  · rw [e]; exact hl⟩
theorem acc_true {P R : List (List Int)} {p : Nat} {l g o : List Int} (hp : p < P.length) (he : errS P R = 0) (hf : errS (P.set p l) R = 0) (hg : AccQ P R g) (ho : AccQ (P.set p l) R o) :
    g.length = P.length ∧ o.length = P.length ∧ ¬ scoreQ (nthL P p) (nthI o p) < scoreQ (nthL P p) (nthI g p) := by
  obtain ⟨m, rfl, hm⟩ := hg.1 he
  obtain ⟨m', rfl, hm'⟩ := ho.1 hf
  refine ⟨tab_len _ _, by rw [tab_len, List.length_set], ?_⟩
  rw [tab_nth hp, tab_nth (by rw [List.length_set]; exact hp)]
  exact truthQ (errS_ok he).1 hp hm hm'
section
attribute [local go_sem ↓] Go.wp_at_zero Go.wp_at_succ
set_option maxRecDepth 100000 in
set_option maxHeartbeats 8000000 in
theorem true_walk {w : World} {u v x : Value} {a b d : Option Addr} {P R : List (List Int)} {l : List Int} {z : Int} {ca cb c : Nat} (h : InL w u a P ca) (h2 : InL w v b R cb) (h3 : InLie w x z d l c) :
    Calls Try.prog 5 #[u, v, x] w fun e w' => e = .returned (.bool true) ∧ Below w.heap.size w w' := by
  obtain ⟨rfl, hp9, hP⟩ := h
  obtain ⟨rfl, hr9, hR⟩ := h2
  obtain ⟨rfl, hz9, -, hl9, hlc, hI, -⟩ := h3
  obtain ⟨m, hm⟩ : ∃ x, x = l.length := ⟨_, rfl⟩
  have HM := Lib.hid hm
  rw [← hm] at hl9 hlc ⊢
  obtain ⟨w0, hw0⟩ : ∃ w0, w0 = w.alloc (Obj.cells #[Value.int .i64 z, Value.slice d m c] 36) := ⟨_, rfl⟩
  have hb0 : Below w.heap.size w w0 := by rw [hw0]; exact (Below.refl _ _).alloc (Nat.le_refl _) _
  have HZ0 := Lib.hid hb0
  have S1 := Lib.hid (small_w (c := ca) (hP.below hb0) rfl hp9)
  have S2 := Lib.hid (small_w (c := cb) (hR.below hb0) rfl hr9)
  have HP := Lib.hid (hP.below hb0)
  have HR := Lib.hid (hR.below hb0)
  have HI := Lib.hid (hI.below hb0)
  obtain ⟨np, hnp⟩ : ∃ x, x = P.length := ⟨_, rfl⟩
  obtain ⟨nr, hnr⟩ : ∃ x, x = R.length := ⟨_, rfl⟩
  have HNP := Lib.hid hnp
  have HNR := Lib.hid hnr
  have hm9 : m ≤ 9223372036854775807 := by simp only [maxLen] at hl9; omega
  rw [← hnp] at S1 ⊢
  rw [← hnr] at S2 ⊢
  clear hp9 hP hr9 hR hl9 hI hnp hnr hm hb0
  go_enter Try.func5, Try.ntmps5
  go_wp2_with fail
  rw [← hw0]
  clear hw0
  refine S1.out.mono ?_
  rintro en1 w1 ⟨⟨b1, rfl, hs1⟩, rfl⟩
  cases b1 with
  | false =>
    clear hs1
    go_wp2_with fail
    go_ret
    exact ⟨rfl, HZ0.out⟩
  | true =>
  have HS1 := Lib.hid (hs1 rfl)
  clear hs1 S1
  go_wp2_with fail
  refine S2.out.mono ?_
  rintro en1 w1 ⟨⟨b1, rfl, hs1⟩, rfl⟩
  cases b1 with
  | false =>
    clear hs1
    go_wp2_with fail
    go_ret
    exact ⟨rfl, HZ0.out⟩
  | true =>
  have HS2 := Lib.hid (hs1 rfl)
  clear hs1 S2
  by_cases hz0 : z < 0
  · have t1 : decide (z < 0) = true := by simp; omega
    go_wp2_with fail
    go_ret
    exact ⟨rfl, HZ0.out⟩
  have t1 : decide (z < 0) = false := by simp; omega
  obtain ⟨p, rfl⟩ : ∃ p : Nat, z = (p : Int) := ⟨z.toNat, by omega⟩
  have hnp12 : np ≤ 12 := by rw [HNP.out]; exact HS1.out.1
  by_cases hpn : p < np
  rotate_left
  · have t2 : decide ((np : Int) ≤ (p : Int)) = true := by simp; omega
    have t3 : decide ((p : Int) ≥ (np : Int)) = true := by simp; omega
    go_wp2_with fail
    go_ret
    exact ⟨rfl, HZ0.out⟩
  have t2 : decide ((np : Int) ≤ (p : Int)) = false := by simp; omega
  have t3 : decide ((p : Int) ≥ (np : Int)) = false := by simp; omega
  by_cases hm12 : m > 12
  · have t4 : decide ((12 : Int) < (m : Int)) = true := by simp; omega
    have t5 : decide ((m : Int) > 12) = true := by simp; omega
    go_wp2_with fail
    go_ret
    exact ⟨rfl, HZ0.out⟩
  have t4 : decide ((12 : Int) < (m : Int)) = false := by simp; omega
  have t5 : decide ((m : Int) > 12) = false := by simp; omega
  have K1 := Lib.hid (accept_w (ca := ca) (cb := cb) HP.out HS1.out HNP.out HR.out HS2.out HNR.out)
  obtain ⟨er, her⟩ : ∃ x, x = errS P R := ⟨_, rfl⟩
  have HER := Lib.hid her
  rw [← her] at K1
  clear her
  go_wp2_with fail
  refine K1.out.mono ?_
  rintro en2 w2 ⟨⟨va, vc, g, rfl, hI1, hA1⟩, hb2⟩
  have HI1 := Lib.hid hI1
  have HA1 := Lib.hid hA1
  have HZ2 := Lib.hid hb2
  have K2 := Lib.hid (with_w (c := ca) (d := c) (i := p) (HP.out.below hb2) HS1.out.1 HNP.out (HI.out.below hb2) HM.out hlc (by omega))
  obtain ⟨n1, hn1⟩ : ∃ x, x = g.length := ⟨_, rfl⟩
  have HN1 := Lib.hid hn1
  rw [← hn1]
  clear hI1 hA1 hb2 hn1 K1
  go_wp2_with fail
  refine K2.out.mono ?_
  rintro en3 w3 ⟨⟨a2, c2, rfl, hR3⟩, hb3⟩
  have HZ3 := Lib.hid (below_trans HZ2.out hb3)
  have HI3 := Lib.hid (HI1.out.below hb3)
  have K3 := Lib.hid (accept_w (ca := c2) (cb := cb) hR3 (HS1.out.set (by have := HM.out; omega) p) (HNP.out.trans List.length_set.symm) (HR.out.below HZ3.out) HS2.out HNR.out)
  obtain ⟨ef, hef⟩ : ∃ x, x = errS (P.set p l) R := ⟨_, rfl⟩
  have HEF := Lib.hid hef
  rw [← hef] at K3
  clear hR3 hb3 hef K2 HI1 HZ2
  go_wp2_with fail
  refine K3.out.mono ?_
  rintro en4 w4 ⟨⟨vb, vd, o, rfl, hI4, hA4⟩, hb4⟩
  have HI4 := Lib.hid hI4
  have HA4 := Lib.hid hA4
  have HZ4 := Lib.hid (below_trans HZ3.out hb4)
  have HG4 := Lib.hid (HI3.out.below hb4)
  have HW4 := Lib.hid (below_trans HZ0.out HZ4.out)
  obtain ⟨n2, hn2⟩ : ∃ x, x = o.length := ⟨_, rfl⟩
  have HN2 := Lib.hid hn2
  rw [← hn2]
  clear hI4 hA4 hb4 hn2 K3 HI3 HZ3
  have KF : Hid (∀ w' : World, Calls Try.prog 15 #[] w' fun e w'' => e = .returned (.bool true) ∧ Below w'.heap.size w' w'') := Lib.hid (fun w' => fixed_w)
  by_cases he0 : er = 0
  rotate_left
  · have u9 : (er == 0) = false := by simpa using he0
    have ua : (er != 0) = true := by simpa using he0
    go_wp2_with fail
    refine (KF.out _).mono ?_
    rintro en8 w8 ⟨rfl, hb8⟩
    have HZ8 := Lib.hid (below_trans HW4.out hb8)
    clear hb8
    go_wp2_with fail
    go_ret
    exact ⟨rfl, HZ8.out⟩
  by_cases hf0 : ef = 0
  rotate_left
  · have u9 : (ef == 0) = false := by simpa using hf0
    have ua : (ef != 0) = true := by simpa using hf0
    subst he0
    go_wp2_with fail
    refine (KF.out _).mono ?_
    rintro en8 w8 ⟨rfl, hb8⟩
    have HZ8 := Lib.hid (below_trans HW4.out hb8)
    clear hb8
    go_wp2_with fail
    go_ret
    exact ⟨rfl, HZ8.out⟩
  obtain ⟨hg, ho, hnl⟩ := acc_true (l := l) (by have := HNP.out; omega) (by rw [← HER.out]; exact he0) (by rw [← HEF.out]; exact hf0) HA1.out HA4.out
  obtain rfl : n1 = np := by rw [HN1.out, HNP.out]; exact hg
  obtain rfl : n2 = n1 := by rw [HN2.out, HNP.out]; exact ho
  subst he0 hf0
  obtain ⟨B, off, a', c', ha, hIP, -, -, hc⟩ := HP.out.at (i := p) (by have := HNP.out; omega)
  obtain ⟨zg, B2, off2, hzg, hva, -, hc2⟩ := HG4.out.at (i := p) (by have := HN1.out; omega)
  obtain ⟨zo, B3, off3, hzo, hvb, -, hc3⟩ := HI4.out.at (i := p) (by have := HN2.out; omega)
  subst ha hva hvb
  have f1 := hc w4 HZ4.out
  have f2 := hc2 w4 (Below.refl _ _)
  have f3 := hc3 w4 (Below.refl _ _)
  rw [nthI_some hzg, nthI_some hzo] at hnl
  have hl12 := HS1.out.nth p
  have h9 := rahead_w (c := c') (x := zo) (y := zg) (hIP.below (below_drewN HZ4.out 1)) rfl (by omega)
  rw [decide_eq_false hnl] at h9
  have KA : Hid (Calls Try.prog 16 #[.slice a' (nthL P p).length c', .int .i64 zo, .int .i64 zg] w4.drew fun e w'' => e = .returned (.bool false) ∧ w'' = w4.drew) := Lib.hid (h9.mono fun e w'' hh => ⟨hh.1, hh.2.symm⟩)
  obtain ⟨ln, hln⟩ : ∃ x, x = (nthL P p).length := ⟨_, rfl⟩
  rw [← hln] at KA f1
  have q1 : (n2 == n2) = true := by simp
  clear hc hc2 hc3 hzg hzo hIP hl12 hln hg ho hnl h9
  go_wp2_with fail
  go_still_tail 29, (by kernel_rfl)
  (still_call KA.out)
  repeat still_step
  refine wpStill_nil ?_
  change wpList _ _ _ _ _ w4.drew
  obtain ⟨w5, hw5⟩ : ∃ w5, w5 = w4.drew := ⟨_, rfl⟩
  rw [← hw5]
  have HZ5 : Hid (Below w.heap.size w w5) := Lib.hid (by rw [hw5]; exact below_drewN HW4.out 1)
  clear hw5 f1 f2 f3 KA
  go_wp2_with fail
  refine (KF.out _).mono ?_
  rintro en8 w8 ⟨rfl, hb8⟩
  have HZ8 := Lib.hid (below_trans HZ5.out hb8)
  clear hb8
  go_wp2_with fail
  go_ret
  exact ⟨rfl, HZ8.out⟩
end

set_option maxRecDepth 100000 in
theorem hallAcceptTrue_lifted (os : Os) (started : os.Started) (H : Type) (enc : TypeId × Value → H) :
    ReturnsInHanded {} Try.checked os 5 .any (Rows.hallAcceptTrueSpec.pre6 enc Try.prog Try.f5 Rows.hallAcceptTrueRow.domain false) (Rows.hallAcceptTrueSpec.post enc Try.prog Try.f5 false true false false) := by
  refine returnsInHanded_of_change (C := Try.checked) own_knob started (by kernel_rfl) Try.func5
    (ChangeSpec.witness6 (enc := enc) (C := Try.checked) false ⟨#[], #[.slice none 0 0, .slice none 0 0, .agg #[.int .i64 0, .slice none 0 0]], []⟩ 8 (by kernel_rfl) (by kernel_rfl) (by kernel_rfl) (by kernel_rfl)) ?_
  intro W base args ds gs before hval0 hW hcnd _
  have hval : ∀ (j : Nat) t v, Try.f5.params[j]? = some t → args[j]? = some v → Value.okWide Try.prog W .any base t v := hval0
  have hW' := hW
  obtain ⟨p, q, hA0, hV, rfl, hfz, hnd⟩ := hW
  have hA : DataW.TrodAll enc Try.prog W 0 (fun _ => true) true Try.f5.params.toList args.toList ds p := hA0
  rw [Try.params5] at hA hval
  obtain ⟨v0, vs0, d0, ds0, p0, q0, hargs, rfl, rfl, h0, r0⟩ := trodAll_cons hA
  obtain ⟨v1, vs1, d1, ds1, p1, q1, rfl, rfl, rfl, h1, r1⟩ := trodAll_cons r0
  obtain ⟨v2, vs2, d2, ds2, p2, q2, rfl, rfl, rfl, h2, r2⟩ := trodAll_cons r1
  obtain ⟨rfl, rfl, rfl⟩ := trodAll_nil r2
  obtain rfl : args = #[v0, v1, v2] := by cases args; simp_all
  obtain ⟨rfl, rfl⟩ := trodVars_none hV
  have k0 := h0
  have k1 := h1
  have k2 := h2
  have lt0 : ∀ x ∈ p0, x.block < W.heap.size := by obtain ⟨m, hm⟩ := k0; exact DataW.trod_lt m _ _ _ hm
  have lt1 : ∀ x ∈ p1, x.block < W.heap.size := by obtain ⟨m, hm⟩ := k1; exact DataW.trod_lt m _ _ _ hm
  have lt2 : ∀ x ∈ p2, x.block < W.heap.size := by obtain ⟨m, hm⟩ := k2; exact DataW.trod_lt m _ _ _ hm
  obtain ⟨a, P, ca, hx⟩ := lists_in h0 (okWide_slice Try.underlying22 (hval 0 22 v0 rfl rfl))
  obtain ⟨b, R, cb, hy⟩ := lists_in h1 (okWide_slice Try.underlying22 (hval 1 22 v1 rfl rfl))
  obtain ⟨z, d, l, c, hz⟩ := lied_in (hval 2 36 v2 rfl rfl) h2
  clear hA0 hval0
  refine (true_walk hx hy hz).mono fun e W' ⟨he, bel⟩ => ?_
  subst he
  exact ⟨_, rfl, _, _, _, [], _, [], hW', trodAll_mk1 (shut_bool Try.underlying4 _), (trodAll_cons_mk (Below.trod laid_out (by kernel_rfl) (of_decide_eq_true (by kernel_rfl)) k0 bel lt0) (trodAll_cons_mk (Below.trod laid_out (by kernel_rfl) (of_decide_eq_true (by kernel_rfl)) k1 bel lt1) (trodAll_cons_mk (Below.trod laid_out (by kernel_rfl) (of_decide_eq_true (by kernel_rfl)) k2 bel lt2) trodAll_mk0))), rfl, bel.frame _, fun h => by cases h⟩

theorem hallAcceptTrue_holds : Rows.HallAcceptTrueSaid :=
  OpenClaim.holds_of_wide 5 Try.f5 rfl rfl rfl rfl rfl rfl rfl ⟨rfl, rfl, rfl, rfl, rfl⟩ rfl rfl rfl rfl rfl (by kernel_rfl) Try.func5 (by kernel_rfl)
    (of_decide_eq_true (by kernel_rfl)) (by unfold Func.isWrapper; first | (rw [if_pos (by decide +kernel)]; kernel_rfl) | (rw [if_neg (by decide +kernel)]; exact ⟨rfl, rfl⟩))
    (fun os started H enc _ => hallAcceptTrue_lifted os started H enc)
end Go.Proofs.Ytomnnickiljkgaa
