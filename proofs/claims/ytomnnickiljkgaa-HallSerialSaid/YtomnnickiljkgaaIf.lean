/- HallSerial answers true at every input: choosing one behind the other is as the definition says, nobody gains by a lie, and nothing else gives one more and none less. No conditions. -/
import Derived.Test.YtomnnickiljkgaaId
import Derived.Test.YtomnnickiljkgaaIe
import Derived.Deep.DeepCutAuto
namespace Go.Proofs.Ytomnnickiljkgaa
open Go.ChangeShapes Go.WideShapes Go.ChangeAt Go.RowKit
theorem lists_trod {H : Type} {enc : TypeId × Value → H} {W : World} {v : Value} {base fuel : Nat} {x : DataW H × List MemPlace}
    (hf : DataW.trod enc Try.prog W base (fun _ => true) true fuel 22 [v] = some x) : ∃ a L c, InL W v a L c := by
  rcases DataW.trod_slice Try.underlying22 hf with ⟨h0, _⟩ | ⟨a', len, cap, elems, rest, m, _, hcs, _, _, hl, hm, hlen, hel, _, _⟩
  · simp at h0
    subst h0
    exact ⟨none, [], 0, rfl, by simp, fun i l h => by simp at h⟩
  · simp at hcs
    subst hcs
    have each : ∀ j, j < len → ∃ u y, W.cell? (a'.add j) = some u ∧ DataW.trod enc Try.prog W base (fun _ => true) true m 23 [u] = some y := by
      intro j hj
      have h1 := hel j hj
      rw [cells_row9, List.getElem?_eq_getElem (by omega), Option.bind_eq_some_iff, Nat.mul_one] at h1
      obtain ⟨cs, hc1, hc2⟩ := h1
      obtain ⟨-, hcl, hcell⟩ := World.cells?_some hc1
      obtain ⟨u, rfl⟩ : ∃ u, cs = [u] := by
        match cs, hcl with
        | [c0], _ => exact ⟨c0, rfl⟩
      have e0 : W.cell? ((a'.add j).add 0) = some u := hcell 0 (by omega)
      exact ⟨u, _, e0, hc2⟩
    by_cases h0 : len = 0
    · subst h0
      exact ⟨some a', [], cap, rfl, by simp, fun i l h => by simp at h⟩
    obtain ⟨u0, y0, e0, -⟩ := each 0 (by omega)
    have e0' : W.cell? a' = _ := e0
    obtain ⟨B, off, rfl, -⟩ := spot_here e0'
    obtain ⟨L, hL, hp⟩ := list_of (n := len) (Pr := fun i l => ∃ a1 c1, W.cell? ⟨B, off + i, none⟩ = some (.slice a1 l.length c1) ∧ IntsF W a1 l ∧ l.length ≤ c1 ∧ l.length ≤ 9223372036854775807) (fun i hi => by
      obtain ⟨u, y, e1, t1⟩ := each i hi
      rw [add_flat] at e1
      obtain ⟨a1, l, c1, rfl, k1, k2, k3, _⟩ := ints_trod t1
      exact ⟨l, a1, c1, e1, k3, k2, by simp only [maxLen] at k1; omega⟩)
    refine ⟨_, L, cap, by rw [hL], by simp only [maxLen] at hm; omega, fun i l hl => ?_⟩
    obtain ⟨a1, c1, k1, k2, k3⟩ := hp i l hl
    exact ⟨B, off, a1, c1, rfl, k1, k2, k3⟩
theorem cells_choices : Try.prog.cellsOf 44 = 3 := by kernel_rfl
/-- An order, lists and how many things, as they came in. -/
def InCh (W : World) (v : Value) (a b : Option Addr) (order : List Int) (L : List (List Int)) (z : Int) (c cb : Nat) : Prop := v = .agg #[.slice a order.length c, .slice b L.length cb, .int .i64 z] ∧ (-9223372036854775808 ≤ z ∧ z ≤ 9223372036854775807) ∧ InI W (.slice a order.length c) a order c ∧ InL W (.slice b L.length cb) b L cb
set_option maxRecDepth 100000 in
theorem choices_in {H : Type} {enc : TypeId × Value → H} {W : World} {v : Value} {d : DataW H} {p : List MemPlace}
    (hv : Value.okWide Try.prog W .any 0 44 v) (h : DataW.Trod enc Try.prog W 0 (fun _ => true) true 44 v d p) :
    ∃ a b order L z c cb, InCh W v a b order L z c cb := by
  obtain ⟨v0, v1, v2, y0, y1, y2, m, rfl, rfl, rfl, h0, h1, h2⟩ := Go.Joins.open_agg3 Try.underlying44 (by kernel_rfl) cells_choices hv h
  obtain ⟨z, rfl, hz⟩ := int_trod h2
  obtain ⟨a, l, c, hI⟩ := ints_trod h0
  obtain rfl := hI.1
  obtain ⟨b, L, cb, hL⟩ := lists_trod h1
  obtain rfl := hL.1
  exact ⟨a, b, l, L, z, c, cb, rfl, hz, hI, hL⟩
theorem SerA.len {order l : List Int} {W : List (List Int)} {z : Int} (h : SerA order W z l) : l.length ≤ 8 := by
  by_cases he : errZ order W z = 0
  · rw [h.1 he, serL_len, List.length_replicate]; exact (errZ_ok he).1
  · rw [h.2 he]; exact Nat.zero_le _
section
attribute [local go_sem ↓] Go.wp_at_zero Go.wp_at_succ
set_option maxRecDepth 100000 in
set_option maxHeartbeats 8000000 in
theorem serial_walk {w : World} {u v x : Value} {a b d d2 : Option Addr} {W : List (List Int)} {order l o : List Int} {z y : Int} {c cb c2 c3 : Nat} (h : InCh w u a b order W z c cb) (h2 : InLie w v y d l c2) (h3 : InI w x d2 o c3) :
    Calls Try.prog 8 #[u, v, x] w fun e w' => e = .returned (.bool true) ∧ Below w.heap.size w w' := by
  obtain ⟨rfl, hz9, ⟨-, ho9, hoc, hO, -⟩, -, hw9, hW⟩ := h
  obtain ⟨rfl, hy9, -, hl9, hlc, hI, -⟩ := h2
  obtain ⟨rfl, hx9, hxc, hX, -⟩ := h3
  obtain ⟨m, hm⟩ : ∃ x, x = l.length := ⟨_, rfl⟩
  have HM := Lib.hid hm
  obtain ⟨k, hk⟩ : ∃ x, x = order.length := ⟨_, rfl⟩
  have HK := Lib.hid hk
  obtain ⟨q, hq⟩ : ∃ x, x = o.length := ⟨_, rfl⟩
  have HQ := Lib.hid hq
  obtain ⟨n, hn⟩ : ∃ x, x = W.length := ⟨_, rfl⟩
  have HN := Lib.hid hn
  rw [← hm] at hl9 hlc ⊢
  rw [← hk] at ho9 hoc ⊢
  rw [← hq] at hx9 hxc ⊢
  rw [← hn] at hw9 ⊢
  have hm9 : m ≤ 9223372036854775807 := by simp only [maxLen] at hl9; omega
  have hk9 : k ≤ 9223372036854775807 := by simp only [maxLen] at ho9; omega
  have hq9 : q ≤ 9223372036854775807 := by simp only [maxLen] at hx9; omega
  obtain ⟨w0, hw0⟩ : ∃ w0, w0 = (w.alloc (Obj.cells #[Value.slice a k c, Value.slice b n cb, Value.int .i64 z] 44)).alloc (Obj.cells #[Value.int .i64 y, Value.slice d m c2] 36) := ⟨_, rfl⟩
  have hb0 : Below w.heap.size w w0 := by rw [hw0]; exact ((Below.refl _ _).alloc (Nat.le_refl _) _).alloc (by simp) _
  have HZ0 := Lib.hid hb0
  have S1 := Lib.hid (small_w (c := cb) (hW.below hb0) hn hw9)
  have HW := Lib.hid (hW.below hb0)
  have HO := Lib.hid (hO.below hb0)
  have HI := Lib.hid (hI.below hb0)
  have HX := Lib.hid (hX.below hb0)
  clear hW hO hI hX hb0 hm hk hq hn hl9 ho9 hx9
  go_enter Try.func8, Try.ntmps8
  go_wp2_with fail
  rw [← hw0]
  clear hw0
  refine S1.out.mono ?_
  rintro en1 w1 ⟨⟨b1, rfl, hs1⟩, rfl⟩
  cases b1 with
  | false =>
    clear hs1
    go_wp2_with fail
    go_ret
    exact ⟨rfl, HZ0.out⟩
  | true =>
  have HS1 := Lib.hid (hs1 rfl)
  clear hs1 S1
  have hn12 : n ≤ 12 := by rw [HN.out]; exact HS1.out.1
  by_cases hk12 : k > 12
  · have t1 : decide ((12 : Int) < (k : Int)) = true := by simp; omega
    have t2 : decide ((k : Int) > 12) = true := by simp; omega
    go_wp2_with fail
    go_ret
    exact ⟨rfl, HZ0.out⟩
  have tk1 : decide ((12 : Int) < (k : Int)) = false := by simp; omega
  have tk2 : decide ((k : Int) > 12) = false := by simp; omega
  replace hk12 : k ≤ 12 := by omega
  by_cases hm12 : m > 12
  · have t1 : decide ((12 : Int) < (m : Int)) = true := by simp; omega
    have t2 : decide ((m : Int) > 12) = true := by simp; omega
    go_wp2_with fail
    go_ret
    exact ⟨rfl, HZ0.out⟩
  have tm1 : decide ((12 : Int) < (m : Int)) = false := by simp; omega
  have tm2 : decide ((m : Int) > 12) = false := by simp; omega
  replace hm12 : m ≤ 12 := by omega
  by_cases hq12 : q > 12
  · have t1 : decide ((12 : Int) < (q : Int)) = true := by simp; omega
    have t2 : decide ((q : Int) > 12) = true := by simp; omega
    go_wp2_with fail
    go_ret
    exact ⟨rfl, HZ0.out⟩
  have tq1 : decide ((12 : Int) < (q : Int)) = false := by simp; omega
  have tq2 : decide ((q : Int) > 12) = false := by simp; omega
  replace hq12 : q ≤ 12 := by omega
  have K1 := Lib.hid (rserial_w (c := c) (ca := cb) (z := z) HO.out HK.out hk12 HW.out HS1.out HN.out)
  obtain ⟨er, her⟩ : ∃ x, x = errZ order W z := ⟨_, rfl⟩
  have HER := Lib.hid her
  rw [← her] at K1
  clear her
  go_wp2_with fail
  refine K1.out.mono ?_
  rintro en2 w2 ⟨⟨va, vc, g, rfl, hI1, hA1⟩, hb2⟩
  have HI1 := Lib.hid hI1
  have HA1 := Lib.hid hA1
  have HZ2 := Lib.hid hb2
  have K2 := Lib.hid (serial_w (c := c) (ca := cb) (z := z) (HO.out.below hb2) HK.out hk12 (HW.out.below hb2) HS1.out HN.out)
  rw [← HER.out] at K2
  obtain ⟨n1, hn1⟩ : ∃ x, x = g.length := ⟨_, rfl⟩
  have HN1 := Lib.hid hn1
  rw [← hn1]
  clear hI1 hA1 hb2 hn1 K1
  go_wp2_with fail
  refine K2.out.mono ?_
  rintro en3 w3 ⟨⟨va2, vc2, g2, rfl, hI2, hA2⟩, hb3⟩
  obtain rfl := SerA.one HA1.out hA2
  have HI2 := Lib.hid hI2
  have HI3 := Lib.hid (HI1.out.below hb3)
  have HZ3 := Lib.hid (below_trans HZ2.out hb3)
  rw [← HN1.out]
  have hn18 : n1 ≤ 8 := by rw [HN1.out]; exact HA1.out.len
  have K3 := Lib.hid (fxi_w (c := vc2) (d := vc) HI2.out HI3.out HN1.out (by omega))
  have ea1 : (er == er) = true := by simp
  have ea2 : (er != er) = false := by simp
  clear hI2 hA2 hb3 K2 HI1 HZ2
  go_wp2_with fail
  refine K3.out.mono ?_
  rintro en4 w4 ⟨rfl, hb4⟩
  have HZ4 := Lib.hid (below_trans HZ3.out hb4)
  have HG4 := Lib.hid (HI2.out.below hb4)
  have HW4 := Lib.hid (below_trans HZ0.out HZ4.out)
  clear hb4 K3 HI2 HI3 HZ3
  have KF : Hid (∀ w' : World, Calls Try.prog 15 #[] w' fun e w'' => e = .returned (.bool true) ∧ Below w'.heap.size w' w'') := Lib.hid (fun w' => fixed_w)
  by_cases he0 : er = 0
  rotate_left
  · have u9 : (er == 0) = false := by simpa using he0
    have ua : (er != 0) = true := by simpa using he0
    go_wp2_with fail
    refine (KF.out _).mono ?_
    rintro en8 w8 ⟨rfl, hb8⟩
    have HZ8 := Lib.hid (below_trans HW4.out hb8)
    clear hb8
    go_wp2_with fail
    go_ret
    exact ⟨rfl, HZ8.out⟩
  have hE := errZ_ok (HER.out.symm.trans he0)
  have HGL : Hid (n1 = n) := Lib.hid (by rw [HN1.out, HN.out, HA1.out.1 (HER.out.symm.trans he0), serL_len, List.length_replicate])
  subst he0
  obtain ⟨nz, rfl⟩ : ∃ nz : Nat, z = (nz : Int) := ⟨z.toNat, by have := hE.2.1; omega⟩
  clear hE
  go_upto_region 14 with fail
  go_cut [82] (fun cv wr => cv = .bool (decide (0 ≤ y ∧ y < (n : Int))) ∧ w4 = wr)
  case first =>
    by_cases hy0 : y < 0
    · have t1 : decide (y ≥ 0) = false := by simp; omega
      have t2 : decide (0 ≤ y) = false := by simp; omega
      go_wp2_with fail
      go_meet
      exact ⟨by rw [decide_eq_false (fun h => by omega)], rfl⟩
    have t1 : decide (y ≥ 0) = true := by simp; omega
    have t2 : decide (0 ≤ y) = true := by simp; omega
    by_cases hpn : y < (n : Int)
    · have t3 : decide (y < (n : Int)) = true := by simp; omega
      go_wp2_with fail
      go_meet
      exact ⟨by rw [decide_eq_true (And.intro (by omega) hpn)], rfl⟩
    · have t3 : decide (y < (n : Int)) = false := by simp; omega
      go_wp2_with fail
      go_meet
      exact ⟨by rw [decide_eq_false (fun h => by omega)], rfl⟩
  case rest =>
  obtain ⟨rfl, rfl⟩ := hcut
  obtain ⟨bc, hbc⟩ : ∃ bc, bc = decide (0 ≤ y ∧ y < (n : Int)) := ⟨_, rfl⟩
  have HBC := Lib.hid hbc
  rw [← hbc]
  clear hbc
  go_upto_if 82 with fail
  go_cut [6] (fun rv wr => rv = .bool false ∧ Hid (Below w4.heap.size w4 wr))
  case first =>
    cases bc with
    | false =>
      go_wp2_with fail
      go_meet
      exact ⟨rfl, Lib.hid (Below.refl _ _)⟩
    | true =>
    have hpn := of_decide_eq_true HBC.out.symm
    obtain ⟨p, rfl⟩ : ∃ p : Nat, y = (p : Int) := ⟨y.toNat, by omega⟩
    replace hpn : p < n := by omega
    have K2 := Lib.hid (with_w (c := cb) (d := c2) (i := p) (HW.out.below HZ4.out) HS1.out.1 HN.out (HI.out.below HZ4.out) HM.out hlc (by omega))
    go_wp2_with fail
    refine K2.out.mono ?_
    rintro en5 w5 ⟨⟨a5, c5, rfl, hR5⟩, hb5⟩
    have HZ5 := Lib.hid (below_trans HZ4.out hb5)
    have HG5 := Lib.hid (HG4.out.below hb5)
    have HB5 := Lib.hid hb5
    have K3 := Lib.hid (serial_w (c := c) (ca := c5) (z := (nz : Int)) (HO.out.below HZ5.out) HK.out hk12 hR5 (HS1.out.set (by have := HM.out; omega) p) (HN.out.trans List.length_set.symm))
    obtain ⟨ef, hef⟩ : ∃ x, x = errZ order (W.set p l) (nz : Int) := ⟨_, rfl⟩
    have HEF := Lib.hid hef
    rw [← hef] at K3
    clear hR5 hb5 hef K2
    go_wp2_with fail
    refine K3.out.mono ?_
    rintro en6 w6 ⟨⟨vb, vd, o6, rfl, hI6, hA6⟩, hb6⟩
    have HI6 := Lib.hid hI6
    have HA6 := Lib.hid hA6
    have HZ6 := Lib.hid (below_trans HZ5.out hb6)
    have HG6 := Lib.hid (HG5.out.below hb6)
    have HB6 := Lib.hid (below_trans HB5.out hb6)
    obtain ⟨n2, hn2⟩ : ∃ x, x = o6.length := ⟨_, rfl⟩
    have HN2 := Lib.hid hn2
    rw [← hn2]
    clear hI6 hA6 hb6 hn2 K3
    by_cases hf0 : ef = 0
    rotate_left
    · have u9 : (ef == 0) = false := by simpa using hf0
      have ua : (ef != 0) = true := by simpa using hf0
      go_wp2_with fail
      go_quiet (fail)
      go_wp2_with fail
      go_meet
      exact ⟨rfl, Lib.hid (below_drewN HB6.out _)⟩
    obtain ⟨hg, ho, hnl⟩ := ser_true (l := l) (p := p) (by have := HN.out; omega) HER.out.symm (HEF.out.symm.trans hf0) HA1.out HA6.out
    obtain rfl : n2 = n := by rw [HN2.out, HN.out]; exact ho
    subst hf0
    obtain ⟨B, off, a', c', ha, hIP, -, -, hc⟩ := HW.out.at (i := p) (by have := HN.out; omega)
    obtain ⟨zg, B2, off2, hzg, hva, -, hc2⟩ := HG6.out.at (i := p) (by have := HN1.out; have := HGL.out; omega)
    obtain ⟨zo, B3, off3, hzo, hvb, -, hc3⟩ := HI6.out.at (i := p) (by have := HN2.out; omega)
    subst ha hva hvb
    have f1 := hc w6 HZ6.out
    have f2 := hc2 w6 (Below.refl _ _)
    have f3 := hc3 w6 (Below.refl _ _)
    rw [nthI_some hzg, nthI_some hzo] at hnl
    have hl12 := HS1.out.nth p
    have KA : Hid (∀ nq, Calls Try.prog 16 #[.slice a' (nthL W p).length c', .int .i64 zo, .int .i64 zg] (w6.drewN nq) fun e w'' => e = .returned (.bool false) ∧ w6.drewN nq = w'') := Lib.hid (fun nq => by
      have h9 := rahead_w (c := c') (x := zo) (y := zg) (hIP.below (below_drewN HZ6.out nq)) rfl (by omega)
      rw [decide_eq_false hnl] at h9
      exact h9)
    obtain ⟨ln, hln⟩ : ∃ x, x = (nthL W p).length := ⟨_, rfl⟩
    rw [← hln] at KA f1
    have hpn1 : p < n1 := by have := HGL.out; omega
    have q1 : (n2 == n2) = true := by simp
    have q2 : (n2 != n2) = false := by simp
    clear hc hc2 hc3 hzg hzo hIP hl12 hln hg ho hnl
    go_wp2_with fail
    go_quiet ((go_at_call 16; exact quiet_left (KA.out _)))
    clear f1 f2 f3 KA
    go_wp2_with fail
    go_meet
    exact ⟨rfl, Lib.hid (below_drewN HB6.out _)⟩
  case rest =>
  obtain ⟨w5, rfl⟩ : ∃ w8 : World, w8 = wc := ⟨_, rfl⟩
  obtain ⟨rfl, HB5⟩ := hcut
  have HZ5 := Lib.hid (below_trans HZ4.out HB5.out)
  have HW5 := Lib.hid (below_trans HW4.out HB5.out)
  have HG5 := Lib.hid (HG4.out.below HB5.out)
  have K5 := Lib.hid (rmatching_w (np := n) (nr := nz) (c := c3) (HX.out.below HZ5.out) HQ.out hq12)
  obtain ⟨mb, hmb⟩ : ∃ x, x = matQ n nz o := ⟨_, rfl⟩
  have HMB := Lib.hid hmb
  rw [← hmb] at K5
  clear hmb HB5 HG4
  go_wp2_with fail
  refine K5.out.mono ?_
  rintro en6 w6 ⟨rfl, hb6⟩
  have HZ6 := Lib.hid (below_trans HZ5.out hb6)
  have HW6 := Lib.hid (below_trans HW5.out hb6)
  have HG6 := Lib.hid (HG5.out.below hb6)
  clear hb6 K5 HZ5 HW5 HG5
  cases mb with
  | false =>
    go_wp2_with fail
    refine (KF.out _).mono ?_
    rintro en8 w8 ⟨rfl, hb8⟩
    have HZ8 := Lib.hid (below_trans HW6.out hb8)
    clear hb8
    go_wp2_with fail
    go_ret
    exact ⟨rfl, HZ8.out⟩
  | true =>
  have HPAR := Lib.hid (ser_pareto (W := W) HER.out.symm HA1.out (by rw [← HN.out]; exact HMB.out.symm))
  have HQN : Hid (q = n) := Lib.hid (by rw [HQ.out]; exact (matQ_parts HMB.out.symm).1)
  go_wp2_with fail
  go_loopw [18, 19, 20] (fun bv sv iv wr => ∃ (i : Nat) (bb sb : Bool), i ≤ n ∧ bv = .bool bb ∧ sv = .bool sb ∧ iv = .int .i64 i ∧ Hid (bb = true → ∃ j, j < n ∧ scoreQ (nthL W j) (nthI o j) < scoreQ (nthL W j) (nthI g j)) ∧ Hid (sb = false → ∀ j, j < i → ¬ scoreQ (nthL W j) (nthI g j) < scoreQ (nthL W j) (nthI o j)) ∧ Hid (Below w6.heap.size w6 wr)) (fun _ _ iv _ => n - (intOf iv).toNat)
  case atStart => exact ⟨0, false, false, Nat.zero_le _, rfl, rfl, rfl, Lib.hid (fun e => by cases e), Lib.hid (fun _ j hj => absurd hj (Nat.not_lt_zero _)), Lib.hid (Below.refl _ _)⟩
  case round =>
    obtain ⟨i, bb, sb, hi, rfl, rfl, rfl, hbb, hsb, hY⟩ := hrel
    obtain ⟨wo, rfl⟩ : ∃ wo : World, wo = wr := ⟨_, rfl⟩
    by_cases hin : i < n
    rotate_left
    · have t0 : decide ((i : Int) < (n : Int)) = false := by simp; omega
      have HW7 := Lib.hid (below_trans HW6.out hY.out)
      have HBS : Hid (bb = true → sb = true) := Lib.hid (fun e => by
        cases sb with
        | true => rfl
        | false =>
          obtain ⟨j, hj, hlt⟩ := hbb.out e
          exact absurd hlt (HPAR.out (fun i hi => hsb.out rfl i (by have := HN.out; omega)) j (by have := HN.out; omega)))
      clear hbb hsb hY HZ6 HW6
      cases bb with
      | false =>
        go_wp2_with fail
        refine (KF.out _).mono ?_
        rintro en8 w8 ⟨rfl, hb8⟩
        have HZ8 := Lib.hid (below_trans HW7.out hb8)
        clear hb8
        go_wp2_with fail
        go_ret
        exact ⟨rfl, HZ8.out⟩
      | true =>
        obtain rfl := HBS.out rfl
        go_wp2_with fail
        refine (KF.out _).mono ?_
        rintro en8 w8 ⟨rfl, hb8⟩
        have HZ8 := Lib.hid (below_trans HW7.out hb8)
        clear hb8
        go_wp2_with fail
        go_ret
        exact ⟨rfl, HZ8.out⟩
    have t0 : decide ((i : Int) < (n : Int)) = true := by simp; omega
    have HZ7 := Lib.hid (below_trans HZ6.out hY.out)
    obtain ⟨B, off, a', c', ha, hIP, -, -, hc⟩ := HW.out.at (i := i) (by have := HN.out; omega)
    obtain ⟨zo, B2, off2, hzo, hvx, -, hc2⟩ := HX.out.at (i := i) (by have := HQ.out; have := HQN.out; omega)
    obtain ⟨zg, B3, off3, hzg, hva, -, hc3⟩ := HG6.out.at (i := i) (by have := HN1.out; have := HGL.out; omega)
    subst ha hvx hva
    have e1 := hc wo HZ7.out
    have e2 := hc2 wo HZ7.out
    have e3 := hc3 wo hY.out
    have hl12 := HS1.out.nth i
    obtain ⟨ba, hba⟩ : ∃ x, x = decide (scoreQ (nthL W i) zo < scoreQ (nthL W i) zg) := ⟨_, rfl⟩
    obtain ⟨sa, hsa⟩ : ∃ x, x = decide (scoreQ (nthL W i) zg < scoreQ (nthL W i) zo) := ⟨_, rfl⟩
    have KA : Hid (∀ w', Below w0.heap.size w0 w' → Calls Try.prog 16 #[.slice a' (nthL W i).length c', .int .i64 zo, .int .i64 zg] w' fun e w'' => e = .returned (.bool ba) ∧ w' = w'') := Lib.hid (fun w' hw' => by
      have h9 := rahead_w (c := c') (x := zo) (y := zg) (hIP.below hw') rfl (by omega)
      rw [← hba] at h9
      exact h9)
    have KB : Hid (∀ w', Below w0.heap.size w0 w' → Calls Try.prog 16 #[.slice a' (nthL W i).length c', .int .i64 zg, .int .i64 zo] w' fun e w'' => e = .returned (.bool sa) ∧ w' = w'') := Lib.hid (fun w' hw' => by
      have h9 := rahead_w (c := c') (x := zg) (y := zo) (hIP.below hw') rfl (by omega)
      rw [← hsa] at h9
      exact h9)
    have HB1 : Hid ((bb || ba) = true → ∃ j, j < n ∧ scoreQ (nthL W j) (nthI o j) < scoreQ (nthL W j) (nthI g j)) := Lib.hid (fun e => by
      rw [Bool.or_eq_true] at e
      rcases e with e | e
      · exact hbb.out e
      · rw [e] at hba
        exact ⟨i, hin, by rw [nthI_some hzo, nthI_some hzg]; exact of_decide_eq_true hba.symm⟩)
    have HB2 : Hid ((sb || sa) = false → ∀ j, j < i + 1 → ¬ scoreQ (nthL W j) (nthI g j) < scoreQ (nthL W j) (nthI o j)) := Lib.hid (fun e j hj => by
      rw [Bool.or_eq_false_iff] at e
      by_cases h : j < i
      · exact hsb.out e.1 j h
      · obtain rfl : j = i := by omega
        have h9 := e.2
        rw [h9] at hsa
        rw [nthI_some hzo, nthI_some hzg]
        exact of_decide_eq_false hsa.symm)
    obtain ⟨ln, hln⟩ : ∃ x, x = (nthL W i).length := ⟨_, rfl⟩
    rw [← hln] at KA KB e1
    have hin1 : i < n1 := by have := HGL.out; omega
    have hiq : i < q := by have := HQN.out; omega
    clear hc hc2 hc3 hzg hzo hIP hl12 hln hba hsa hbb hsb HZ6 HW6
    go_wp2_with fail
    cases bb with
    | false =>
      go_quiet ((go_at_call 16; exact quiet_left (KA.out _ (below_drewN HZ7.out _))))
      obtain ⟨w8, hw8⟩ : ∃ w8, w8 = wo.drewN nq := ⟨_, rfl⟩
      rw [← hw8]
      have f1 : w8.cell? ⟨B, off + i, none⟩ = some (.slice a' ln c') := by rw [hw8]; exact e1
      have f2 : w8.cell? ⟨B2, off2 + i, none⟩ = some (.int .i64 zo) := by rw [hw8]; exact e2
      have f3 : w8.cell? ⟨B3, off3 + i, none⟩ = some (.int .i64 zg) := by rw [hw8]; exact e3
      have HZ8 : Hid (Below w0.heap.size w0 w8) := Lib.hid (by rw [hw8]; exact below_drewN HZ7.out _)
      have HY8 : Hid (Below w6.heap.size w6 w8) := Lib.hid (by rw [hw8]; exact below_drewN hY.out _)
      clear hw8 e1 e2 e3 hY HZ7
      go_wp2_with fail
      cases sb with
      | false =>
        go_quiet ((go_at_call 16; exact quiet_left (KB.out _ (below_drewN HZ8.out _))))
        clear f1 f2 f3
        go_wp2_with fail
        go_roundw
        case rel => exact ⟨i + 1, _, _, by omega, rfl, rfl, by go_num, Lib.hid (by first | exact HB1.out | simpa using HB1.out), Lib.hid (by first | exact HB2.out | simpa using HB2.out), Lib.hid (below_drewN HY8.out _)⟩
        case measure => simp [intOf]; omega
      | true =>
        go_quiet (fail)
        clear f1 f2 f3
        go_wp2_with fail
        go_roundw
        case rel => exact ⟨i + 1, _, _, by omega, rfl, rfl, by go_num, Lib.hid (by first | exact HB1.out | simpa using HB1.out), Lib.hid (by first | exact HB2.out | simpa using HB2.out), Lib.hid (below_drewN HY8.out _)⟩
        case measure => simp [intOf]; omega
    | true =>
      go_quiet (fail)
      obtain ⟨w8, hw8⟩ : ∃ w8, w8 = wo.drewN nq := ⟨_, rfl⟩
      rw [← hw8]
      have f1 : w8.cell? ⟨B, off + i, none⟩ = some (.slice a' ln c') := by rw [hw8]; exact e1
      have f2 : w8.cell? ⟨B2, off2 + i, none⟩ = some (.int .i64 zo) := by rw [hw8]; exact e2
      have f3 : w8.cell? ⟨B3, off3 + i, none⟩ = some (.int .i64 zg) := by rw [hw8]; exact e3
      have HZ8 : Hid (Below w0.heap.size w0 w8) := Lib.hid (by rw [hw8]; exact below_drewN HZ7.out _)
      have HY8 : Hid (Below w6.heap.size w6 w8) := Lib.hid (by rw [hw8]; exact below_drewN hY.out _)
      clear hw8 e1 e2 e3 hY HZ7
      go_wp2_with fail
      cases sb with
      | false =>
        go_quiet ((go_at_call 16; exact quiet_left (KB.out _ (below_drewN HZ8.out _))))
        clear f1 f2 f3
        go_wp2_with fail
        go_roundw
        case rel => exact ⟨i + 1, _, _, by omega, rfl, rfl, by go_num, Lib.hid (by first | exact HB1.out | simpa using HB1.out), Lib.hid (by first | exact HB2.out | simpa using HB2.out), Lib.hid (below_drewN HY8.out _)⟩
        case measure => simp [intOf]; omega
      | true =>
        go_quiet (fail)
        clear f1 f2 f3
        go_wp2_with fail
        go_roundw
        case rel => exact ⟨i + 1, _, _, by omega, rfl, rfl, by go_num, Lib.hid (by first | exact HB1.out | simpa using HB1.out), Lib.hid (by first | exact HB2.out | simpa using HB2.out), Lib.hid (below_drewN HY8.out _)⟩
        case measure => simp [intOf]; omega
end

set_option maxRecDepth 100000 in
theorem hallSerial_lifted (os : Os) (started : os.Started) (H : Type) (enc : TypeId × Value → H) :
    ReturnsInHanded {} Try.checked os 8 .any (Rows.hallSerialSpec.pre6 enc Try.prog Try.f8 Rows.hallSerialRow.domain false) (Rows.hallSerialSpec.post enc Try.prog Try.f8 false true false false) := by
  refine returnsInHanded_of_change (C := Try.checked) own_knob started (by kernel_rfl) Try.func8
    (ChangeSpec.witness6 (enc := enc) (C := Try.checked) false ⟨#[], #[.agg #[.slice none 0 0, .slice none 0 0, .int .i64 0], .agg #[.int .i64 0, .slice none 0 0], .slice none 0 0], []⟩ 8 (by kernel_rfl) (by kernel_rfl) (by kernel_rfl) (by kernel_rfl)) ?_
  intro W base args ds gs before hval0 hW hcnd _
  have hval : ∀ (j : Nat) t v, Try.f8.params[j]? = some t → args[j]? = some v → Value.okWide Try.prog W .any base t v := hval0
  have hW' := hW
  obtain ⟨p, q, hA0, hV, rfl, hfz, hnd⟩ := hW
  have hA : DataW.TrodAll enc Try.prog W 0 (fun _ => true) true Try.f8.params.toList args.toList ds p := hA0
  rw [Try.params8] at hA hval
  obtain ⟨v0, vs0, d0, ds0, p0, q0, hargs, rfl, rfl, h0, r0⟩ := trodAll_cons hA
  obtain ⟨v1, vs1, d1, ds1, p1, q1, rfl, rfl, rfl, h1, r1⟩ := trodAll_cons r0
  obtain ⟨v2, vs2, d2, ds2, p2, q2, rfl, rfl, rfl, h2, r2⟩ := trodAll_cons r1
  obtain ⟨rfl, rfl, rfl⟩ := trodAll_nil r2
  obtain rfl : args = #[v0, v1, v2] := by cases args; simp_all
  obtain ⟨rfl, rfl⟩ := trodVars_none hV
  have k0 := h0
  have k1 := h1
  have k2 := h2
  have lt0 : ∀ x ∈ p0, x.block < W.heap.size := by obtain ⟨m, hm⟩ := k0; exact DataW.trod_lt m _ _ _ hm
  have lt1 : ∀ x ∈ p1, x.block < W.heap.size := by obtain ⟨m, hm⟩ := k1; exact DataW.trod_lt m _ _ _ hm
  have lt2 : ∀ x ∈ p2, x.block < W.heap.size := by obtain ⟨m, hm⟩ := k2; exact DataW.trod_lt m _ _ _ hm
  obtain ⟨a, b, order, W0, z, c, cb, hx⟩ := choices_in (hval 0 44 v0 rfl rfl) h0
  obtain ⟨y, d, l, c2, hy⟩ := lied_in (hval 1 36 v1 rfl rfl) h1
  obtain ⟨d2, o, c3, hz⟩ := ints_in h2 (okWide_slice Try.underlying23 (hval 2 23 v2 rfl rfl))
  clear hA0 hval0
  refine (serial_walk hx hy hz).mono fun e W' ⟨he, bel⟩ => ?_
  subst he
  exact ⟨_, rfl, _, _, _, [], _, [], hW', trodAll_mk1 (shut_bool Try.underlying4 _), (trodAll_cons_mk (Below.trod laid_out (by kernel_rfl) (of_decide_eq_true (by kernel_rfl)) k0 bel lt0) (trodAll_cons_mk (Below.trod laid_out (by kernel_rfl) (of_decide_eq_true (by kernel_rfl)) k1 bel lt1) (trodAll_cons_mk (Below.trod laid_out (by kernel_rfl) (of_decide_eq_true (by kernel_rfl)) k2 bel lt2) trodAll_mk0))), rfl, bel.frame _, fun h => by cases h⟩

theorem hallSerial_holds : Rows.HallSerialSaid :=
  OpenClaim.holds_of_wide 8 Try.f8 rfl rfl rfl rfl rfl rfl rfl ⟨rfl, rfl, rfl, rfl, rfl⟩ rfl rfl rfl rfl rfl (by kernel_rfl) Try.func8 (by kernel_rfl)
    (of_decide_eq_true (by kernel_rfl)) (by unfold Func.isWrapper; first | (rw [if_pos (by decide +kernel)]; kernel_rfl) | (rw [if_neg (by decide +kernel)]; exact ⟨rfl, rfl⟩))
    (fun os started H enc _ => hallSerial_lifted os started H enc)
end Go.Proofs.Ytomnnickiljkgaa
