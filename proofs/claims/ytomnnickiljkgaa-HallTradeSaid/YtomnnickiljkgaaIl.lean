/- Object: the first group that objects. -/
import Derived.Test.YtomnnickiljkgaaIk
namespace Go.Proofs.Ytomnnickiljkgaa
open Go.RowKit
attribute [local go_sem ↓] Go.wp_at_zero Go.wp_at_succ
/-- What is wrong with lists and what is got. -/
def errO (W : List (List Int)) (gl : List Int) : Int := if errT W = 0 then (if gl.length = W.length ∧ listedQ W.length gl = true then 0 else 70) else errT W
def gotF (gl : List Int) (i : Nat) : Nat := (nthI gl i).toNat
/-- Whether the group of a number objects. -/
def objZ (W : List (List Int)) (gl : List Int) (z : Nat) : Bool := shareB W (gotF gl) (memL 8 (fun i => z.testBit i)) (fun y => z.testBit y) false
def ObjA (W : List (List Int)) (gl l : List Int) : Prop :=
  (errO W gl = 0 → (∃ z, z < 2 ^ W.length ∧ objZ W gl z = true ∧ (∀ y, y < z → objZ W gl y = false) ∧ l = memI 8 z) ∨ ((∀ z, z < 2 ^ W.length → objZ W gl z = false) ∧ l = [])) ∧ (errO W gl ≠ 0 → l = [])
theorem ObjA.bad {W : List (List Int)} {gl : List Int} (h : errO W gl ≠ 0) : ObjA W gl [] := ⟨fun e => absurd e h, fun _ => rfl⟩
theorem ObjA.one {W : List (List Int)} {gl l k : List Int} (h : ObjA W gl l) (h' : ObjA W gl k) : l = k := by
  by_cases he : errO W gl = 0
  · rcases h.1 he with ⟨z, h1, h2, h3, rfl⟩ | ⟨h1, rfl⟩ <;> rcases h'.1 he with ⟨y, g1, g2, g3, rfl⟩ | ⟨g1, rfl⟩
    · rcases Nat.lt_trichotomy z y with e | e | e
      · rw [g3 z e] at h2; cases h2
      · rw [e]
      · rw [h3 y e] at g2; cases g2
    · rw [g1 z h1] at h2; cases h2
    · rw [h1 y g1] at g2; cases g2
    · rfl
  · rw [h.2 he, h'.2 he]
theorem ObjA.len {W : List (List Int)} {gl l : List Int} (h : ObjA W gl l) : l.length ≤ 8 := by
  by_cases he : errO W gl = 0
  · rcases h.1 he with ⟨z, _, _, _, rfl⟩ | ⟨_, rfl⟩
    · exact memI_len 8 z
    · exact Nat.zero_le _
  · rw [h.2 he]; exact Nat.zero_le _
theorem got_tab {n : Nat} {gl : List Int} (hl : gl.length = n) (hr : ∀ x ∈ gl, 0 ≤ x ∧ x < (n : Int)) : gl = tabI n (fun i => ((gotF gl i : Nat) : Int)) ∧ ∀ i, i < n → gotF gl i < n := by
  have key : ∀ i, i < n → gl[i]? = some (nthI gl i) ∧ 0 ≤ nthI gl i ∧ nthI gl i < (n : Int) := fun i hi => by
    have h1 := nthI_get (l := gl) (i := i) (by omega)
    exact ⟨h1, hr _ (List.mem_of_getElem? h1)⟩
  refine ⟨List.ext_getElem? (fun i => ?_), fun i hi => ?_⟩
  · by_cases hi : i < n
    · obtain ⟨h1, h2, h3⟩ := key i hi
      rw [h1, tab_get hi]
      unfold gotF
      congr 1
      omega
    · rw [List.getElem?_eq_none (by omega), List.getElem?_eq_none (by rw [tab_len]; omega)]
  · obtain ⟨h1, h2, h3⟩ := key i hi
    unfold gotF
    omega
theorem bit_small : ∀ n : Fin 9, ∀ z : Fin 256, (z : Nat) < 2 ^ (n : Nat) → ∀ i : Fin 8, (z : Nat).testBit i = true → (i : Nat) < n := by decide +kernel
theorem pow_small {n : Nat} (hn : n ≤ 8) : 2 ^ n ≤ 256 := Nat.le_trans (Nat.pow_le_pow_right (by omega) hn) (by decide)
theorem group_small {n z i : Nat} (hn : n ≤ 8) (hz : z < 2 ^ n) (hi : i < 8) (h : z.testBit i = true) : i < n :=
  bit_small ⟨n, by omega⟩ ⟨z, by have := pow_small hn; omega⟩ hz ⟨i, hi⟩ h
set_option maxRecDepth 100000 in
set_option maxHeartbeats 8000000 in
theorem object_w {w : World} {n m ca cb : Nat} {a b : Option Addr} {W : List (List Int)} {gl : List Int} (h : RowsF w a W) (hs : SmallL W) (hn : n = W.length) (h2 : IntsF w b gl) (hm : m = gl.length) (hm12 : m ≤ 12) :
    Calls Try.prog 22 #[.slice a n ca, .slice b m cb] w fun e w' => (∃ va vc l, e = .returned (.tuple #[.slice va l.length vc, .int .i64 (errO W gl)]) ∧ IntsF w' va l ∧ ObjA W gl l) ∧ Below w.heap.size w w' := by
  have K1 := Lib.hid (checkT_w (k := 8) (c := ca) (z := (n : Int)) h hs hn)
  obtain ⟨x, hx⟩ : ∃ x, x = errT W := ⟨_, rfl⟩
  obtain ⟨eo, heo⟩ : ∃ x, x = errO W gl := ⟨_, rfl⟩
  have HX := Lib.hid hx
  have HEO := Lib.hid heo
  have HN := Lib.hid hn
  have HM := Lib.hid hm
  have HW := Lib.hid h
  have HG := Lib.hid h2
  have hx9 : errC 8 (n : Int) true W = x := by rw [hx, hn]; rfl
  rw [hx9] at K1
  rw [← heo]
  clear h hs hn h2 hm hx hx9 heo
  go_enter Try.func22, Try.ntmps22
  go_wp2_with fail
  refine K1.out.mono ?_
  rintro en2 w2 ⟨rfl, hb2⟩
  have HZ2 := Lib.hid hb2
  clear hb2 K1
  by_cases hx0 : x = 0
  rotate_left
  · have q1 : (x == 0) = false := by simpa using hx0
    have q2 : (x != 0) = true := by simpa using hx0
    have HE9 : Hid (eo = x ∧ x ≠ 0) := Lib.hid ⟨by rw [HEO.out]; unfold errO; rw [if_neg (by rw [← HX.out]; exact hx0), HX.out], hx0⟩
    go_wp2_with fail
    go_ret2
    exact ⟨⟨none, 0, [], by rw [HE9.out.1]; rfl, IntsF.nil _ _, ObjA.bad (by rw [← HEO.out, HE9.out.1]; exact HE9.out.2)⟩, HZ2.out⟩
  have hok := errT_ok (W := W) (by rw [← HX.out]; exact hx0)
  have hn8 : n ≤ 8 := by have := HN.out; omega
  have HOK : Hid (AllT W) := Lib.hid hok.2.2
  have KT := Lib.hid (total_w (n := n) (c := cb) (HG.out.below HZ2.out) HM.out hn8 (by omega))
  obtain ⟨tb, htb⟩ : ∃ x, x = (decide (gl.length = n) && listedQ n gl) := ⟨_, rfl⟩
  have HTB := Lib.hid htb
  rw [← htb] at KT
  have HE2 : Hid (eo = if gl.length = W.length ∧ listedQ W.length gl = true then 0 else 70) := Lib.hid (by rw [HEO.out]; unfold errO; rw [if_pos (by rw [← HX.out]; exact hx0)])
  subst hx0
  clear hok htb
  go_wp2_with fail
  refine KT.out.mono ?_
  rintro en3 w3 ⟨rfl, hb3⟩
  have HZ3 := Lib.hid (below_trans HZ2.out hb3)
  clear hb3 KT HZ2
  cases tb with
  | false =>
    have HE9 : Hid (eo = 70) := Lib.hid (by
      rw [HE2.out, if_neg]
      rintro ⟨e1, e2⟩
      have := HTB.out
      rw [HN.out, e2] at this
      simp [e1] at this)
    go_wp2_with fail
    go_ret2
    exact ⟨⟨none, 0, [], by rw [HE9.out]; rfl, IntsF.nil _ _, ObjA.bad (by rw [← HEO.out, HE9.out]; decide)⟩, HZ3.out⟩
  | true =>
  have hTB : gl.length = n ∧ listedQ n gl = true := by
    have := HTB.out
    simp only [Bool.true_eq, Bool.and_eq_true, decide_eq_true_eq] at this
    exact this
  have HE9 : Hid (eo = 0) := Lib.hid (by rw [HE2.out, if_pos ⟨by rw [hTB.1]; exact HN.out, by rw [← HN.out]; exact hTB.2⟩])
  obtain ⟨hgt, hgr⟩ := got_tab hTB.1 (listed_iff.1 hTB.2).2
  obtain ⟨p, hp⟩ : ∃ p, p = 2 ^ n := ⟨_, rfl⟩
  have hp256 : p ≤ 256 := by rw [hp]; exact pow_small hn8
  have hpi : (2 : Int) ^ n = (p : Int) := by rw [hp]; simp
  have hwr : IntKind.i64.wrap ((2 : Int) ^ n) = (p : Int) := by rw [hpi]; exact IntWalk.i64_in (p : Int) (by omega)
  have hmn : m = n := by rw [HM.out]; exact hTB.1
  subst hmn
  have KS : Hid (∀ (w' : World) (z : Nat), Below w3.heap.size w3 w' → z < p → Calls Try.prog 45 #[.slice a m ca, .slice b m cb, .int .i64 z, .int .i64 z, .bool false] w' fun e w'' => e = .returned (.bool (objZ W gl z)) ∧ Below w'.heap.size w' w'') := Lib.hid (fun w' z hb hz =>
    mayShare_w HN.out hn8 HOK.out hgt hgr z w' z false ((HW.out.below HZ3.out).below hb) ((HG.out.below HZ3.out).below hb) (by omega) (by omega) (fun i hi hbit => group_small hn8 (by rw [← hp]; exact hz) hi hbit))
  have HPN : Hid (p = 2 ^ W.length) := Lib.hid (by rw [hp, HN.out])
  clear hTB hgt hgr hp
  go_wp2_with fail
  go_loopw [23] (fun iv wr => ∃ z : Nat, z ≤ p ∧ iv = .int .i64 z ∧ Hid (∀ y, y < z → objZ W gl y = false) ∧ Hid (Below w3.heap.size w3 wr)) (fun iv _ => p - (intOf iv).toNat)
  case atStart => exact ⟨0, Nat.zero_le _, rfl, Lib.hid (fun y hy => absurd hy (Nat.not_lt_zero _)), Lib.hid (Below.refl _ _)⟩
  case round =>
    obtain ⟨z, hz, rfl, hno, hY⟩ := hrel
    obtain ⟨wo, rfl⟩ : ∃ wo : World, wo = wr := ⟨_, rfl⟩
    by_cases hzp : z < p
    rotate_left
    · have t0 : decide ((z : Int) < (p : Int)) = false := by simp; omega
      have HZ9 := Lib.hid (below_trans HZ3.out hY.out)
      have HNO : Hid (∀ y, y < 2 ^ W.length → objZ W gl y = false) := Lib.hid (fun y hy => hno.out y (by have := HPN.out; omega))
      clear hno hY
      go_wp2_with fail
      go_ret2
      exact ⟨⟨none, 0, [], by rw [HE9.out]; rfl, IntsF.nil _ _, fun _ => Or.inr ⟨HNO.out, rfl⟩, fun _ => rfl⟩, HZ9.out⟩
    have t0 : decide ((z : Int) < (p : Int)) = true := by simp; omega
    have K2 := Lib.hid (KS.out wo z hY.out hzp)
    obtain ⟨ob, hob⟩ : ∃ x, x = objZ W gl z := ⟨_, rfl⟩
    have HOB := Lib.hid hob
    rw [← hob] at K2
    clear hob
    go_wp2_with fail
    refine K2.out.mono ?_
    rintro en4 w4 ⟨rfl, hb4⟩
    have HY4 := Lib.hid (below_trans hY.out hb4)
    clear hb4 K2
    cases ob with
    | false =>
      have HN9 : Hid (∀ y, y < z + 1 → objZ W gl y = false) := Lib.hid (fun y hy => by
        by_cases e : y < z
        · exact hno.out y e
        · obtain rfl : y = z := by omega
          exact HOB.out.symm)
      clear hno hY
      go_wp2_with fail
      go_roundw
      case rel => exact ⟨z + 1, by omega, by go_num, HN9, HY4⟩
      case measure => simp [intOf]; omega
    | true =>
      have KM := Lib.hid (membersOf_w (w := w4) (z := z) (by omega))
      obtain ⟨lm, hlm⟩ : ∃ x, x = (memI 8 z).length := ⟨_, rfl⟩
      have HLM := Lib.hid hlm
      rw [← hlm] at KM
      clear hlm
      go_wp2_with fail
      refine KM.out.mono ?_
      rintro en5 w5 ⟨⟨va, vc, rfl, hI5⟩, hb5⟩
      have HI5 := Lib.hid hI5
      have HZ9 := Lib.hid (below_trans HZ3.out (below_trans HY4.out hb5))
      clear hI5 hb5 KM
      go_wp2_with fail
      go_ret2
      exact ⟨⟨va, vc, memI 8 z, by rw [HE9.out, ← HLM.out]; rfl, HI5.out, fun _ => Or.inl ⟨z, by have := HPN.out; omega, HOB.out.symm, hno.out, rfl⟩, fun e => absurd (by rw [← HEO.out, HE9.out]) e⟩, HZ9.out⟩
end Go.Proofs.Ytomnnickiljkgaa
