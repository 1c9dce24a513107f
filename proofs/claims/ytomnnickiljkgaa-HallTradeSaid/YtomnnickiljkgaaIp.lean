/- The reference's Object. -/
import Derived.Test.YtomnnickiljkgaaIo
namespace Go.Proofs.Ytomnnickiljkgaa
open Go.RowKit
attribute [local go_sem ↓] Go.wp_at_zero Go.wp_at_succ
theorem objZ_zero {W : List (List Int)} {gl : List Int} : objZ W gl 0 = false := by unfold objZ; rw [mem_zero rfl, shareB]
set_option maxRecDepth 100000 in
set_option maxHeartbeats 8000000 in
theorem robject_w {w : World} {n m ca cb : Nat} {a b : Option Addr} {W : List (List Int)} {gl : List Int} (h : RowsF w a W) (hs : SmallL W) (hn : n = W.length) (h2 : IntsF w b gl) (hm : m = gl.length) (hm12 : m ≤ 12) :
    Calls Try.prog 20 #[.slice a n ca, .slice b m cb] w fun e w' => (∃ va vc l, e = .returned (.tuple #[.slice va l.length vc, .int .i64 (errO W gl)]) ∧ IntsF w' va l ∧ ObjA W gl l) ∧ Below w.heap.size w w' := by
  have K1 := Lib.hid (allT_w (n := n) (c := ca) h hs hn)
  have KL := Lib.hid (listed_w (n := n) (c := cb) h2 hm (by omega))
  obtain ⟨eo, heo⟩ : ∃ x, x = errO W gl := ⟨_, rfl⟩
  obtain ⟨ok, hok⟩ : ∃ x, x = okLists n true W := ⟨_, rfl⟩
  obtain ⟨lb, hlb⟩ : ∃ x, x = listedQ n gl := ⟨_, rfl⟩
  have HEO := Lib.hid heo
  have HOK := Lib.hid hok
  have HLB := Lib.hid hlb
  have HN := Lib.hid hn
  have HM := Lib.hid hm
  have HW := Lib.hid h
  have HS := Lib.hid hs
  have HG := Lib.hid h2
  have hn12 : n ≤ 12 := by rw [hn]; exact hs.1
  have HT : Hid (errT W = if n > 8 then 1 else if ok = true then 0 else 70) := Lib.hid (by
    rw [hok]; unfold errT errC
    rw [← hn, Int.toNat_natCast]
    by_cases g : n > 8
    · rw [if_pos (Or.inl g), if_pos g]
    · rw [if_neg (by omega), if_neg g])
  rw [← hok] at K1
  rw [← hlb] at KL
  rw [← heo]
  clear h hs hn h2 hm heo hok hlb
  by_cases hn8' : n > 8
  · have t1 : decide ((8 : Int) < (n : Int)) = true := by simp; omega
    have t2 : decide ((n : Int) > 8) = true := by simp; omega
    have HE9 : Hid (eo = 1) := Lib.hid (by rw [HEO.out]; unfold errO; rw [HT.out, if_pos hn8', if_neg (by decide)])
    go_enter Try.func20, Try.ntmps20
    go_wp2_with fail
    go_ret2
    exact ⟨⟨none, 0, [], by rw [HE9.out]; rfl, IntsF.nil _ _, ObjA.bad (by rw [← HEO.out, HE9.out]; decide)⟩, Below.refl _ _⟩
  have t1 : decide ((8 : Int) < (n : Int)) = false := by simp; omega
  have t2 : decide ((n : Int) > 8) = false := by simp; omega
  have hn8 : n ≤ 8 := by omega
  go_enter Try.func20, Try.ntmps20
  go_wp2_with fail
  refine K1.out.mono ?_
  rintro en2 w2 ⟨rfl, rfl⟩
  cases ok with
  | false =>
    have HTT : errT W = 70 := by rw [HT.out, if_neg (show ¬ n > 8 by omega)]; rfl
    have HE9 : Hid (eo = 70) := Lib.hid (by rw [HEO.out]; unfold errO; rw [HTT, if_neg (by decide)])
    clear HTT
    go_wp2_with fail
    go_ret2
    exact ⟨⟨none, 0, [], by rw [HE9.out]; rfl, IntsF.nil _ _, ObjA.bad (by rw [← HEO.out, HE9.out]; decide)⟩, Below.refl _ _⟩
  | true =>
  have HE2 : Hid (eo = if gl.length = W.length ∧ listedQ W.length gl = true then 0 else 70) := Lib.hid (by
    have HTT : errT W = 0 := by rw [HT.out, if_neg (show ¬ n > 8 by omega)]; rfl
    rw [HEO.out]; unfold errO; rw [HTT, if_pos rfl])
  by_cases hmn : m = n
  rotate_left
  · have q1 : ((m : Int) == (n : Int)) = false := by simp; omega
    have q2 : ((m : Int) != (n : Int)) = true := by simp; omega
    have HE9 : Hid (eo = 70) := Lib.hid (by rw [HE2.out, if_neg (fun e => hmn (by rw [HM.out, HN.out]; exact e.1))])
    go_wp2_with fail
    go_ret2
    exact ⟨⟨none, 0, [], by rw [HE9.out]; rfl, IntsF.nil _ _, ObjA.bad (by rw [← HEO.out, HE9.out]; decide)⟩, Below.refl _ _⟩
  subst hmn
  have q1 : ((m : Int) == (m : Int)) = true := by simp
  have q2 : ((m : Int) != (m : Int)) = false := by simp
  go_wp2_with fail
  refine KL.out.mono ?_
  rintro en3 w3 ⟨rfl, rfl⟩
  cases lb with
  | false =>
    have HE9 : Hid (eo = 70) := Lib.hid (by rw [HE2.out, if_neg (fun e => by have h9 := e.2; rw [← HN.out, ← HLB.out] at h9; cases h9)])
    go_wp2_with fail
    go_ret2
    exact ⟨⟨none, 0, [], by rw [HE9.out]; rfl, IntsF.nil _ _, ObjA.bad (by rw [← HEO.out, HE9.out]; decide)⟩, Below.refl _ _⟩
  | true =>
  have HE9 : Hid (eo = 0) := Lib.hid (by rw [HE2.out, if_pos ⟨by rw [← HM.out]; exact HN.out, by rw [← HN.out]; exact HLB.out.symm⟩])
  have HGT : Hid (gl = tabI m (fun i => ((gotF gl i : Nat) : Int))) := Lib.hid (got_tab HM.out.symm (listed_iff.1 HLB.out.symm).2).1
  go_wp2_with fail
  go_loopw [7, 8] (fun pv iv wr => ∃ (i p : Nat), i ≤ m ∧ iv = .int .i64 i ∧ pv = .int .i64 p ∧ Hid (p = 2 ^ i) ∧ w = wr) (fun _ iv _ => m - (intOf iv).toNat)
  case atStart => exact ⟨0, 1, Nat.zero_le _, rfl, rfl, Lib.hid (by simp), rfl⟩
  case round =>
    obtain ⟨i, p, hi, rfl, rfl, hp, rfl⟩ := hrel
    have hp256 : p ≤ 256 := by rw [hp.out]; exact pow_small (by omega)
    by_cases him : i < m
    · have t0 : decide ((i : Int) < (m : Int)) = true := by simp; omega
      obtain ⟨p2, hp2⟩ : ∃ x, x = p * 2 := ⟨_, rfl⟩
      have HP2 : Hid (p2 = 2 ^ (i + 1)) := Lib.hid (by rw [hp2, hp.out, Nat.pow_succ])
      have hm2 : (p : Int) * 2 = (p2 : Int) := by omega
      have hw2 : IntKind.i64.wrap ((p : Int) * 2) = (p2 : Int) := by rw [hm2]; exact IntWalk.i64_in (p2 : Int) (by omega)
      clear hp hp2
      go_wp2_with fail
      go_roundw
      case rel => exact ⟨i + 1, p2, by omega, by go_num, rfl, HP2, by first | rfl | trivial⟩
      case measure => simp [intOf]; omega
    have t0 : decide ((i : Int) < (m : Int)) = false := by simp; omega
    obtain rfl : i = m := by omega
    have H0 : Hid (∀ y, y < 1 → objZ W gl y = false) := Lib.hid (fun y hy => by
      have : y = 0 := by omega
      rw [this]; exact objZ_zero)
    go_wp2_with fail
    go_loopw [9] (fun iv wr => ∃ z : Nat, z ≤ p ∧ iv = .int .i64 z ∧ Hid (∀ y, y < z → objZ W gl y = false) ∧ Hid (Below w.heap.size w wr)) (fun iv _ => p - (intOf iv).toNat)
    case atStart => exact ⟨1, by rw [hp.out]; exact Nat.one_le_two_pow, rfl, H0, Lib.hid (Below.refl _ _)⟩
    case round =>
      obtain ⟨z, hz, rfl, hno, hY⟩ := hrel
      obtain ⟨wo, rfl⟩ : ∃ wo : World, wo = wr := ⟨_, rfl⟩
      by_cases hzp : z < p
      rotate_left
      · have t5 : decide ((z : Int) < (p : Int)) = false := by simp; omega
        have HNO : Hid (∀ y, y < 2 ^ W.length → objZ W gl y = false) := Lib.hid (fun y hy => hno.out y (by have := hp.out; rw [HN.out] at this; omega))
        go_wp2_with fail
        go_ret2
        exact ⟨⟨none, 0, [], by rw [HE9.out]; rfl, IntsF.nil _ _, fun _ => Or.inr ⟨HNO.out, rfl⟩, fun _ => rfl⟩, hY.out⟩
      have t5 : decide ((z : Int) < (p : Int)) = true := by simp; omega
      have KM := Lib.hid (members_w (w := wo) (z := z) (n := i) (by omega) hn8)
      obtain ⟨lm, hlm⟩ : ∃ x, x = (memI i z).length := ⟨_, rfl⟩
      have HLM := Lib.hid hlm
      rw [← hlm] at KM
      clear hlm
      go_wp2_with fail
      refine KM.out.mono ?_
      rintro en5 w5 ⟨⟨va, vc, rfl, hI5⟩, hb5⟩
      have HI5 := Lib.hid hI5
      have HY5 := Lib.hid (below_trans hY.out hb5)
      have KO := Lib.hid (objects_w (ca := ca) (cb := cb) (cc := vc) (z := z) (HW.out.below HY5.out) (HG.out.below HY5.out) hI5 HS.out HN.out hn8 HGT.out HLM.out (by rw [← hp.out]; exact hzp))
      obtain ⟨ob, hob⟩ : ∃ x, x = objZ W gl z := ⟨_, rfl⟩
      have HOB := Lib.hid hob
      rw [← hob] at KO
      clear hob hI5 hb5 KM
      go_wp2_with fail
      refine KO.out.mono ?_
      rintro en6 w6 ⟨rfl, hb6⟩
      have HY6 := Lib.hid (below_trans HY5.out hb6)
      have HI6 := Lib.hid (HI5.out.below hb6)
      clear hb6 KO
      cases ob with
      | false =>
        have HN9 : Hid (∀ y, y < z + 1 → objZ W gl y = false) := Lib.hid (fun y hy => by
          by_cases e : y < z
          · exact hno.out y e
          · obtain rfl : y = z := by omega
            exact HOB.out.symm)
        go_wp2_with fail
        go_roundw
        case rel => exact ⟨z + 1, by omega, by go_num, HN9, HY6⟩
        case measure => simp [intOf]; omega
      | true =>
        have HEQ : Hid (memI i z = memI 8 z) := Lib.hid (by unfold memI; rw [memL_eight hn8 (by rw [← hp.out]; exact hzp)])
        go_wp2_with fail
        go_ret2
        exact ⟨⟨va, vc, memI i z, by rw [HE9.out, ← HLM.out]; rfl, HI6.out, fun _ => Or.inl ⟨z, by rw [← HN.out, ← hp.out]; exact hzp, HOB.out.symm, hno.out, HEQ.out⟩, fun e => absurd (by rw [← HEO.out, HE9.out]) e⟩, HY6.out⟩
end Go.Proofs.Ytomnnickiljkgaa
