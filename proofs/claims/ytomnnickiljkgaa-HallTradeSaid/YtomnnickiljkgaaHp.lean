/- Serial of both, with what is wrong. -/
import Derived.Test.YtomnnickiljkgaaHo
namespace Go.Proofs.Ytomnnickiljkgaa
open Go.RowKit
attribute [local go_sem ↓] Go.wp_at_zero Go.wp_at_succ

def errZ (order : List Int) (W : List (List Int)) (z : Int) : Int := if W.length > 8 ∨ z < 0 ∨ z > 8 then 1 else if okLists z.toNat false W = true ∧ order.length = W.length ∧ listedQ W.length order = true then 0 else 70
def SerA (order : List Int) (W : List (List Int)) (z : Int) (l : List Int) : Prop := (errZ order W z = 0 → l = serL W order (List.replicate W.length (-1))) ∧ (errZ order W z ≠ 0 → l = [])
theorem SerA.one {order : List Int} {W : List (List Int)} {z : Int} {l k : List Int} (h : SerA order W z l) (h' : SerA order W z k) : l = k := by
  by_cases he : errZ order W z = 0
  · rw [h.1 he, h'.1 he]
  · rw [h.2 he, h'.2 he]
theorem SerA.bad {order : List Int} {W : List (List Int)} {z : Int} (h : errZ order W z ≠ 0) : SerA order W z [] := ⟨fun e => absurd e h, fun _ => rfl⟩
theorem errZ_ok {order : List Int} {W : List (List Int)} {z : Int} (h : errZ order W z = 0) : W.length ≤ 8 ∧ 0 ≤ z ∧ z ≤ 8 ∧ okLists z.toNat false W = true ∧ order.length = W.length ∧ listedQ W.length order = true := by
  unfold errZ at h
  split at h
  · cases h
  · rename_i h0
    split at h
    · rename_i h1
      exact ⟨by omega, by omega, by omega, h1.1, h1.2.1, h1.2.2⟩
    · cases h
set_option maxRecDepth 8000 in
set_option maxHeartbeats 8000000 in
theorem serial_w {w : World} {m c n ca : Nat} {z : Int} {a b : Option Addr} {order : List Int} {W : List (List Int)} (h : IntsF w a order) (hm : m = order.length) (hm9 : m ≤ 12) (hW : RowsF w b W) (hs : SmallL W) (hn : n = W.length) :
    Calls Try.prog 24 #[.slice a m c, .slice b n ca, .int .i64 z] w fun e w' => (∃ va vc l, e = .returned (.tuple #[.slice va l.length vc, .int .i64 (errZ order W z)]) ∧ IntsF w' va l ∧ SerA order W z l) ∧ Below w.heap.size w w' := by
  have K1 := Lib.hid (checkR_w (k := 8) (c := ca) (z := z) hW hs hn)
  have HO := Lib.hid h
  have HM := Lib.hid hm
  have HW := Lib.hid hW
  have HS := Lib.hid hs
  have HN := Lib.hid hn
  obtain ⟨x, hx⟩ : ∃ x, x = errC 8 z false W := ⟨_, rfl⟩
  obtain ⟨ez, hez⟩ : ∃ x, x = errZ order W z := ⟨_, rfl⟩
  have HX := Lib.hid hx
  have HEZ := Lib.hid hez
  rw [← hx] at K1
  rw [← hez]
  clear h hm hW hs hn hx hez
  go_enter Try.func24, Try.ntmps24
  go_wp2_with fail
  refine K1.out.mono ?_
  rintro en2 w2 ⟨rfl, hb2⟩
  have HZ2 := Lib.hid hb2
  clear hb2 K1
  by_cases hx0 : x = 0
  rotate_left
  · have u1 : (x == 0) = false := by simpa using hx0
    have u2 : (x != 0) = true := by simpa using hx0
    have HE9 : Hid (ez = x) := Lib.hid (by
      rw [HEZ.out, HX.out]
      have h0 := HX.out
      unfold errC at h0 ⊢
      unfold errZ
      by_cases g1 : W.length > 8 ∨ z < 0 ∨ z > 8
      · rw [if_pos g1, if_pos g1]
      · rw [if_neg g1] at h0
        rw [if_neg g1, if_neg g1]
        by_cases g2 : okLists z.toNat false W = true
        · rw [if_pos g2] at h0; exact absurd h0 hx0
        · rw [if_neg g2, if_neg (fun e => g2 e.1)])
    have HX0 := Lib.hid hx0
    go_wp2_with fail
    go_ret2
    exact ⟨⟨none, 0, [], by rw [HE9.out]; rfl, IntsF.nil _ _, SerA.bad (by rw [← HEZ.out, HE9.out]; exact HX0.out)⟩, HZ2.out⟩
  subst hx0
  obtain ⟨g1, g2⟩ : ¬ (W.length > 8 ∨ z < 0 ∨ z > 8) ∧ okLists z.toNat false W = true := by
    have h0 := HX.out
    unfold errC at h0
    by_cases g1 : W.length > 8 ∨ z < 0 ∨ z > 8
    · rw [if_pos g1] at h0; cases h0
    · rw [if_neg g1] at h0
      by_cases g2 : okLists z.toNat false W = true
      · exact ⟨g1, g2⟩
      · rw [if_neg g2] at h0; cases h0
  obtain ⟨k, rfl⟩ : ∃ k : Nat, z = (k : Int) := ⟨z.toNat, by omega⟩
  rw [Int.toNat_natCast] at g2
  have hk8 : k ≤ 8 := by omega
  have hn8 : n ≤ 8 := by have := HN.out; omega
  have HOK := Lib.hid g2
  have HEZ2 : Hid (ez = if order.length = W.length ∧ listedQ W.length order = true then 0 else 70) := Lib.hid (by
    rw [HEZ.out]; unfold errZ
    rw [if_neg g1, Int.toNat_natCast]
    simp only [g2, true_and])
  clear g1 g2
  have KT := Lib.hid (total_w (n := n) (c := c) (HO.out.below HZ2.out) HM.out hn8 (by omega))
  obtain ⟨tb, htb⟩ : ∃ x, x = (decide (order.length = n) && listedQ n order) := ⟨_, rfl⟩
  have HTB := Lib.hid htb
  rw [← htb] at KT
  clear htb
  go_wp2_with fail
  refine KT.out.mono ?_
  rintro en3 w3 ⟨rfl, hb3⟩
  have HZ3 := Lib.hid (below_trans HZ2.out hb3)
  clear hb3 KT HZ2
  cases tb with
  | false =>
    have HE9 : Hid (ez = 70) := Lib.hid (by
      rw [HEZ2.out, if_neg]
      rintro ⟨e1, e2⟩
      have := HTB.out
      rw [HN.out, e2] at this
      simp [e1] at this)
    go_wp2_with fail
    go_ret2
    exact ⟨⟨none, 0, [], by rw [HE9.out]; rfl, IntsF.nil _ _, SerA.bad (by rw [← HEZ.out, HE9.out]; decide)⟩, HZ3.out⟩
  | true =>
    have hTB : order.length = n ∧ listedQ n order = true := by
      have := HTB.out
      simp only [Bool.true_eq, Bool.and_eq_true, decide_eq_true_eq] at this
      exact this
    have HE9 : Hid (ez = 0) := Lib.hid (by rw [HEZ2.out, if_pos ⟨by rw [hTB.1]; exact HN.out, by rw [← HN.out]; exact hTB.2⟩])
    have KC := Lib.hid (chosen_w (c := c) (ca := ca) (HO.out.below HZ3.out) HM.out (by have := HM.out; omega) (HW.out.below HZ3.out) HS.out HN.out hn8 hk8 HOK.out hTB.2)
    clear hTB
    go_wp2_with fail
    refine KC.out.mono ?_
    rintro en4 w4 ⟨⟨B, rfl, hB, hT⟩, hb4⟩
    have HZ4 := Lib.hid (below_trans HZ3.out hb4)
    have HT := Lib.hid hT
    clear hb4 hB hT KC
    go_wp2_with fail
    go_ret2
    exact ⟨⟨some ⟨B, 0, none⟩, n, serL W order (List.replicate n (-1)), by rw [HE9.out, serL_len, List.length_replicate]; rfl, HT.out.ints (range_wide (by omega) (serL_range HOK.out rep_range)), ⟨fun _ => by rw [← HN.out], fun e => absurd (by rw [← HEZ.out, HE9.out]) e⟩⟩, HZ4.out⟩
set_option maxRecDepth 8000 in
set_option maxHeartbeats 8000000 in
theorem rserial_w {w : World} {m c n ca : Nat} {z : Int} {a b : Option Addr} {order : List Int} {W : List (List Int)} (h : IntsF w a order) (hm : m = order.length) (hm9 : m ≤ 12) (hW : RowsF w b W) (hs : SmallL W) (hn : n = W.length) :
    Calls Try.prog 23 #[.slice a m c, .slice b n ca, .int .i64 z] w fun e w' => (∃ va vc l, e = .returned (.tuple #[.slice va l.length vc, .int .i64 (errZ order W z)]) ∧ IntsF w' va l ∧ SerA order W z l) ∧ Below w.heap.size w w' := by
  have HO := Lib.hid h
  have HM := Lib.hid hm
  have HW := Lib.hid hW
  have HS := Lib.hid hs
  have HN := Lib.hid hn
  have hn12 : n ≤ 12 := by rw [hn]; exact hs.1
  obtain ⟨ez, hez⟩ : ∃ x, x = errZ order W z := ⟨_, rfl⟩
  have HEZ := Lib.hid hez
  rw [← hez]
  clear h hm hW hs hn hez
  have bad : Hid (W.length > 8 ∨ z < 0 ∨ z > 8 → ez = 1) := Lib.hid (fun g => by rw [HEZ.out]; unfold errZ; rw [if_pos g])
  by_cases g1 : n > 8
  · have t1 : decide ((8 : Int) < (n : Int)) = true := by simp; omega
    have t2 : decide ((n : Int) > 8) = true := by simp; omega
    have HE9 : Hid (ez = 1) := Lib.hid (bad.out (Or.inl (by have := HN.out; omega)))
    go_enter Try.func23, Try.ntmps23
    go_wp2_with fail
    go_ret2
    exact ⟨⟨none, 0, [], by rw [HE9.out]; rfl, IntsF.nil _ _, SerA.bad (by rw [← HEZ.out, HE9.out]; decide)⟩, Below.refl _ _⟩
  have t1 : decide ((8 : Int) < (n : Int)) = false := by simp; omega
  have t2 : decide ((n : Int) > 8) = false := by simp; omega
  by_cases g2 : z < 0
  · have t3 : decide (z < 0) = true := by simpa using g2
    have HE9 : Hid (ez = 1) := Lib.hid (bad.out (Or.inr (Or.inl g2)))
    go_enter Try.func23, Try.ntmps23
    go_wp2_with fail
    go_ret2
    exact ⟨⟨none, 0, [], by rw [HE9.out]; rfl, IntsF.nil _ _, SerA.bad (by rw [← HEZ.out, HE9.out]; decide)⟩, Below.refl _ _⟩
  have t3 : decide (z < 0) = false := by simpa using g2
  by_cases g3 : z > 8
  · have t4 : decide (z > 8) = true := by simpa using g3
    have t5 : decide (8 < z) = true := by simpa using g3
    have HE9 : Hid (ez = 1) := Lib.hid (bad.out (Or.inr (Or.inr g3)))
    go_enter Try.func23, Try.ntmps23
    go_wp2_with fail
    go_ret2
    exact ⟨⟨none, 0, [], by rw [HE9.out]; rfl, IntsF.nil _ _, SerA.bad (by rw [← HEZ.out, HE9.out]; decide)⟩, Below.refl _ _⟩
  have t4 : decide (z > 8) = false := by simpa using g3
  have t5 : decide (8 < z) = false := by simpa using g3
  obtain ⟨k, rfl⟩ : ∃ k : Nat, z = (k : Int) := ⟨z.toNat, by omega⟩
  have hk8 : k ≤ 8 := by omega
  have hn8 : n ≤ 8 := by omega
  have HEZ2 : Hid (ez = if okLists k false W = true ∧ order.length = W.length ∧ listedQ W.length order = true then 0 else 70) := Lib.hid (by
    rw [HEZ.out]; unfold errZ
    rw [if_neg (by have := HN.out; omega), Int.toNat_natCast])
  have K1 := Lib.hid (allR_w (n := k) (c := ca) HW.out HS.out HN.out)
  have K2 := Lib.hid (listed_w (n := n) (c := c) HO.out HM.out (by omega))
  obtain ⟨x1, hx1⟩ : ∃ x, x = okLists k false W := ⟨_, rfl⟩
  obtain ⟨x2, hx2⟩ : ∃ x, x = listedQ n order := ⟨_, rfl⟩
  have HX1 := Lib.hid hx1
  have HX2 := Lib.hid hx2
  rw [← hx1] at K1
  rw [← hx2] at K2
  clear hx1 hx2 g1 g2 g3 bad
  go_enter Try.func23, Try.ntmps23
  go_wp2_with fail
  refine K1.out.mono ?_
  rintro en2 w2 ⟨rfl, rfl⟩
  cases x1 with
  | false =>
    have HE9 : Hid (ez = 70) := Lib.hid (by rw [HEZ2.out, if_neg (fun e => by rw [← HX1.out] at e; cases e.1)])
    go_wp2_with fail
    go_ret2
    exact ⟨⟨none, 0, [], by rw [HE9.out]; rfl, IntsF.nil _ _, SerA.bad (by rw [← HEZ.out, HE9.out]; decide)⟩, Below.refl _ _⟩
  | true =>
  by_cases hmn : m = n
  rotate_left
  · have u1 : ((m : Int) == (n : Int)) = false := by simp; omega
    have u2 : ((m : Int) != (n : Int)) = true := by simp; omega
    have HE9 : Hid (ez = 70) := Lib.hid (by rw [HEZ2.out, if_neg (fun e => hmn (by have := e.2.1; have := HM.out; have := HN.out; omega))])
    go_wp2_with fail
    go_ret2
    exact ⟨⟨none, 0, [], by rw [HE9.out]; rfl, IntsF.nil _ _, SerA.bad (by rw [← HEZ.out, HE9.out]; decide)⟩, Below.refl _ _⟩
  subst hmn
  go_wp2_with fail
  refine K2.out.mono ?_
  rintro en2 w2 ⟨rfl, rfl⟩
  cases x2 with
  | false =>
    have HE9 : Hid (ez = 70) := Lib.hid (by rw [HEZ2.out, if_neg (fun e => by have := e.2.2; rw [← HN.out, ← HX2.out] at this; cases this)])
    go_wp2_with fail
    go_ret2
    exact ⟨⟨none, 0, [], by rw [HE9.out]; rfl, IntsF.nil _ _, SerA.bad (by rw [← HEZ.out, HE9.out]; decide)⟩, Below.refl _ _⟩
  | true =>
    have HE9 : Hid (ez = 0) := Lib.hid (by rw [HEZ2.out, if_pos ⟨HX1.out.symm, by rw [← HM.out]; exact HN.out, by rw [← HN.out]; exact HX2.out.symm⟩])
    have KC := Lib.hid (taken_w (c := c) (ca := ca) HO.out HM.out (by omega) HW.out HS.out HN.out hn8 hk8 HX1.out.symm HX2.out.symm)
    go_wp2_with fail
    refine KC.out.mono ?_
    rintro en4 w4 ⟨⟨B, rfl, hB, hT⟩, hb4⟩
    have HZ4 := Lib.hid hb4
    have HT := Lib.hid hT
    clear hb4 hB hT KC
    go_wp2_with fail
    go_ret2
    exact ⟨⟨some ⟨B, 0, none⟩, m, serL W order (List.replicate m (-1)), by rw [HE9.out, serL_len, List.length_replicate]; rfl, HT.out.ints (range_wide (by omega) (serL_range HX1.out.symm rep_range)), ⟨fun _ => by rw [← HN.out], fun e => absurd (by rw [← HEZ.out, HE9.out]) e⟩⟩, HZ4.out⟩
end Go.Proofs.Ytomnnickiljkgaa
