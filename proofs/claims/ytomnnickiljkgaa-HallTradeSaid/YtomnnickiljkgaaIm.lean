/- The reference's members. -/
import Derived.Test.YtomnnickiljkgaaIl
namespace Go.Proofs.Ytomnnickiljkgaa
open Go.RowKit
attribute [local go_sem ↓] Go.wp_at_zero Go.wp_at_succ
set_option maxRecDepth 8000 in
set_option maxHeartbeats 4000000 in
theorem members_w {w : World} {z n : Nat} (hz : z < 256) (hn : n ≤ 8) :
    Calls Try.prog 40 #[.int .i64 z, .int .i64 n] w fun e w' => (∃ va vc, e = .returned (.slice va (memI n z).length vc) ∧ IntsF w' va (memI n z)) ∧ Below w.heap.size w w' := by
  go_enter Try.func40, Try.ntmps40
  go_wp2_with fail
  go_loopw [0, 5, 6] (fun gv vv iv wr => ∃ i : Nat, ∃ q : Nat, i ≤ n ∧ iv = .int .i64 i ∧ gv = .int .i64 q ∧ Hid (q = z / 2 ^ i) ∧ Hid (LIo wr w.heap.size vv (memI i z)) ∧ Hid (Below w.heap.size w wr)) (fun _ _ iv _ => n - (intOf iv).toNat)
  case atStart => exact ⟨0, z, Nat.zero_le _, rfl, rfl, Lib.hid (by simp), Lib.hid (LIo.nil _ _), Lib.hid (Below.refl _ _)⟩
  case round =>
    obtain ⟨i, q, hi, rfl, rfl, hq, hL, hZ⟩ := hrel
    obtain ⟨wo, rfl⟩ : ∃ wo : World, wo = wr := ⟨_, rfl⟩
    by_cases hin : i < n
    rotate_left
    · have t0 : decide ((i : Int) < (n : Int)) = false := by simp; omega
      obtain rfl : i = n := by omega
      obtain ⟨av, cv, rfl⟩ := hL.out.form
      go_wp2_with fail
      go_ret
      exact ⟨⟨av, cv, rfl, hL.out.ints (memI_wide (by omega))⟩, hZ.out⟩
    have t0 : decide ((i : Int) < (n : Int)) = true := by simp; omega
    have hq256 : q < 256 := by have := hq.out; have := Nat.div_le_self z (2 ^ i); omega
    obtain ⟨tb, htb⟩ : ∃ x, x = z.testBit i := ⟨_, rfl⟩
    have hbit : tb = decide (q % 2 = 1) := by rw [htb, hq.out]; exact Nat.testBit_eq_decide_div_mod_eq
    obtain ⟨q2, hq2⟩ : ∃ x, x = q / 2 := ⟨_, rfl⟩
    have HQ2 : Hid (q2 = z / 2 ^ (i + 1)) := Lib.hid (by rw [hq2, hq.out, Nat.div_div_eq_div_mul, Nat.pow_succ])
    have d1 : (q : Int).tdiv 2 = (q2 : Int) := by rw [Int.tdiv_eq_ediv_of_nonneg (by omega)]; omega
    have d2 : (q : Int) / 2 = (q2 : Int) := by omega
    have r1 : ((q : Int).tmod 2 == 1) = tb := by rw [hbit, Int.tmod_eq_emod_of_nonneg (by omega)]; rw [Bool.eq_iff_iff]; simp; omega
    have r2 : ((q : Int) % 2 == 1) = tb := by rw [hbit]; rw [Bool.eq_iff_iff]; simp; omega
    have HTB := Lib.hid htb
    clear htb hbit hq2 hq
    cases tb with
    | false =>
      have HL9 : Hid (LIo wo w.heap.size u5 (memI (i + 1) z)) := Lib.hid (by
        have : memI (i + 1) z = memI i z := by unfold memI; rw [memL_succ, ← HTB.out]; rfl
        rw [this]; exact hL.out)
      go_wp2_with fail
      go_roundw
      case rel => exact ⟨i + 1, q2, by omega, by go_num, rfl, HQ2, HL9, hZ⟩
      case measure => simp [intOf]; omega
    | true =>
      have HL1 : Hid (LIo (wo.alloc (Obj.cells #[Value.int .i64 (i : Nat)] 3)) w.heap.size u5 (memI i z)) := Lib.hid (hL.out.below ((Below.refl _ _).alloc (Nat.le_refl _) _))
      have HZ1 : Hid (Below w.heap.size w (wo.alloc (Obj.cells #[Value.int .i64 (i : Nat)] 3))) := Lib.hid (hZ.out.alloc hZ.out.size _)
      have HSL : Hid ((memI i z).length ≤ 1000000) := Lib.hid (by have := memI_len i z; omega)
      go_wp2_with ((with_reducible refine at_append ?_); refine wpList_push_int rfl (.tmp 15) (.tmp 17) rfl w.heap.size u5 (memI i z) rfl HL1.out wo.heap.size 1 (i : Int) rfl (heap_alloc_new _ _) HSL.out HZ1.out.size ?_; intro v2 w2 h1 h2 h3; refine halt ?_)
      refine go_on ?_
      have HL9 : Hid (LIo w2 w.heap.size v2 (memI (i + 1) z)) := Lib.hid (by
        have : memI (i + 1) z = memI i z ++ [(i : Int)] := by unfold memI; rw [memL_succ, ← HTB.out]; simp
        rw [this]; exact h1)
      have HZ9 : Hid (Below w.heap.size w w2) := Lib.hid (h3 _ HZ1.out)
      clear h1 h2 h3 HL1 HZ1 hL hZ HSL
      go_wp2_with fail
      go_roundw
      case rel => exact ⟨i + 1, q2, by omega, by go_num, rfl, HQ2, HL9, HZ9⟩
      case measure => simp [intOf]; omega
end Go.Proofs.Ytomnnickiljkgaa
