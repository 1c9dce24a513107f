/- Groups as numbers: who is in, leaving, the members. -/
import Derived.Test.YtomnnickiljkgaaIh
import Derived.Test.YtomnnickiljkgaaHk
namespace Go.Proofs.Ytomnnickiljkgaa
open Go.RowKit
attribute [local go_sem ↓] Go.wp_at_zero Go.wp_at_succ
/-- A group without one. -/
def clr (z a : Nat) : Nat := if z.testBit a then z - 2 ^ a else z
theorem bit_all : ∀ z : Fin 256, ∀ i : Fin 9, (bits .and .i64 (((z : Nat) : Int) / 2 ^ (i : Nat)) 1 == 1) = (z : Nat).testBit i := by decide +kernel
theorem clr_all : ∀ z : Fin 256, ∀ a : Fin 8, bits .andNot .i64 ((z : Nat) : Int) ((2 ^ (a : Nat) : Nat) : Int) = ((clr z a : Nat) : Int) ∧ clr z a < 256 ∧ ∀ i : Fin 8, (clr z a).testBit i = ((z : Nat).testBit i && (i : Nat) != a) := by decide +kernel
theorem out_all : ∀ z : Fin 256, ∀ i : Fin 9, (z : Nat) / 2 ^ (i : Nat) = 0 → ∀ j : Fin 9, (i : Nat) ≤ j → (z : Nat).testBit j = false := by decide +kernel
theorem bit_is {z i : Nat} (hz : z < 256) (hi : i < 9) : (bits .and .i64 ((z : Int) / 2 ^ i) 1 == 1) = z.testBit i := bit_all ⟨z, hz⟩ ⟨i, hi⟩
theorem clr_is {z a : Nat} (hz : z < 256) (ha : a < 8) : bits .andNot .i64 (z : Int) ((2 ^ a : Nat) : Int) = (clr z a : Int) := (clr_all ⟨z, hz⟩ ⟨a, ha⟩).1
theorem clr_lt {z a : Nat} (hz : z < 256) (ha : a < 8) : clr z a < 256 := (clr_all ⟨z, hz⟩ ⟨a, ha⟩).2.1
theorem clr_bit {z a i : Nat} (hz : z < 256) (ha : a < 8) (hi : i < 8) : (clr z a).testBit i = (z.testBit i && i != a) := (clr_all ⟨z, hz⟩ ⟨a, ha⟩).2.2 ⟨i, hi⟩
theorem bit_out {z i j : Nat} (hz : z < 256) (hj : j < 9) (h : z / 2 ^ i = 0) (hij : i ≤ j) : z.testBit j = false := out_all ⟨z, hz⟩ ⟨i, by omega⟩ h ⟨j, hj⟩ hij
set_option maxRecDepth 8000 in
theorem isIn_w {w : World} {z i : Nat} (hz : z < 256) (hi : i < 9) :
    Calls Try.prog 59 #[.int .i64 z, .int .i64 i] w fun e w' => e = .returned (.bool (z.testBit i)) ∧ w = w' := by
  have hb := bit_is hz hi
  obtain ⟨tb, htb⟩ : ∃ x, x = z.testBit i := ⟨_, rfl⟩
  rw [← htb] at hb ⊢
  obtain ⟨bz, hbz⟩ : ∃ x, x = bits .and .i64 ((z : Int) / 2 ^ i) 1 := ⟨_, rfl⟩
  have hbz2 : bits .and .i64 ((z : Int) / 2 ^ i) 1 = bz := hbz.symm
  rw [← hbz] at hb
  clear htb hbz
  go_enter Try.func59, Try.ntmps59
  go_wp2_with fail
  go_ret
  exact ⟨rfl, rfl⟩
set_option maxRecDepth 8000 in
theorem leave_w {w : World} {z a : Nat} (hz : z < 256) (ha : a < 8) :
    Calls Try.prog 60 #[.int .i64 z, .int .i64 a] w fun e w' => e = .returned (.int .i64 (clr z a : Nat)) ∧ w = w' := by
  have hb := clr_is hz ha
  obtain ⟨c, hc⟩ : ∃ x, x = clr z a := ⟨_, rfl⟩
  rw [← hc] at hb ⊢
  have hp : (2 : Nat) ^ a < 256 := Nat.lt_of_lt_of_le (Nat.pow_lt_pow_right (by omega) ha) (by decide)
  obtain ⟨p, hpe⟩ : ∃ x, x = 2 ^ a := ⟨_, rfl⟩
  rw [← hpe] at hb hp
  have hpi : (2 : Int) ^ a = (p : Int) := by rw [hpe]; simp
  have hwr : IntKind.i64.wrap ((2 : Int) ^ a) = (p : Int) := by rw [hpi]; exact IntWalk.i64_in (p : Int) (by omega)
  clear hc hpe
  go_enter Try.func60, Try.ntmps60
  go_wp2_with fail
  go_ret
  exact ⟨rfl, rfl⟩
theorem memL_succ {n : Nat} {G : Nat → Bool} : memL (n + 1) G = if G n then memL n G ++ [n] else memL n G := by
  unfold memL
  rw [List.range_succ, List.filter_append]
  cases h : G n <;> simp [h]
theorem memL_same {n k : Nat} {G : Nat → Bool} (h : ∀ j, k ≤ j → j < n → G j = false) (hk : k ≤ n) : memL n G = memL k G := by
  induction n with
  | zero => obtain rfl : k = 0 := by omega
            rfl
  | succ n ih =>
    by_cases e : k = n + 1
    · rw [e]
    · rw [memL_succ, h n (by omega) (by omega)]
      simp only [Bool.false_eq_true, if_false]
      exact ih (fun j h1 h2 => h j h1 (by omega)) (by omega)
/-- The members of a group, as numbers. -/
def memI (n z : Nat) : List Int := (memL n (fun i => z.testBit i)).map (fun i : Nat => (i : Int))
theorem memI_len (n z : Nat) : (memI n z).length ≤ n := by
  unfold memI memL
  rw [List.length_map]
  have := List.length_filter_le (fun i => z.testBit i) (List.range n)
  rw [List.length_range] at this
  exact this
theorem memI_wide {n z : Nat} (hn : n ≤ 100) : ∀ x ∈ memI n z, -9223372036854775808 ≤ x ∧ x ≤ 9223372036854775807 := fun x hx => by
  obtain ⟨i, hi, rfl⟩ := List.mem_map.1 hx
  have := (memL_mem.1 hi).1
  omega
set_option maxRecDepth 8000 in
set_option maxHeartbeats 4000000 in
theorem membersOf_w {w : World} {z : Nat} (hz : z < 256) :
    Calls Try.prog 46 #[.int .i64 z] w fun e w' => (∃ va vc, e = .returned (.slice va (memI 8 z).length vc) ∧ IntsF w' va (memI 8 z)) ∧ Below w.heap.size w w' := by
  go_enter Try.func46, Try.ntmps46
  go_wp2_with fail
  go_loopw [3, 4] (fun vv iv wr => ∃ i : Nat, i ≤ 8 ∧ iv = .int .i64 i ∧ Hid (LIo wr w.heap.size vv (memI i z)) ∧ Hid (Below w.heap.size w wr)) (fun _ iv _ => 8 - (intOf iv).toNat)
  case atStart => exact ⟨0, Nat.zero_le _, rfl, Lib.hid (LIo.nil _ _), Lib.hid (Below.refl _ _)⟩
  case round =>
    obtain ⟨i, hi, rfl, hL, hZ⟩ := hrel
    obtain ⟨wo, rfl⟩ : ∃ wo : World, wo = wr := ⟨_, rfl⟩
    by_cases h0 : z / 2 ^ i = 0
    · have HE : Hid (memI i z = memI 8 z) := Lib.hid (by
        unfold memI
        rw [memL_same (n := 8) (k := i) (fun j h1 h2 => bit_out hz (by omega) h0 h1) hi])
      have hq : (z : Int) / 2 ^ i = 0 := by
        have h9 : ((z / 2 ^ i : Nat) : Int) = (z : Int) / 2 ^ i := by simp
        rw [← h9, h0]; rfl
      have HL9 : Hid (LIo wo w.heap.size u3 (memI 8 z)) := Lib.hid (by rw [← HE.out]; exact hL.out)
      obtain ⟨av, cv, rfl⟩ := HL9.out.form
      clear hL
      go_wp2_with fail
      go_ret
      exact ⟨⟨av, cv, rfl, HL9.out.ints (memI_wide (by omega))⟩, hZ.out⟩
    · obtain ⟨q, hqe⟩ : ∃ q, q = z / 2 ^ i := ⟨_, rfl⟩
      have hq : (z : Int) / 2 ^ i = (q : Int) := by rw [hqe]; simp
      have hq0 : 0 < q := by omega
      have hi8 : i < 8 := by
        apply Classical.byContradiction
        intro h
        obtain rfl : i = 8 := by omega
        exact h0 (by omega)
      have t0 : decide ((q : Int) > 0) = true := by simp; omega
      have t1 : decide (0 < (q : Int)) = true := by simp; omega
      have KI := Lib.hid (isIn_w (w := wo) hz (show i < 9 by omega))
      obtain ⟨tb, htb⟩ : ∃ x, x = z.testBit i := ⟨_, rfl⟩
      have HTB := Lib.hid htb
      rw [← htb] at KI
      clear htb h0 hqe
      go_wp2_with fail
      refine KI.out.mono ?_
      rintro en2 w2 ⟨rfl, rfl⟩
      cases tb with
      | false =>
        have HL9 : Hid (LIo wo w.heap.size u3 (memI (i + 1) z)) := Lib.hid (by
          have : memI (i + 1) z = memI i z := by unfold memI; rw [memL_succ, ← HTB.out]; rfl
          rw [this]; exact hL.out)
        go_wp2_with fail
        go_roundw
        case rel => exact ⟨i + 1, by omega, by go_num, HL9, hZ⟩
        case measure => simp [intOf]; omega
      | true =>
        have HL1 : Hid (LIo (wo.alloc (Obj.cells #[Value.int .i64 (i : Nat)] 3)) w.heap.size u3 (memI i z)) := Lib.hid (hL.out.below ((Below.refl _ _).alloc (Nat.le_refl _) _))
        have HZ1 : Hid (Below w.heap.size w (wo.alloc (Obj.cells #[Value.int .i64 (i : Nat)] 3))) := Lib.hid (hZ.out.alloc hZ.out.size _)
        have HSL : Hid ((memI i z).length ≤ 1000000) := Lib.hid (by have := memI_len i z; omega)
        go_wp2_with ((with_reducible refine at_append ?_); refine wpList_push_int rfl (.tmp 14) (.tmp 16) rfl w.heap.size u3 (memI i z) rfl HL1.out wo.heap.size 1 (i : Int) rfl (heap_alloc_new _ _) HSL.out HZ1.out.size ?_; intro v2 w2 h1 h2 h3; refine halt ?_)
        refine go_on ?_
        have HL9 : Hid (LIo w2 w.heap.size v2 (memI (i + 1) z)) := Lib.hid (by
          have : memI (i + 1) z = memI i z ++ [(i : Int)] := by unfold memI; rw [memL_succ, ← HTB.out]; simp
          rw [this]; exact h1)
        have HZ9 : Hid (Below w.heap.size w w2) := Lib.hid (h3 _ HZ1.out)
        clear h1 h2 h3 HL1 HZ1 hL hZ HSL
        go_wp2_with fail
        go_roundw
        case rel => exact ⟨i + 1, by omega, by go_num, HL9, HZ9⟩
        case measure => simp [intOf]; omega
end Go.Proofs.Ytomnnickiljkgaa
