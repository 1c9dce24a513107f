/- Several texts in one: Wj. -/
import Derived.Test.YtimbojhmjadgkaaZ7
/- Products. -/
namespace Go.Proofs.Ytimbojhmjadgkaa
open Go.RowKit

set_option maxHeartbeats 1000000 in
/-- The product where the first number is not shorter: behind the swap. -/
theorem mul_step {n : Nat} (hM : ∀ k, n = k + 1 → MulC k) (hbig : n ≤ 536870912) : MulC n := by
  intro w u v x y hu hv hlen
  have HX := Lib.hid hu
  have HY := Lib.hid hv
  obtain ⟨l, hl⟩ : ∃ l, l = digs x := ⟨_, rfl⟩
  obtain ⟨m, hm⟩ : ∃ m, m = digs y := ⟨_, rfl⟩
  rw [← hl] at hu
  rw [← hm] at hv
  rw [← hl, ← hm] at hlen
  have HU := Lib.hid hu
  have HV := Lib.hid hv
  have HL := Lib.hid hl
  have HMm := Lib.hid hm
  obtain ⟨a, cap, rfl, h1, h2, h3, h4, h5⟩ := hu
  obtain ⟨b, bcap, rfl, k1, k2, k3, k4, k5⟩ := hv
  have HLEN := Lib.hid hlen
  have HBIG := Lib.hid hbig
  clear h3 h4 h5 k3 k4 k5 hl hm hlen hbig
  by_cases hsw : l.length < m.length
  · by_cases hz : x = 0
    · have hz1 := zerB_true hz
      have HZ := Lib.hid hz
      clear hz
      go_enter Try.func45, Try.ntmps45
      go_wp2_with fail
      refine (isZero_w HX.out).mono ?_
      rintro en w1 ⟨rfl, rfl⟩
      go_wp2_with fail
      go_ret
      refine ⟨⟨.slice none 0 0, rfl, ?_, by simp [Value.ownBlock]⟩, Below.refl _ _⟩
      rw [HZ.out, Nat.zero_mul, digs_zero]
      exact IsW.nil _
    · have hz1 := zerB_false hz
      have HZ := Lib.hid hz
      clear hz
      by_cases ho : x = 1
      · have ho1 := oneB_true ho
        have HO := Lib.hid ho
        clear ho
        go_enter Try.func45, Try.ntmps45
        go_wp2_with fail
        refine (isZero_w HX.out).mono ?_
        rintro en w1 ⟨rfl, rfl⟩
        go_wp2_with fail
        refine (isOne_w HX.out).mono ?_
        rintro en w1 ⟨rfl, rfl⟩
        go_wp2_with fail
        go_ret
        refine ⟨⟨_, rfl, ?_, fun b hb => Or.inr (Or.inr hb)⟩, Below.refl _ _⟩
        rw [HO.out, Nat.one_mul]
        exact HY.out
      · have ho1 := oneB_false ho
        clear ho
        by_cases h128 : l.length < 128
        · have hd : decide ((l.length : Int) < 128) = true := by simp; omega
          have H128 := Lib.hid h128
          clear h128
          go_enter Try.func45, Try.ntmps45
          go_wp2_with fail
          refine (isZero_w HX.out).mono ?_
          rintro en w1 ⟨rfl, rfl⟩
          go_wp2_with fail
          refine (isOne_w HX.out).mono ?_
          rintro en w1 ⟨rfl, rfl⟩
          go_wp2_with fail
          refine (mulPlain_l HV.out HU.out (by have := HLEN.out; have := HBIG.out; omega) (by omega)).mono ?_
          rintro en w1 ⟨⟨r, rfl, hr, hown⟩, hbel⟩
          rw [HL.out, HMm.out, val_digs, val_digs] at hr
          go_wp2_with fail
          go_ret
          exact ⟨⟨r, rfl, by rw [Nat.mul_comm]; exact hr, fun b hb => Or.inl (hown b hb)⟩, hbel⟩
        · obtain ⟨k, rfl⟩ : ∃ k, n = k + 1 := ⟨n - 1, by have := HLEN.out; omega⟩
          have hMk := hM k rfl
          have hd : decide ((l.length : Int) < 128) = false := by simp; omega
          have H128 := Lib.hid h128
          clear hM h128
          go_enter Try.func45, Try.ntmps45
          go_wp2_with fail
          refine (isZero_w HX.out).mono ?_
          rintro en w1 ⟨rfl, rfl⟩
          go_wp2_with fail
          refine (isOne_w HX.out).mono ?_
          rintro en w1 ⟨rfl, rfl⟩
          go_wp2_with fail
          refine (mulHalves_c hMk HMm.out HL.out HV.out HU.out (by omega) (by have := H128.out; omega) (by have := HLEN.out; omega) (by have := HLEN.out; have := HBIG.out; omega)).mono ?_
          rintro en w1 ⟨⟨r, rfl, hr, hown⟩, hbel⟩
          go_wp2_with fail
          go_ret
          exact ⟨⟨r, rfl, by rw [Nat.mul_comm]; exact hr, fun b hb => Or.inl (hown b hb)⟩, hbel⟩
  · by_cases hz : y = 0
    · have hz1 := zerB_true hz
      have HZ := Lib.hid hz
      clear hz
      go_enter Try.func45, Try.ntmps45
      go_wp2_with fail
      refine (isZero_w HY.out).mono ?_
      rintro en w1 ⟨rfl, rfl⟩
      go_wp2_with fail
      go_ret
      refine ⟨⟨.slice none 0 0, rfl, ?_, by simp [Value.ownBlock]⟩, Below.refl _ _⟩
      rw [HZ.out, Nat.mul_zero, digs_zero]
      exact IsW.nil _
    · have hz1 := zerB_false hz
      have hy0 : Hid (0 < m.length) := Lib.hid (by
        rw [HMm.out]; exact List.length_pos_iff.2 (fun e => hz (digs_eq_nil.1 e)))
      have HZ := Lib.hid hz
      clear hz
      by_cases ho : y = 1
      · have ho1 := oneB_true ho
        have HO := Lib.hid ho
        clear ho
        go_enter Try.func45, Try.ntmps45
        go_wp2_with fail
        refine (isZero_w HY.out).mono ?_
        rintro en w1 ⟨rfl, rfl⟩
        go_wp2_with fail
        refine (isOne_w HY.out).mono ?_
        rintro en w1 ⟨rfl, rfl⟩
        go_wp2_with fail
        go_ret
        refine ⟨⟨_, rfl, ?_, fun b hb => Or.inr (Or.inl hb)⟩, Below.refl _ _⟩
        rw [HO.out, Nat.mul_one]
        exact HX.out
      · have ho1 := oneB_false ho
        clear ho
        by_cases h128 : m.length < 128
        · have hd : decide ((m.length : Int) < 128) = true := by simp; omega
          have H128 := Lib.hid h128
          clear h128
          go_enter Try.func45, Try.ntmps45
          go_wp2_with fail
          refine (isZero_w HY.out).mono ?_
          rintro en w1 ⟨rfl, rfl⟩
          go_wp2_with fail
          refine (isOne_w HY.out).mono ?_
          rintro en w1 ⟨rfl, rfl⟩
          go_wp2_with fail
          refine (mulPlain_l HU.out HV.out (by have := HLEN.out; have := HBIG.out; omega) (by have := hy0.out; omega)).mono ?_
          rintro en w1 ⟨⟨r, rfl, hr, hown⟩, hbel⟩
          rw [HL.out, HMm.out, val_digs, val_digs] at hr
          go_wp2_with fail
          go_ret
          exact ⟨⟨r, rfl, hr, fun b hb => Or.inl (hown b hb)⟩, hbel⟩
        · obtain ⟨k, rfl⟩ : ∃ k, n = k + 1 := ⟨n - 1, by have := HLEN.out; omega⟩
          have hMk := hM k rfl
          have hd : decide ((m.length : Int) < 128) = false := by simp; omega
          have H128 := Lib.hid h128
          clear hM h128
          go_enter Try.func45, Try.ntmps45
          go_wp2_with fail
          refine (isZero_w HY.out).mono ?_
          rintro en w1 ⟨rfl, rfl⟩
          go_wp2_with fail
          refine (isOne_w HY.out).mono ?_
          rintro en w1 ⟨rfl, rfl⟩
          go_wp2_with fail
          refine (mulHalves_c hMk HL.out HMm.out HU.out HV.out (by omega) (by have := H128.out; omega) (by have := HLEN.out; omega) (by have := HLEN.out; have := HBIG.out; omega)).mono ?_
          rintro en w1 ⟨⟨r, rfl, hr, hown⟩, hbel⟩
          go_wp2_with fail
          go_ret
          exact ⟨⟨r, rfl, hr, fun b hb => Or.inl (hown b hb)⟩, hbel⟩

theorem mul_all (n : Nat) : n ≤ 536870912 → MulC n := by
  induction n with
  | zero => intro h; exact mul_step (fun k hk => by omega) h
  | succ n ih => intro h; exact mul_step (fun k hk => by cases hk; exact ih (by omega)) h

theorem mul_w {w : World} {u v : Value} {x y : Nat} (hu : IsW w u (digs x)) (hv : IsW w v (digs y)) (hlen : (digs x).length + (digs y).length ≤ 536870912) :
    Calls Try.prog 45 #[u, v] w fun e w' => (∃ r, e = .returned r ∧ IsW w' r (digs (x * y)) ∧ (∀ b, r.ownBlock = some b → w.heap.size ≤ b ∨ u.ownBlock = some b ∨ v.ownBlock = some b)) ∧ Below w.heap.size w w' :=
  mul_all _ (Nat.le_refl _) w u v x y hu hv hlen
end Go.Proofs.Ytimbojhmjadgkaa
