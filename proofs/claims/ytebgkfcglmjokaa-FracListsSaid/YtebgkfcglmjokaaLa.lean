/- The order of rational numbers beside sums, products and floors; fractions by what they stand for. -/
import Derived.Test.YtebgkfcglmjokaaRn
namespace Go.Proofs.Ytebgkfcglmjokaa
open Go.RowKit

theorem cmpQ_add (a b c : Rat) : cmpQ (a + c) (b + c) = cmpQ a b := by
  have h : (a + c = b + c) ↔ a = b := ⟨Rat.add_right_cancel c, fun h => by rw [h]⟩
  unfold cmpQ
  simp only [h, Rat.add_lt_add_right]
theorem cmpQ_sub (a b : Rat) : cmpQ (a - b) 0 = cmpQ a b := by
  rw [← cmpQ_add (a - b) 0 b, Rat.sub_add_cancel, Rat.zero_add]
theorem cmpQ_self (a : Rat) : cmpQ a a = 0 := by
  unfold cmpQ; rw [if_neg Rat.lt_irrefl, if_pos rfl]
theorem cmpQ_neg (a b : Rat) : cmpQ (-a) (-b) = cmpQ b a := by
  have h : (-a = -b) ↔ b = a := ⟨fun h => by rw [← Rat.neg_neg a, h, Rat.neg_neg], fun h => by rw [h]⟩
  unfold cmpQ
  simp only [h, Rat.neg_lt_neg_iff]
theorem cmpQ_mul_pos (a b c : Rat) (hc : 0 < c) : cmpQ (a * c) (b * c) = cmpQ a b := by
  have h : (a * c = b * c) ↔ a = b := by
    refine ⟨fun h => ?_, fun h => by rw [h]⟩
    have h1 : ¬ a < b := fun e => by have := (Rat.mul_lt_mul_right hc).2 e; rw [h] at this; exact Rat.lt_irrefl this
    have h2 : ¬ b < a := fun e => by have := (Rat.mul_lt_mul_right hc).2 e; rw [h] at this; exact Rat.lt_irrefl this
    exact Rat.le_antisymm (Rat.not_lt.1 h2) (Rat.not_lt.1 h1)
  unfold cmpQ
  simp only [h, Rat.mul_lt_mul_right hc]
theorem cmpQ_mul (a b c : Rat) : cmpQ (a * c) (b * c) = cmpQ a b * cmpQ c 0 := by
  by_cases h0 : c = 0
  · subst h0
    rw [Rat.mul_zero, Rat.mul_zero, cmpQ_self, Int.mul_zero]
  · by_cases hc : c < 0
    · have hd : 0 < -c := by have := Rat.neg_lt_neg hc; simpa using this
      have e : ∀ x : Rat, x * c = -(x * -c) := fun x => by rw [Rat.mul_neg, Rat.neg_neg]
      have e2 : cmpQ c 0 = -1 := by unfold cmpQ; rw [if_pos hc]
      rw [e a, e b, cmpQ_neg, cmpQ_mul_pos _ _ _ hd, cmpQ_swap, e2]; omega
    · have hd : 0 < c := Rat.lt_of_le_of_ne (Rat.not_lt.1 hc) (Ne.symm h0)
      have e2 : cmpQ c 0 = 1 := by unfold cmpQ; rw [if_neg hc, if_neg h0]
      rw [cmpQ_mul_pos _ _ _ hd, e2, Int.mul_one]
theorem cmpQ_cases (a b : Rat) : (cmpQ a b = -1 ∧ a < b) ∨ (cmpQ a b = 0 ∧ a = b) ∨ (cmpQ a b = 1 ∧ b < a) := by
  by_cases h : a < b
  · exact .inl ⟨by unfold cmpQ; rw [if_pos h], h⟩
  · by_cases h2 : a = b
    · exact .inr (.inl ⟨by rw [h2, cmpQ_self], h2⟩)
    · exact .inr (.inr ⟨by unfold cmpQ; rw [if_neg h, if_neg h2], Rat.lt_of_le_of_ne (Rat.not_lt.1 h) (Ne.symm h2)⟩)
theorem lt_trans_q {a b c : Rat} (h1 : a < b) (h2 : b < c) : a < c :=
  Rat.not_le.1 fun h => Rat.not_le.2 h2 (Rat.le_trans h (Rat.le_of_lt h1))
theorem cmpQ_trans (a b c : Rat) (h : cmpQ a b = cmpQ b c) : cmpQ a c = cmpQ a b := by
  rcases cmpQ_cases a b with ⟨e, h1⟩ | ⟨e, h1⟩ | ⟨e, h1⟩
  · rcases cmpQ_cases b c with ⟨f, h2⟩ | ⟨f, h2⟩ | ⟨f, h2⟩
    · rw [e]; unfold cmpQ; rw [if_pos (lt_trans_q h1 h2)]
    · omega
    · omega
  · rcases cmpQ_cases b c with ⟨f, h2⟩ | ⟨f, h2⟩ | ⟨f, h2⟩
    · omega
    · rw [e, h1, h2, cmpQ_self]
    · omega
  · rcases cmpQ_cases b c with ⟨f, h2⟩ | ⟨f, h2⟩ | ⟨f, h2⟩
    · omega
    · omega
    · have h3 := lt_trans_q h2 h1
      have h4 : ¬ a < c := Rat.not_lt.2 (Rat.le_of_lt h3)
      have h5 : a ≠ c := fun e => by subst e; exact Rat.lt_irrefl h3
      rw [e]; unfold cmpQ; rw [if_neg h4, if_neg h5]
theorem cmpQ_small (a b : Rat) : -1 ≤ cmpQ a b ∧ cmpQ a b ≤ 1 := by
  rcases cmpQ_cases a b with ⟨e, _⟩ | ⟨e, _⟩ | ⟨e, _⟩ <;> omega
theorem cmp_floor (a : Rat) : cmpQ (a.floor : Rat) a ≤ 0 := by
  have h := Rat.floor_le a
  rcases cmpQ_cases (a.floor : Rat) a with ⟨e, _⟩ | ⟨e, _⟩ | ⟨e, h1⟩
  · omega
  · omega
  · exact absurd h1 (Rat.not_lt.2 h)
theorem cmp_floor_one (a : Rat) : cmpQ ((a.floor : Rat) + 1) a = 1 := by
  have h := Rat.lt_floor_add_one a
  rw [Rat.intCast_add] at h
  have h' : a < (a.floor : Rat) + 1 := h
  rcases cmpQ_cases ((a.floor : Rat) + 1) a with ⟨e, h1⟩ | ⟨e, h1⟩ | ⟨e, _⟩
  · exact absurd h' (Rat.not_lt.2 (Rat.le_of_lt h1))
  · rw [h1] at h'; exact absurd h' Rat.lt_irrefl
  · exact e

/-- A fraction as it comes, by what it stands for. -/
def InF (w : World) (v : Value) (q : Rat) : Prop := ∃ b l m, RawF w v b l m ∧ q = fixR b l m
theorem InF.below {w w' : World} {v : Value} {q : Rat} (h : InF w v q) (hb : Below w.heap.size w w') : InF w' v q := by
  obtain ⟨b, l, m, h1, h2⟩ := h
  exact ⟨b, l, m, h1.below hb, h2⟩
theorem InF.len {w : World} {v : Value} {q : Rat} (h : InF w v q) : lenQ q ≤ 4096 := by
  obtain ⟨b, l, m, ⟨u, d, rfl, hu, hd⟩, rfl⟩ := h
  exact fix_len hu.ws hd.ws
theorem right_digs {q : Rat} (h : lenQ q ≤ 4096) : rightB (decide (q.num < 0)) (digs q.num.natAbs) (digs q.den) = true := by
  have h1 : val (digs q.num.natAbs) = q.num.natAbs := val_digs _
  have h2 : val (digs q.den) = q.den := val_digs _
  have h3 : digs q.den ≠ [] := fun e => by rw [e] at h2; have := q.den_nz; exact this (by rw [← h2]; rfl)
  unfold rightB shortF normB oneB
  simp only [Bool.and_eq_true, decide_eq_true_eq, Bool.not_eq_true']
  refine ⟨h, norm_digs _, norm_digs _, ?_, ?_, ?_⟩
  · unfold nilB; simpa using h3
  · by_cases h4 : q.num < 0
    · have h5 : digs q.num.natAbs ≠ [] := fun e => by rw [e] at h1; have : (0 : Nat) = q.num.natAbs := h1; omega
      have h6 : nilB (digs q.num.natAbs) = false := by unfold nilB; simpa using h5
      rw [h6]; simp
    · simp [h4]
  · rw [h1, h2]; exact q.reduced
theorem fix_digs {q : Rat} (h : lenQ q ≤ 4096) : fixR (decide (q.num < 0)) (digs q.num.natAbs) (digs q.den) = q := by
  unfold fixR
  rw [if_pos (right_digs h), val_digs, val_digs]
  have e : (if decide (q.num < 0) = true then -((q.num.natAbs : Nat) : Int) else ((q.num.natAbs : Nat) : Int)) = q.num := by
    by_cases h4 : q.num < 0
    · simp [h4]; omega
    · simp [h4]; omega
  rw [e]
  exact Rat.mkRat_self q
theorem FracV.inF {w : World} {v : Value} {q : Rat} (h : FracV w v q) (hl : lenQ q ≤ 4096) : InF w v q := by
  obtain ⟨u, d, rfl, hu, hd⟩ := h
  exact ⟨_, _, _, ⟨_, _, rfl, hu, hd⟩, (fix_digs hl).symm⟩

theorem fix_f {w : World} {x : Value} {P : Rat} (hx : InF w x P) : Calls Try.prog 17 #[x] w (TellPost w P) := by
  obtain ⟨b, l, m, h, rfl⟩ := hx
  exact fix_w h
theorem neg_f {w : World} {x : Value} {P : Rat} (hx : InF w x P) : Calls Try.prog 30 #[x] w (TellPost w (-P)) := by
  obtain ⟨b, l, m, h, rfl⟩ := hx
  exact neg_q h
theorem floor_f {w : World} {x : Value} {P : Rat} (hx : InF w x P) (hl : lenQ P ≤ 4095) : Calls Try.prog 32 #[x] w (TellPost w (P.floor : Rat)) := by
  obtain ⟨b, l, m, h, rfl⟩ := hx
  have := floor_q h
  rw [cut_id (by have := len_floor (fixR b l m); omega)] at this
  exact this
theorem add_f {w : World} {x y : Value} {P S : Rat} (hx : InF w x P) (hy : InF w y S) (hl : lenQ P + lenQ S ≤ 2000) : Calls Try.prog 24 #[x, y] w (TellPost w (P + S)) := by
  obtain ⟨b, l, m, h, rfl⟩ := hx
  obtain ⟨c, l2, m2, k, rfl⟩ := hy
  have := add_q h k
  rw [cut_id (by have := len_add (fixR b l m) (fixR c l2 m2); omega)] at this
  exact this
theorem sub_f {w : World} {x y : Value} {P S : Rat} (hx : InF w x P) (hy : InF w y S) (hl : lenQ P + lenQ S ≤ 2000) : Calls Try.prog 26 #[x, y] w (TellPost w (P - S)) := by
  obtain ⟨b, l, m, h, rfl⟩ := hx
  obtain ⟨c, l2, m2, k, rfl⟩ := hy
  have := sub_q h k
  rw [cut_id (by have := len_add (fixR b l m) (-(fixR c l2 m2)); rw [len_neg] at this; omega), ← Rat.sub_eq_add_neg] at this
  exact this
theorem mul_f {w : World} {x y : Value} {P S : Rat} (hx : InF w x P) (hy : InF w y S) (hl : lenQ P + lenQ S ≤ 4096) : Calls Try.prog 28 #[x, y] w (TellPost w (P * S)) := by
  obtain ⟨b, l, m, h, rfl⟩ := hx
  obtain ⟨c, l2, m2, k, rfl⟩ := hy
  have := mul_q h k
  rw [cut_id (by have := len_mul (fixR b l m) (fixR c l2 m2); omega)] at this
  exact this
theorem cmp_f {w : World} {x y : Value} {P S : Rat} (hx : InF w x P) (hy : InF w y S) : Calls Try.prog 34 #[x, y] w fun e w' => e = .returned (.int .i64 (cmpQ P S)) ∧ Below w.heap.size w w' := by
  obtain ⟨b, l, m, h, rfl⟩ := hx
  obtain ⟨c, l2, m2, k, rfl⟩ := hy
  exact cmp_q h k
theorem sign_f {w : World} {x : Value} {P : Rat} (hx : InF w x P) : Calls Try.prog 36 #[x] w fun e w' => e = .returned (.int .i64 (cmpQ P 0)) ∧ Below w.heap.size w w' := by
  obtain ⟨b, l, m, h, rfl⟩ := hx
  exact sign_q h
theorem one_make : makeQ 1 1 = 1 := by decide +kernel
theorem make_one {w : World} : Calls Try.prog 20 #[.int .i64 1, .int .i64 1] w fun e w' => (∃ r, e = .returned (.tuple #[r, .int .i64 0]) ∧ FracV w' r 1 ∧ NewF w r) ∧ Below w.heap.size w w' := by
  have := make_q (w := w) 1 1 (by decide) (by decide) (by decide) (by decide)
  rw [one_make] at this
  exact this
/-- What has at most n words of each kind. -/
def FewF (n : Nat) (w : World) (v : Value) (q : Rat) : Prop := ∃ b l m, RawF w v b l m ∧ q = fixR b l m ∧ l.length ≤ n ∧ m.length ≤ n
theorem FewF.inF {n : Nat} {w : World} {v : Value} {q : Rat} (h : FewF n w v q) : InF w v q := by
  obtain ⟨b, l, m, h1, h2, _, _⟩ := h
  exact ⟨b, l, m, h1, h2⟩
theorem FewF.below {n : Nat} {w w' : World} {v : Value} {q : Rat} (h : FewF n w v q) (hb : Below w.heap.size w w') : FewF n w' v q := by
  obtain ⟨b, l, m, h1, h2⟩ := h
  exact ⟨b, l, m, h1.below hb, h2⟩
theorem FewF.len {n : Nat} {w : World} {v : Value} {q : Rat} (h : FewF n w v q) : lenQ q ≤ 2 * n + 1 := by
  obtain ⟨b, l, m, ⟨u, d, rfl, hu, hd⟩, rfl, h1, h2⟩ := h
  by_cases hr : rightB b l m = true
  · obtain ⟨e1, e2, _, _⟩ := right_rat hu.ws hd.ws hr
    unfold lenQ; rw [← e1, ← e2]; omega
  · have : fixR b l m = 0 := by unfold fixR; rw [if_neg hr]
    rw [this, len_zero]; omega
end Go.Proofs.Ytebgkfcglmjokaa
