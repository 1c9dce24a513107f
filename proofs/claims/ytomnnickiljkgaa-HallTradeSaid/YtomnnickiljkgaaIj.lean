/- mayShare: whether a group can share its things, tried by the lists. -/
import Derived.Test.YtomnnickiljkgaaIi
import Derived.Test.YtomnnickiljkgaaIa
namespace Go.Proofs.Ytomnnickiljkgaa
open Go.RowKit
attribute [local go_sem ↓] Go.wp_at_zero Go.wp_at_succ
theorem mem_all : ∀ z : Fin 256, ((z : Nat) = 0 ∧ memL 8 (fun i => (z : Nat).testBit i) = []) ∨ ((z : Nat) ≠ 0 ∧ (memL 8 (fun i => (z : Nat).testBit i)).headD 0 < 8 ∧ clr z ((memL 8 (fun i => (z : Nat).testBit i)).headD 0) < z ∧
    memL 8 (fun i => (z : Nat).testBit i) = (memL 8 (fun i => (z : Nat).testBit i)).headD 0 :: memL 8 (fun i => (clr z ((memL 8 (fun i => (z : Nat).testBit i)).headD 0)).testBit i)) := by decide +kernel
theorem mem_zero {z : Nat} (h : z = 0) : memL 8 (fun i => z.testBit i) = [] := by subst h; decide
theorem mem_next {z : Nat} (hz : z < 256) (h : z ≠ 0) : ∃ a, a < 8 ∧ clr z a < z ∧ memL 8 (fun i => z.testBit i) = a :: memL 8 (fun i => (clr z a).testBit i) := by
  rcases mem_all ⟨z, hz⟩ with ⟨e, _⟩ | ⟨_, h1, h2, h3⟩
  · exact absurd e h
  · exact ⟨_, h1, h2, h3⟩
theorem shareB_congr {W : List (List Int)} {g : Nat → Nat} {A : List Nat} {T S : Nat → Bool} {b : Bool} (h : ∀ y, y < W.length → T y = S y) : shareB W g A T b = shareB W g A S b := by
  induction A generalizing T S b with
  | nil => rfl
  | cons a A ih =>
    simp only [shareB]
    rw [Bool.eq_iff_iff]
    simp only [List.any_eq_true, List.mem_range, Bool.and_eq_true]
    constructor
    · rintro ⟨x, hx, ⟨h1, h2⟩, h3⟩
      exact ⟨x, hx, ⟨by rw [← h x hx]; exact h1, h2⟩, by rw [← ih (T := fun y => T y && y != x) (S := fun y => S y && y != x) (fun y hy => by simp only [h y hy])]; exact h3⟩
    · rintro ⟨x, hx, ⟨h1, h2⟩, h3⟩
      exact ⟨x, hx, ⟨by rw [h x hx]; exact h1, h2⟩, by rw [ih (T := fun y => T y && y != x) (S := fun y => S y && y != x) (fun y hy => by simp only [h y hy])]; exact h3⟩
/-- One thing tried for the first of a group. -/
def tryB (W : List (List Int)) (g : Nat → Nat) (z a t : Nat) (gb : Bool) (x : Nat) : Bool := t.testBit x && shareB W g (memL 8 (fun i => (clr z a).testBit i)) (fun y => (clr t x).testBit y) (gb || x != g a)
theorem share_next {W : List (List Int)} {g : Nat → Nat} {z a t : Nat} {gb : Bool} (hn : W.length ≤ 8) (ht : t < 256) (h : memL 8 (fun i => z.testBit i) = a :: memL 8 (fun i => (clr z a).testBit i)) :
    shareB W g (memL 8 (fun i => z.testBit i)) (fun y => t.testBit y) gb = (List.range W.length).any (fun x => decide (scoreQ (nthL W a) (x : Int) ≤ scoreQ (nthL W a) (g a : Int)) && tryB W g z a t gb x) := by
  rw [h, shareB]
  rw [Bool.eq_iff_iff]
  simp only [List.any_eq_true, List.mem_range, Bool.and_eq_true, tryB]
  have e : ∀ x, x < W.length → shareB W g (memL 8 (fun i => (clr z a).testBit i)) (fun y => t.testBit y && y != x) (gb || x != g a) = shareB W g (memL 8 (fun i => (clr z a).testBit i)) (fun y => (clr t x).testBit y) (gb || x != g a) := fun x hx =>
    shareB_congr (fun y hy => by rw [clr_bit ht (by omega) (by omega)])
  constructor
  · rintro ⟨x, hx, ⟨h1, h2⟩, h3⟩
    rw [e x hx] at h3
    exact ⟨x, hx, h2, h1, h3⟩
  · rintro ⟨x, hx, h2, h1, h3⟩
    rw [← e x hx] at h3
    exact ⟨x, hx, ⟨h1, h2⟩, h3⟩
theorem share_yes {W : List (List Int)} {g : Nat → Nat} {z a t : Nat} {gb : Bool} {x : Nat} (hn : W.length ≤ 8) (ht : t < 256) (h : memL 8 (fun i => z.testBit i) = a :: memL 8 (fun i => (clr z a).testBit i)) (hx : x < W.length)
    (hs : scoreQ (nthL W a) (x : Int) ≤ scoreQ (nthL W a) (g a : Int)) (hr : tryB W g z a t gb x = true) : shareB W g (memL 8 (fun i => z.testBit i)) (fun y => t.testBit y) gb = true := by
  rw [share_next hn ht h, List.any_eq_true]
  exact ⟨x, List.mem_range.2 hx, by rw [Bool.and_eq_true]; exact ⟨decide_eq_true hs, hr⟩⟩
theorem share_no {W : List (List Int)} {g : Nat → Nat} {z a t : Nat} {gb : Bool} (hn : W.length ≤ 8) (ht : t < 256) (h : memL 8 (fun i => z.testBit i) = a :: memL 8 (fun i => (clr z a).testBit i))
    (hno : ∀ x, x < W.length → scoreQ (nthL W a) (x : Int) ≤ scoreQ (nthL W a) (g a : Int) → tryB W g z a t gb x = false) : shareB W g (memL 8 (fun i => z.testBit i)) (fun y => t.testBit y) gb = false := by
  rw [share_next hn ht h, List.any_eq_false]
  intro x hx
  rw [List.mem_range] at hx
  rw [Bool.and_eq_true, decide_eq_true_eq]
  rintro ⟨h1, h2⟩
  rw [hno x hx h1] at h2
  cases h2
end Go.Proofs.Ytomnnickiljkgaa
