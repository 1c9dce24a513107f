/- half, of the statements. -/
import Derived.Test.YtlmnicpkncgbiaaSd
namespace Go.Proofs.Ytlmnicpkncgbiaa
open Go.RowKit

theorem print_f {w : World} {x : Value} {P : Rat} (hx : InF w x P) : Calls Try.prog 41 #[x] w fun e w' => e = .returned (.string (strL (printL P))) ∧ Below w.heap.size w w' := by
  obtain ⟨b, l, m, h, rfl⟩ := hx
  exact print_w h
theorem dec_small {n : Nat} (h0 : n ≠ 0) (h : n < 10) : decS n = [48 + n] := by
  have h1 : n / 10 = 0 := by omega
  unfold decS
  rw [if_neg h0, ndig_pos h0, h1, ndig_zero]
  simp [bw]
  omega
theorem half_make : makeQ (-2) (-4) = mkRat 1 2 := by decide +kernel
theorem half_print : strL (printL (mkRat 1 2)) = ⟨#[49, 47, 50]⟩ := by
  have e1 : (mkRat 1 2).num = 1 := by decide +kernel
  have e2 : (mkRat 1 2).den = 2 := by decide +kernel
  have h1 : decS 1 = [49] := dec_small (by decide) (by decide)
  have h2 : decS 2 = [50] := dec_small (by decide) (by decide)
  unfold printL tailL
  rw [e1, e2]
  show strL ([] ++ decS 1 ++ 47 :: decS 2) = _
  rw [h1, h2]
  rfl
theorem half_len : lenQ (mkRat 1 2) ≤ 4096 := by
  have e1 : (mkRat 1 2).num = 1 := by decide +kernel
  have e2 : (mkRat 1 2).den = 2 := by decide +kernel
  have h1 : (digs (1 : Int).natAbs).length ≤ 1 := len_digs_le.2 (by decide)
  have h2 : (digs 2).length ≤ 1 := len_digs_le.2 (by decide)
  unfold lenQ
  rw [e1, e2]
  omega

set_option maxRecDepth 4000 in
set_option maxHeartbeats 1000000 in
theorem half_w {w : World} : Calls Try.prog 19 #[] w fun e w' => e = .returned (.bool true) ∧ Below w.heap.size w w' := by
  have KM : Hid (Calls Try.prog 20 #[.int .i64 (-2), .int .i64 (-4)] w fun e w' => (∃ r, e = .returned (.tuple #[r, .int .i64 0]) ∧ FracV w' r (mkRat 1 2) ∧ NewF w r) ∧ Below w.heap.size w w') := Lib.hid (by
    have := make_q (w := w) (-2) (-4) (by decide) (by decide) (by decide) (by decide)
    rw [half_make] at this
    exact this)
  obtain ⟨H, hH⟩ : ∃ q, q = mkRat 1 2 := ⟨_, rfl⟩
  rw [← hH] at KM
  have KP := Lib.hid (fun w' x (h : FracV w' x H) => print_f (h.inF (by rw [hH]; exact half_len)))
  rw [hH, half_print, ← hH] at KP
  clear hH
  go_enter Try.func19, Try.ntmps19
  go_wp2_with fail
  refine KM.out.mono ?_
  rintro en1 w1 ⟨⟨r1, rfl, f1, g1⟩, hb1⟩
  obtain ⟨a1, n1, c1, i1, j1, k1, hq1⟩ := frac_form f1
  subst hq1
  have HF1 := Lib.hid f1
  clear f1 g1
  go_wp2_with ((with_reducible refine at_store ?_); refine wpList_store_var rfl _ _ _ rfl w1.heap.size rfl _ rfl _ _ (heap_alloc_new _ _) ifrac rfl frac_one ?_; intro w2 h2 hon2; refine halt ?_)
  have hb2 : Below w1.heap.size w1 w2 := below_only ((Below.refl _ _).alloc (Nat.le_refl _) _) hon2 (Nat.le_refl _)
  have RR := Lib.hid (cells_later h2)
  have hz2 := Below.refl w2.heap.size w2
  have s0 := RR.out 0 _ rfl _ hz2
  have s1 := RR.out 1 _ rfl _ hz2
  have s2 := RR.out 2 _ rfl _ hz2
  clear h2 hon2
  refine go_on ?_
  go_wp2_with fail
  refine (KP.out _ _ (HF1.out.below hb2)).mono ?_
  rintro en3 w3 ⟨rfl, hb3⟩
  go_wp2_with fail
  go_ret
  exact ⟨rfl, below_trans (below_trans hb1 hb2) hb3⟩
end Go.Proofs.Ytlmnicpkncgbiaa
