/- FracTexts answers true at every input, and what it is handed reads behind the call as it read before: of any text of at most 200 bytes Parse reads what the reference reads, and Print writes it again. No conditions. -/
import Derived.Test.YtebgkfcglmjokaaN
import Derived.Deep.DrawnRows
namespace Go.Proofs.Ytebgkfcglmjokaa
open Go.RowKit
attribute [local go_sem ↓] Go.wp_at_zero Go.wp_at_succ

set_option maxRecDepth 100000 in
set_option maxHeartbeats 4000000 in
theorem texts_walk {w : World} (s : ByteArray) (hsz : s.size ≤ maxLen) :
    Calls Try.prog 8 #[.string s] w fun e w' => e = .returned (.bool true) ∧ Below w.heap.size w w' := by
  obtain ⟨n, hn⟩ : ∃ n, s.size = n := ⟨_, rfl⟩
  by_cases h200 : 200 < n
  · have t0 : decide ((200 : Int) < (n : Int)) = true := by simp; omega
    clear hsz
    go_enter Try.func8, Try.ntmps8
    go_wp2_with fail
    go_ret
    exact ⟨rfl, Below.refl _ _⟩
  · have t0 : decide ((200 : Int) < (n : Int)) = false := by simp; omega
    obtain ⟨L, hL, hsL, hLn⟩ := bytes_of s
    have K1 := Lib.hid (fun w' => parse_w (w := w') hL (by omega))
    have K2 := Lib.hid (fun w' => rparse_w (w := w') hL (by omega))
    have HTX := Lib.hid (parse_text (L := L))
    have HLE := Lib.hid (parse_len L)
    have HL := Lib.hid hL
    obtain ⟨q, hq⟩ : ∃ q, q = parseQ L := ⟨_, rfl⟩
    obtain ⟨ok, hok⟩ : ∃ ok, ok = parseOK L := ⟨_, rfl⟩
    rw [← hq, ← hok] at K1 K2 HTX
    rw [← hq] at HLE
    have HS := Lib.hid hsL
    rw [← hsL] at K1 K2
    clear hsz hL hsL hLn hq hok
    cases ok with
    | false =>
      go_enter Try.func8, Try.ntmps8
      go_wp2_with fail
      refine (K1.out _).mono ?_
      rintro en2 w2 ⟨he2, hb2⟩
      obtain rfl : en2 = _ := by simpa using he2
      go_wp2_with ((with_reducible refine at_store ?_); refine wpList_store_var rfl _ _ _ rfl w2.heap.size rfl _ rfl _ _ (heap_alloc_new _ _) ifrac rfl frac_one ?_; intro w3 h3 hon3; refine halt ?_)
      have hb3 : Below w2.heap.size w2 w3 := below_only ((Below.refl _ _).alloc (Nat.le_refl _) _) hon3 (Nat.le_refl _)
      have hz3 := below_trans hb2 hb3
      clear h3 hon3 hb3 hb2 he2
      refine go_on ?_
      go_wp2_with fail
      refine (K2.out _).mono ?_
      rintro en4 w4 ⟨he4, hb4⟩
      obtain rfl : en4 = _ := by simpa using he4
      go_wp2_with ((with_reducible refine at_store ?_); refine wpList_store_var rfl _ _ _ rfl w4.heap.size rfl _ rfl _ _ (heap_alloc_new _ _) ifrac rfl frac_one ?_; intro w5 h5 hon5; refine halt ?_)
      have hb5 : Below w4.heap.size w4 w5 := below_only ((Below.refl _ _).alloc (Nat.le_refl _) _) hon5 (Nat.le_refl _)
      have hz5 := below_trans hz3 (below_trans hb4 hb5)
      clear h5 hon5 hb5 hb4 he4
      refine go_on ?_
      go_wp2_with fail
      refine half_w.mono ?_
      rintro en6 w6 ⟨rfl, hb6⟩
      go_wp2_with fail
      go_ret
      exact ⟨rfl, below_trans hz5 hb6⟩
    | true =>
      have heq := eq_strL (print_bytes q) HL.out
      rw [HTX.out rfl, decide_eq_true rfl, ← HS.out] at heq
      have KP := Lib.hid (fun w' x (h : FracV w' x q) => print_f (w := w') (h.inF HLE.out))
      rw [HTX.out rfl, ← HS.out] at KP
      go_enter Try.func8, Try.ntmps8
      go_wp2_with fail
      refine (K1.out _).mono ?_
      rintro en2 w2 ⟨he2, hb2⟩
      obtain ⟨v2, rfl, f2⟩ : ∃ r, en2 = .returned (.tuple #[r, .int .i64 0]) ∧ FracV w2 r q := by simpa using he2
      obtain ⟨a2, n2, c2, i2, j2, k2, hq2⟩ := frac_form f2
      subst hq2
      go_wp2_with ((with_reducible refine at_store ?_); refine wpList_store_var rfl _ _ _ rfl w2.heap.size rfl _ rfl _ _ (heap_alloc_new _ _) ifrac rfl frac_one ?_; intro w3 h3 hon3; refine halt ?_)
      have hb3 : Below w2.heap.size w2 w3 := below_only ((Below.refl _ _).alloc (Nat.le_refl _) _) hon3 (Nat.le_refl _)
      have hz3 := below_trans hb2 hb3
      have RC := Lib.hid (cells_later h3)
      have HF3 := Lib.hid (f2.below hb3)
      clear h3 hon3 hb3 hb2 he2 f2
      refine go_on ?_
      go_wp2_with fail
      refine (K2.out _).mono ?_
      rintro en4 w4 ⟨he4, hb4⟩
      obtain ⟨v4, rfl, f4⟩ : ∃ r, en4 = .returned (.tuple #[r, .int .i64 0]) ∧ FracV w4 r q := by simpa using he4
      obtain ⟨a4, n4, c4, i4, j4, k4, hq4⟩ := frac_form f4
      subst hq4
      go_wp2_with ((with_reducible refine at_store ?_); refine wpList_store_var rfl _ _ _ rfl w4.heap.size rfl _ rfl _ _ (heap_alloc_new _ _) ifrac rfl frac_one ?_; intro w5 h5 hon5; refine halt ?_)
      have hb5 : Below w4.heap.size w4 w5 := below_only ((Below.refl _ _).alloc (Nat.le_refl _) _) hon5 (Nat.le_refl _)
      have hy5 := below_trans hb4 hb5
      have hz5 := below_trans hz3 hy5
      have x0 := RC.out 0 _ rfl _ hy5
      have x1 := RC.out 1 _ rfl _ hy5
      have x2 := RC.out 2 _ rfl _ hy5
      have y0 := cells_later h5 0 _ rfl _ (Below.refl _ _)
      have y1 := cells_later h5 1 _ rfl _ (Below.refl _ _)
      have y2 := cells_later h5 2 _ rfl _ (Below.refl _ _)
      have HF4 := Lib.hid (f4.below hb5)
      have HF5 := Lib.hid (HF3.out.below hy5)
      clear h5 hon5 hb5 hb4 he4 f4
      refine go_on ?_
      go_wp2_with fail
      refine (same_w HF5.out HF4.out HLE.out).mono ?_
      rintro en6 w6 ⟨rfl, hb6⟩
      clear x0 x1 x2 y0 y1 y2
      have hy6 := below_trans hy5 hb6
      have x0 := RC.out 0 _ rfl _ hy6
      have x1 := RC.out 1 _ rfl _ hy6
      have x2 := RC.out 2 _ rfl _ hy6
      go_wp2_with fail
      refine (KP.out _ _ (HF5.out.below hb6)).mono ?_
      rintro en7 w7 ⟨rfl, hb7⟩
      go_wp2_with fail
      go_ret
      exact ⟨rfl, below_trans hz5 (below_trans hb6 hb7)⟩
end Go.Proofs.Ytebgkfcglmjokaa

/- FracTexts answers true at every input, and what it is handed reads behind the call as it read before: of any text of at most 200 bytes Parse reads what the reference reads, and Print writes it again. No conditions. -/
namespace Go.Proofs.Ytebgkfcglmjokaa
open Go.ChangeShapes Go.WideShapes Go.ChangeAt Go.RowKit

set_option maxRecDepth 100000 in
theorem texts_lifted (os : Os) (started : os.Started) (H : Type) (enc : TypeId × Value → H) :
    ReturnsInHanded {} Try.checked os 8 .any (Rows.fracTextsSpec.pre6 enc Try.prog Try.f8 Rows.fracTextsRow.domain false) (Rows.fracTextsSpec.post enc Try.prog Try.f8 false true false false) := by
  refine returnsInHanded_of_change (C := Try.checked) own_knob started (by kernel_rfl) Try.func8
    (ChangeSpec.witness6 (enc := enc) (C := Try.checked) false ⟨#[], #[.string ⟨#[]⟩], []⟩ 8 (by kernel_rfl) (by kernel_rfl) (by kernel_rfl) (by kernel_rfl)) ?_
  intro W base args ds gs before hval0 hW hcnd _
  have hval : ∀ (j : Nat) t v, Try.f8.params[j]? = some t → args[j]? = some v → Value.okWide Try.prog W .any base t v := hval0
  have hW' := hW
  obtain ⟨p, q, hA0, hV, rfl, hfz, hnd⟩ := hW
  have hA : DataW.TrodAll enc Try.prog W 0 (fun _ => true) true Try.f8.params.toList args.toList ds p := hA0
  rw [Try.params8] at hA hval
  obtain ⟨v0, vs0, d0, ds0, p0, q0, hargs, rfl, rfl, h0, r0⟩ := trodAll_cons hA
  obtain ⟨rfl, rfl, rfl⟩ := trodAll_nil r0
  obtain rfl : args = #[v0] := by cases args; simp_all
  obtain ⟨rfl, rfl⟩ := trodVars_none hV
  have k0 := h0
  have lt0 : ∀ x ∈ p0, x.block < W.heap.size := by obtain ⟨m, hm⟩ := k0; exact DataW.trod_lt m _ _ _ hm
  obtain ⟨s, rfl⟩ := okWide_string Try.underlying9 (hval 0 9 v0 rfl rfl)
  have hs : s.size ≤ maxLen := by
    obtain ⟨fuel, hf⟩ := h0
    obtain ⟨s', hcs, -, hs⟩ := DataW.trod_string Try.underlying9 hf
    simp [Value.cells] at hcs
    subst hcs
    exact hs
  clear hA0 hval0
  refine (texts_walk s hs).mono fun e W' ⟨he, bel⟩ => ?_
  subst he
  exact ⟨_, rfl, _, _, _, [], _, [], hW', trodAll_mk1 (shut_bool Try.underlying4 _), (trodAll_cons_mk (Below.trod laid_out (by kernel_rfl) (of_decide_eq_true (by kernel_rfl)) k0 bel lt0) trodAll_mk0), rfl, bel.frame _, fun h => by cases h⟩

theorem texts_holds : Rows.FracTextsSaid :=
  OpenClaim.holds_of_wide 8 Try.f8 rfl rfl rfl rfl rfl rfl rfl ⟨rfl, rfl, rfl, rfl, rfl⟩ rfl rfl rfl rfl rfl (by kernel_rfl) Try.func8 (by kernel_rfl)
    (of_decide_eq_true (by kernel_rfl)) (by unfold Func.isWrapper; first | (rw [if_pos (by decide +kernel)]; kernel_rfl) | (rw [if_neg (by decide +kernel)]; exact ⟨rfl, rfl⟩))
    (fun os started H enc _ => texts_lifted os started H enc)
end Go.Proofs.Ytebgkfcglmjokaa
