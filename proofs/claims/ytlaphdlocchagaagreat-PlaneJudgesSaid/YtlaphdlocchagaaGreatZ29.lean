/- Several texts in one: J5, J6. -/
import Derived.Test.YtlaphdlocchagaaGreatZ28
import Derived.Test.YtlaphdlocchagaaGreatZ23
import Derived.Deep.DrawnRows
/- Value, of the program and of the reference. -/
namespace Go.Proofs.YtlaphdlocchagaaGreat
open Go.RowKit
attribute [local go_sem ↓] Go.wp_at_zero Go.wp_at_succ

/-- A fraction of at most n words in all. -/
def SzF (n : Nat) (w : World) (v : Value) (q : Rat) : Prop := ∃ b l m, RawF w v b l m ∧ q = fixR b l m ∧ l.length + m.length ≤ n
theorem FewF.sz {n : Nat} {w : World} {v : Value} {q : Rat} (h : FewF n w v q) : SzF (2 * n) w v q := by
  obtain ⟨b, l, m, h1, h2, h3, h4⟩ := h
  exact ⟨b, l, m, h1, h2, by omega⟩
theorem FracV.sz {n : Nat} {w : World} {v : Value} {q : Rat} (h : FracV w v q) (hn : lenQ q ≤ n) (hl : lenQ q ≤ 4096) : SzF n w v q := by
  obtain ⟨u, d, rfl, hu, hd⟩ := h
  exact ⟨_, _, _, ⟨_, _, rfl, hu, hd⟩, (fix_digs hl).symm, hn⟩
theorem SzF.below {n : Nat} {w w' : World} {v : Value} {q : Rat} (h : SzF n w v q) (hb : Below w.heap.size w w') : SzF n w' v q := by
  obtain ⟨b, l, m, h1, h2⟩ := h
  exact ⟨b, l, m, h1.below hb, h2⟩
theorem rcmp_s {n m : Nat} {w : World} {x y : Value} {P S : Rat} (hx : SzF n w x P) (hy : SzF m w y S) (hn : n ≤ 4096) (hm : m ≤ 4096) :
    Calls Tryz.prog 35 #[x, y] w fun e w' => e = .returned (.int .i64 (cmpQ P S)) ∧ Below w.heap.size w w' := by
  obtain ⟨b, l, k, h1, rfl, hl1⟩ := hx
  obtain ⟨b', l', k', h2, rfl, hl2⟩ := hy
  exact rcmp_w h1 h2 (by omega) (by omega)

set_option maxRecDepth 8000 in
theorem entries_w {w : World} {a : Option Addr} {n c : Nat} :
    Calls Tryz.prog 44 #[.slice a n c] w fun e w' => (∃ g, e = .returned (.func (.func 86) #[] #[.pointer (some ⟨g, 0, none⟩)]) ∧ w'.cell? ⟨g, 0, none⟩ = some (.slice a n c)) ∧ Below w.heap.size w w' := by
  have hmf : ∀ (fn : Fn) (first cap : Array Value) (w : World), (Instr.makeFunc fn first cap).run Tryz.prog w = .ok (.func fn first cap) w := fun _ _ _ _ => rfl
  go_enter Tryz.func44, Tryz.ntmps44
  go_wp2_with fail
  go_ret
  exact ⟨⟨_, rfl, by rw [cell_of_row _ _ _ _ _ _ (heap_alloc_new w _)]; rfl⟩, (Below.refl _ _).alloc (Nat.le_refl _) _⟩

theorem zero_make : makeQ 0 1 = 0 := by decide +kernel
set_option maxRecDepth 8000 in
set_option maxHeartbeats 2000000 in
theorem whole0_w {w : World} : Calls Tryz.prog 38 #[.int .i64 0] w (RTell w 0) := by
  obtain ⟨w1, hw1⟩ : ∃ w1, w1 = w.alloc (Obj.cells #[Value.bool false, Value.slice none 0 0, Value.slice none 0 0] 47) := ⟨_, rfl⟩
  have HB1 : Hid (Below w.heap.size w w1) := Lib.hid (by rw [hw1]; exact (Below.refl _ _).alloc (Nat.le_refl _) _)
  have HR1 : Hid (w1.heap[w.heap.size]? = some (.cells #[Value.bool false, Value.slice none 0 0, Value.slice none 0 0] 47 (0, 0))) := Lib.hid (by rw [hw1]; exact heap_alloc_new w _)
  have HW1 := Lib.hid hw1.symm
  clear hw1
  have KM : Hid (∀ w', Calls Tryz.prog 82 #[.int .i64 0, .int .i64 1] w' fun e w'' => (∃ r, e = .returned (.tuple #[r, .int .i64 0]) ∧ FracV w'' r 0) ∧ Below w'.heap.size w' w'') := Lib.hid (fun w' => by
    have h9 := rmake_w (w := w') 0 1 (by decide) (by decide) (by decide) (by decide)
    have e9 : zerB ((1 : Int).natAbs) = false := zerB_false (by decide)
    rw [e9, zero_make] at h9
    exact h9.mono fun e w' h => ⟨by simpa using h.1, h.2⟩)
  obtain ⟨Q, hQ⟩ : ∃ Q, Q = (0 : Rat) := ⟨_, rfl⟩
  rw [← hQ] at KM ⊢
  clear hQ
  go_enter Tryz.func38, Tryz.ntmps38
  go_wp2_with fail
  rw [HW1.out]
  refine (KM.out _).mono ?_
  rintro en2 w2 ⟨⟨v2, rfl, f2⟩, hb2⟩
  obtain ⟨a2, n2, c2, i2, j2, k2, hq2⟩ := frac_form f2
  subst hq2
  have HF2 := Lib.hid f2
  clear f2
  go_wp2_with ((with_reducible refine at_store ?_); refine wpList_store_var rfl _ _ _ rfl w2.heap.size rfl _ rfl _ _ (heap_alloc_new _ _) ifrac rfl frac_one ?_; intro w3 h3 hon3; refine halt ?_)
  have hb3 : Below w2.heap.size w2 w3 := below_only ((Below.refl _ _).alloc (Nat.le_refl _) _) hon3 (Nat.le_refl _)
  have hz3 := below_trans hb2 hb3
  have HR3 : Hid (w3.heap[w.heap.size]? = some (.cells #[Value.bool false, Value.slice none 0 0, Value.slice none 0 0] 47 (0, 0))) := Lib.hid ((hz3.block _ (lt_of_block HR1.out)).trans HR1.out)
  have HB3 := Lib.hid (below_trans HB1.out hz3)
  have HF3 := Lib.hid ((HF2.out.below hb3).other HR3.out (frac3_only _ _ (decide (Q.num < 0)) (Value.slice a2 n2 c2) (Value.slice i2 j2 k2)))
  have RR := Lib.hid (cells_later h3)
  have s0 := RR.out 0 _ rfl _ (Below.refl _ _)
  have s1 := RR.out 1 _ rfl _ (Below.refl _ _)
  have s2 := RR.out 2 _ rfl _ (Below.refl _ _)
  have r0 := cells_later HR3.out 0 _ rfl _ (Below.refl _ _)
  have r1 := cells_later HR3.out 1 _ rfl _ (Below.refl _ _)
  have r2 := cells_later HR3.out 2 _ rfl _ (Below.refl _ _)
  have g0 := frozen_of_row _ _ 0 _ _ HR3.out
  have g1 := frozen_of_row _ _ 1 _ _ HR3.out
  have g2 := frozen_of_row _ _ 2 _ _ HR3.out
  clear h3 hon3 hb3 hb2 hz3
  refine go_on ?_
  go_wp2_with fail
  exact bodyPost_ret (results_cell_row rfl _ _ w.heap.size _ _ _ _ rfl (frac3_heap HR3.out) Tryz.underlying47 rfl ifrac) rfl ⟨⟨_, rfl, HF3.out⟩, below_only HB3.out (frac3_only _ _ _ _ _) (by omega)⟩

/-- The value of a program at a vector. -/
def dotQ (gs xs : List Rat) : Rat := sumR (fun i => nthQ gs i * nthQ xs i) 0 xs.length
def valueQ (P : Pm) (xs : List Rat) : Rat := if rightB2 P = true ∧ (xs.length : Int) = P.vars then dotQ P.goal xs else 0
/-- Sizes that are asked for. -/
def Sizes (N : Nat) (P : Pm) (xs : List Rat) : Prop := Fit P ∧ P.vars ≤ 100 ∧ N ≤ 50 ∧ N * P.goal.length ≤ 1000 ∧ xs.length ≤ 100
theorem right_0 {P : Pm} (h : rightB2 P = true) : rightP P = 0 := by unfold rightP; rw [h]; rfl
theorem right_20 {P : Pm} (h : rightB2 P = false) : rightP P = 20 := by unfold rightP; rw [h]; rfl
theorem right_goal {P : Pm} (h : rightB2 P = true) : (P.goal.length : Int) = P.vars ∧ (P.free.length : Int) = P.vars ∧ 1 ≤ P.vars := by
  have h1 : headP P = true := by unfold rightB2 at h; simp only [Bool.and_eq_true] at h; exact h.1
  simp only [headP, decide_eq_true_eq] at h1
  exact ⟨h1.2.2, h1.2.1, h1.1⟩

set_option maxRecDepth 8000 in
set_option maxHeartbeats 4000000 in
theorem pvalue_w {N : Nat} {w : World} {v x : Value} {P : Pm} {xs : List Rat} (h : ProgF N w v P) (hx : ListF N w x xs) (hs : Sizes N P xs) :
    Calls Tryz.prog 27 #[v, x] w (RTell w (valueQ P xs)) := by
  have HP := Lib.hid h
  have HX := Lib.hid hx
  obtain ⟨fa, fc, ga, gc, ra, rc, rfl, hz1, hz2, -, hG, -⟩ := h
  obtain ⟨xa, xc, rfl, -⟩ := hx
  have HG := Lib.hid hG
  obtain ⟨hfit, hv100, hN, hNn, hx100⟩ := hs
  have HFIT := Lib.hid hfit
  have HN := Lib.hid hN
  have HNN := Lib.hid hNn
  obtain ⟨w1, hw1⟩ : ∃ w1, w1 = (w.alloc (Obj.cells #[Value.int .i64 P.vars, Value.slice fa P.free.length fc, Value.slice ga P.goal.length gc, Value.slice ra P.rows.length rc] 26)).alloc (Obj.cells #[Value.bool false, Value.slice none 0 0, Value.slice none 0 0] 47) := ⟨_, rfl⟩
  have HB1 : Hid (Below w.heap.size w w1) := Lib.hid (by rw [hw1]; exact ((Below.refl _ _).alloc (Nat.le_refl _) _).alloc (by simp) _)
  have HX1 : Hid (w1.heap[w.heap.size]? = some (.cells #[Value.int .i64 P.vars, Value.slice fa P.free.length fc, Value.slice ga P.goal.length gc, Value.slice ra P.rows.length rc] 26 (0, 0))) := Lib.hid (by rw [hw1]; exact heap_alloc2_old w _ _)
  have HR1 : Hid (w1.heap[w.heap.size + 1]? = some (.cells #[Value.bool false, Value.slice none 0 0, Value.slice none 0 0] 47 (0, 0))) := Lib.hid (by rw [hw1]; exact heap_alloc2_new w _ _)
  have HW1 := Lib.hid hw1.symm
  obtain ⟨z, hz⟩ : ∃ z, z = P.vars := ⟨_, rfl⟩
  obtain ⟨fn, hfn⟩ : ∃ n, n = P.free.length := ⟨_, rfl⟩
  obtain ⟨gn, hgn⟩ : ∃ n, n = P.goal.length := ⟨_, rfl⟩
  obtain ⟨rn, hrn⟩ : ∃ n, n = P.rows.length := ⟨_, rfl⟩
  obtain ⟨xn, hxn⟩ : ∃ n, n = xs.length := ⟨_, rfl⟩
  have KR := Lib.hid (fun w' (hb : Below w.heap.size w w') => pright_w (HP.out.below hb) HFIT.out)
  rw [← hz] at hz1 hz2 HX1 HW1 HP KR hv100
  rw [← hfn] at HX1 HW1 HP KR
  rw [← hgn] at HX1 HW1 HP KR HG
  rw [← hrn] at HX1 HW1 HP KR
  rw [← hxn] at HX hx100 ⊢
  rw [← hz, ← hfn, ← hgn, ← hrn]
  have HEQ := Lib.hid (And.intro hz (And.intro hgn hxn))
  clear hw1 hG hN hNn hfit hz hfn hgn hrn hxn
  have RX := Lib.hid (cells_later HX1.out)
  cases hb : rightB2 P with
  | false =>
    have HV : Hid (valueQ P xs = 0) := Lib.hid (by unfold valueQ; rw [hb]; simp)
    rw [right_20 hb] at KR
    clear hb
    obtain ⟨Q, hQ⟩ : ∃ Q, Q = (0 : Rat) := ⟨_, rfl⟩
    have HQ0 := Lib.hid hQ
    clear hQ
    go_enter Tryz.func27, Tryz.ntmps27
    go_wp2_with fail
    rw [HW1.out]
    refine (KR.out _ HB1.out).mono ?_
    rintro en2 w2 ⟨rfl, hb2⟩
    go_wp2_with fail
    refine (sum_wG (N := 1) (qs := []) ⟨none, 0, rfl, fun i q h => by simp at h⟩ (by decide) (by decide) (by decide)).mono ?_
    rintro en9 w9 ⟨⟨v9, rfl, f9⟩, hb9⟩
    have f9' : FracV w9 v9 Q := by rw [HQ0.out]; exact f9
    obtain ⟨a9, n9, c9, i9, j9, k9, hq9⟩ := frac_form f9'
    subst hq9
    have HFQ := Lib.hid f9'
    clear f9 f9'
    have HZ9 := Lib.hid (below_trans hb2 hb9)
    have HR9 : Hid (w9.heap[w.heap.size + 1]? = some (.cells #[Value.bool false, Value.slice none 0 0, Value.slice none 0 0] 47 (0, 0))) := Lib.hid ((HZ9.out.block _ (lt_of_block HR1.out)).trans HR1.out)
    have HF9 := Lib.hid (HFQ.out.other HR9.out (frac3_only _ _ (decide (Q.num < 0)) (Value.slice a9 n9 c9) (Value.slice i9 j9 k9)))
    have HB9 := Lib.hid (below_trans HB1.out HZ9.out)
    have r0 := cells_later HR9.out 0 _ rfl _ (Below.refl _ _)
    have r1 := cells_later HR9.out 1 _ rfl _ (Below.refl _ _)
    have r2 := cells_later HR9.out 2 _ rfl _ (Below.refl _ _)
    have z0 := frozen_of_row _ _ 0 _ _ HR9.out
    have z1 := frozen_of_row _ _ 1 _ _ HR9.out
    have z2 := frozen_of_row _ _ 2 _ _ HR9.out
    go_wp2_with fail
    exact bodyPost_ret (results_cell_row rfl _ _ (w.heap.size + 1) _ _ _ _ rfl (frac3_heap HR9.out) Tryz.underlying47 rfl ifrac) rfl ⟨⟨_, rfl, by rw [HV.out, ← HQ0.out]; exact HF9.out⟩, below_only HB9.out (frac3_only _ _ _ _ _) (by omega)⟩
  | true =>
    have hg := right_goal hb
    rw [right_0 hb] at KR
    by_cases hl : (xn : Int) = z
    · have t0 : ((xn : Int) != z) = false := by simpa using hl
      have HV : Hid (valueQ P xs = dotQ P.goal xs) := Lib.hid (by unfold valueQ; rw [if_pos ⟨hb, by rw [← HEQ.out.2.2, ← HEQ.out.1]; exact hl⟩])
      have hgx : gn = xn := by have := HEQ.out; omega
      have HGX := Lib.hid hgx
      clear hb hg hl hgx
      obtain ⟨Q, hQ⟩ : ∃ Q, Q = dotQ P.goal xs := ⟨_, rfl⟩
      have HQ0 := Lib.hid hQ
      clear hQ
      go_enter Tryz.func27, Tryz.ntmps27
      go_wp2_with fail
      rw [HW1.out]
      refine (KR.out _ HB1.out).mono ?_
      rintro en2 w2 ⟨rfl, hb2⟩
      have x0 := RX.out 0 _ rfl _ hb2
      have x1 := RX.out 1 _ rfl _ hb2
      have x2 := RX.out 2 _ rfl _ hb2
      have x3 := RX.out 3 _ rfl _ hb2
      have HZ2 := Lib.hid hb2
      clear hb2
      go_wp2_with fail
      refine (entries_w).mono ?_
      rintro en3 w3 ⟨⟨g3, rfl, hg3⟩, hb3⟩
      have HZ3 := Lib.hid (below_trans HZ2.out hb3)
      have KP : Hid (Calls Tryz.prog 25 #[.func (.func 86) #[] #[.pointer (some ⟨g3, 0, none⟩)], .slice xa xn xc] w3 (RTell w3 Q)) := Lib.hid (by
        rw [HQ0.out]
        have h9 := product_w hg3 (HG.out.below (below_trans HB1.out HZ3.out)) (HX.out.below (below_trans HB1.out HZ3.out)) (show xn ≤ gn by have := HGX.out; omega) HN.out (by have := HGX.out; omega) (by have h8 := HNN.out; rw [← HEQ.out.2.1, HGX.out] at h8; exact h8)
        have e9 : dotQ P.goal xs = sumR (fun i => nthQ P.goal i * nthQ xs i) 0 xn := by unfold dotQ; rw [HEQ.out.2.2]
        rw [e9]; exact h9)
      clear hg3 hb3
      go_wp2_with fail
      refine KP.out.mono ?_
      rintro en9 w9 ⟨⟨v9, rfl, f9⟩, hb9⟩
      obtain ⟨a9, n9, c9, i9, j9, k9, hq9⟩ := frac_form f9
      subst hq9
      have HFQ := Lib.hid f9
      have HZ9 := Lib.hid (below_trans HZ3.out hb9)
      clear f9 x0 x1 x2 x3
      have HR9 : Hid (w9.heap[w.heap.size + 1]? = some (.cells #[Value.bool false, Value.slice none 0 0, Value.slice none 0 0] 47 (0, 0))) := Lib.hid ((HZ9.out.block _ (lt_of_block HR1.out)).trans HR1.out)
      have HF9 := Lib.hid (HFQ.out.other HR9.out (frac3_only _ _ (decide (Q.num < 0)) (Value.slice a9 n9 c9) (Value.slice i9 j9 k9)))
      have HB9 := Lib.hid (below_trans HB1.out HZ9.out)
      have r0 := cells_later HR9.out 0 _ rfl _ (Below.refl _ _)
      have r1 := cells_later HR9.out 1 _ rfl _ (Below.refl _ _)
      have r2 := cells_later HR9.out 2 _ rfl _ (Below.refl _ _)
      have z0 := frozen_of_row _ _ 0 _ _ HR9.out
      have z1 := frozen_of_row _ _ 1 _ _ HR9.out
      have z2 := frozen_of_row _ _ 2 _ _ HR9.out
      go_wp2_with fail
      exact bodyPost_ret (results_cell_row rfl _ _ (w.heap.size + 1) _ _ _ _ rfl (frac3_heap HR9.out) Tryz.underlying47 rfl ifrac) rfl ⟨⟨_, rfl, by rw [HV.out, ← HQ0.out]; exact HF9.out⟩, below_only HB9.out (frac3_only _ _ _ _ _) (by omega)⟩
    · have t0 : ((xn : Int) != z) = true := by simpa using hl
      have HV : Hid (valueQ P xs = 0) := Lib.hid (by unfold valueQ; rw [if_neg (fun h => hl (by rw [HEQ.out.2.2, HEQ.out.1]; exact h.2))])
      clear hb hg hl
      obtain ⟨Q, hQ⟩ : ∃ Q, Q = (0 : Rat) := ⟨_, rfl⟩
      have HQ0 := Lib.hid hQ
      clear hQ
      go_enter Tryz.func27, Tryz.ntmps27
      go_wp2_with fail
      rw [HW1.out]
      refine (KR.out _ HB1.out).mono ?_
      rintro en2 w2 ⟨rfl, hb2⟩
      have x0 := RX.out 0 _ rfl _ hb2
      have x1 := RX.out 1 _ rfl _ hb2
      have x2 := RX.out 2 _ rfl _ hb2
      have x3 := RX.out 3 _ rfl _ hb2
      go_wp2_with fail
      refine (sum_wG (N := 1) (qs := []) ⟨none, 0, rfl, fun i q h => by simp at h⟩ (by decide) (by decide) (by decide)).mono ?_
      rintro en9 w9 ⟨⟨v9, rfl, f9⟩, hb9⟩
      have f9' : FracV w9 v9 Q := by rw [HQ0.out]; exact f9
      obtain ⟨a9, n9, c9, i9, j9, k9, hq9⟩ := frac_form f9'
      subst hq9
      have HFQ := Lib.hid f9'
      clear f9 f9'
      have HZ9 := Lib.hid (below_trans hb2 hb9)
      clear x0 x1 x2 x3
      have HR9 : Hid (w9.heap[w.heap.size + 1]? = some (.cells #[Value.bool false, Value.slice none 0 0, Value.slice none 0 0] 47 (0, 0))) := Lib.hid ((HZ9.out.block _ (lt_of_block HR1.out)).trans HR1.out)
      have HF9 := Lib.hid (HFQ.out.other HR9.out (frac3_only _ _ (decide (Q.num < 0)) (Value.slice a9 n9 c9) (Value.slice i9 j9 k9)))
      have HB9 := Lib.hid (below_trans HB1.out HZ9.out)
      have r0 := cells_later HR9.out 0 _ rfl _ (Below.refl _ _)
      have r1 := cells_later HR9.out 1 _ rfl _ (Below.refl _ _)
      have r2 := cells_later HR9.out 2 _ rfl _ (Below.refl _ _)
      have z0 := frozen_of_row _ _ 0 _ _ HR9.out
      have z1 := frozen_of_row _ _ 1 _ _ HR9.out
      have z2 := frozen_of_row _ _ 2 _ _ HR9.out
      go_wp2_with fail
      exact bodyPost_ret (results_cell_row rfl _ _ (w.heap.size + 1) _ _ _ _ rfl (frac3_heap HR9.out) Tryz.underlying47 rfl ifrac) rfl ⟨⟨_, rfl, by rw [HV.out, ← HQ0.out]; exact HF9.out⟩, below_only HB9.out (frac3_only _ _ _ _ _) (by omega)⟩

set_option maxRecDepth 8000 in
set_option maxHeartbeats 4000000 in
theorem rvalue_w {N : Nat} {w : World} {v x : Value} {P : Pm} {xs : List Rat} (h : ProgF N w v P) (hx : ListF N w x xs) (hs : Sizes N P xs) :
    Calls Tryz.prog 37 #[v, x] w (RTell w (valueQ P xs)) := by
  have HP := Lib.hid h
  have HX := Lib.hid hx
  obtain ⟨fa, fc, ga, gc, ra, rc, rfl, hz1, hz2, -, hG, -⟩ := h
  obtain ⟨xa, xc, rfl, -⟩ := hx
  have HG := Lib.hid hG
  obtain ⟨hfit, hv100, hN, hNn, hx100⟩ := hs
  have HFIT := Lib.hid hfit
  have HN := Lib.hid hN
  have HNN := Lib.hid hNn
  obtain ⟨w1, hw1⟩ : ∃ w1, w1 = (w.alloc (Obj.cells #[Value.int .i64 P.vars, Value.slice fa P.free.length fc, Value.slice ga P.goal.length gc, Value.slice ra P.rows.length rc] 26)).alloc (Obj.cells #[Value.bool false, Value.slice none 0 0, Value.slice none 0 0] 47) := ⟨_, rfl⟩
  have HB1 : Hid (Below w.heap.size w w1) := Lib.hid (by rw [hw1]; exact ((Below.refl _ _).alloc (Nat.le_refl _) _).alloc (by simp) _)
  have HX1 : Hid (w1.heap[w.heap.size]? = some (.cells #[Value.int .i64 P.vars, Value.slice fa P.free.length fc, Value.slice ga P.goal.length gc, Value.slice ra P.rows.length rc] 26 (0, 0))) := Lib.hid (by rw [hw1]; exact heap_alloc2_old w _ _)
  have HR1 : Hid (w1.heap[w.heap.size + 1]? = some (.cells #[Value.bool false, Value.slice none 0 0, Value.slice none 0 0] 47 (0, 0))) := Lib.hid (by rw [hw1]; exact heap_alloc2_new w _ _)
  have HW1 := Lib.hid hw1.symm
  obtain ⟨z, hz⟩ : ∃ z, z = P.vars := ⟨_, rfl⟩
  obtain ⟨fn, hfn⟩ : ∃ n, n = P.free.length := ⟨_, rfl⟩
  obtain ⟨gn, hgn⟩ : ∃ n, n = P.goal.length := ⟨_, rfl⟩
  obtain ⟨rn, hrn⟩ : ∃ n, n = P.rows.length := ⟨_, rfl⟩
  obtain ⟨xn, hxn⟩ : ∃ n, n = xs.length := ⟨_, rfl⟩
  have KR := Lib.hid (fun w' (hb : Below w.heap.size w w') => rright2_w (HP.out.below hb) HFIT.out)
  rw [← hz] at hz1 hz2 HX1 HW1 HP KR hv100
  rw [← hfn] at HX1 HW1 HP KR
  rw [← hgn] at HX1 HW1 HP KR HG
  rw [← hrn] at HX1 HW1 HP KR
  rw [← hxn] at HX hx100 ⊢
  rw [← hz, ← hfn, ← hgn, ← hrn]
  have HEQ := Lib.hid (And.intro hz (And.intro hgn hxn))
  clear hw1 hG hN hNn hfit hz hfn hgn hrn hxn
  have RX := Lib.hid (cells_later HX1.out)
  cases hb : rightB2 P with
  | false =>
    have HV : Hid (valueQ P xs = 0) := Lib.hid (by unfold valueQ; rw [hb]; simp)
    rw [right_20 hb] at KR
    clear hb
    obtain ⟨Q, hQ⟩ : ∃ Q, Q = (0 : Rat) := ⟨_, rfl⟩
    have HQ0 := Lib.hid hQ
    clear hQ
    go_enter Tryz.func37, Tryz.ntmps37
    go_wp2_with fail
    rw [HW1.out]
    refine (KR.out _ HB1.out).mono ?_
    rintro en2 w2 ⟨rfl, hb2⟩
    go_wp2_with fail
    refine (whole0_w).mono ?_
    rintro en9 w9 ⟨⟨v9, rfl, f9⟩, hb9⟩
    have f9' : FracV w9 v9 Q := by rw [HQ0.out]; exact f9
    obtain ⟨a9, n9, c9, i9, j9, k9, hq9⟩ := frac_form f9'
    subst hq9
    have HFQ := Lib.hid f9'
    clear f9 f9'
    have HZ9 := Lib.hid (below_trans hb2 hb9)
    have HR9 : Hid (w9.heap[w.heap.size + 1]? = some (.cells #[Value.bool false, Value.slice none 0 0, Value.slice none 0 0] 47 (0, 0))) := Lib.hid ((HZ9.out.block _ (lt_of_block HR1.out)).trans HR1.out)
    have HF9 := Lib.hid (HFQ.out.other HR9.out (frac3_only _ _ (decide (Q.num < 0)) (Value.slice a9 n9 c9) (Value.slice i9 j9 k9)))
    have HB9 := Lib.hid (below_trans HB1.out HZ9.out)
    have r0 := cells_later HR9.out 0 _ rfl _ (Below.refl _ _)
    have r1 := cells_later HR9.out 1 _ rfl _ (Below.refl _ _)
    have r2 := cells_later HR9.out 2 _ rfl _ (Below.refl _ _)
    have z0 := frozen_of_row _ _ 0 _ _ HR9.out
    have z1 := frozen_of_row _ _ 1 _ _ HR9.out
    have z2 := frozen_of_row _ _ 2 _ _ HR9.out
    go_wp2_with fail
    exact bodyPost_ret (results_cell_row rfl _ _ (w.heap.size + 1) _ _ _ _ rfl (frac3_heap HR9.out) Tryz.underlying47 rfl ifrac) rfl ⟨⟨_, rfl, by rw [HV.out, ← HQ0.out]; exact HF9.out⟩, below_only HB9.out (frac3_only _ _ _ _ _) (by omega)⟩
  | true =>
    have hg := right_goal hb
    rw [right_0 hb] at KR
    by_cases hl : (xn : Int) = z
    · have t0 : ((xn : Int) != z) = false := by simpa using hl
      have HV : Hid (valueQ P xs = dotQ P.goal xs) := Lib.hid (by unfold valueQ; rw [if_pos ⟨hb, by rw [← HEQ.out.2.2, ← HEQ.out.1]; exact hl⟩])
      have hgx : gn = xn := by have := HEQ.out; omega
      have HGX := Lib.hid hgx
      clear hb hg hl hgx
      obtain ⟨Q, hQ⟩ : ∃ Q, Q = dotQ P.goal xs := ⟨_, rfl⟩
      have HQ0 := Lib.hid hQ
      clear hQ
      go_enter Tryz.func37, Tryz.ntmps37
      go_wp2_with fail
      rw [HW1.out]
      refine (KR.out _ HB1.out).mono ?_
      rintro en2 w2 ⟨rfl, hb2⟩
      have x0 := RX.out 0 _ rfl _ hb2
      have x1 := RX.out 1 _ rfl _ hb2
      have x2 := RX.out 2 _ rfl _ hb2
      have x3 := RX.out 3 _ rfl _ hb2
      have HZ2 := Lib.hid hb2
      clear hb2
      go_wp2_with fail
      have KP : Hid (Calls Tryz.prog 76 #[.slice ga gn gc, .slice xa xn xc] w2 (RTell w2 Q)) := Lib.hid (by
        rw [HQ0.out]
        have e0 := HEQ.out
        have h9 := rdot_wG (HG.out.below (below_trans HB1.out HZ2.out)) (HX.out.below (below_trans HB1.out HZ2.out)) HN.out (by have := HGX.out; omega) (by omega) (by have h8 := HNN.out; exact h8)
        have e9 : dotQ P.goal xs = sumR (fun i => nthQ P.goal i * nthQ xs i) 0 (min P.goal.length xs.length) := by unfold dotQ; rw [← e0.2.1, ← e0.2.2, HGX.out, Nat.min_self]
        rw [e9]; exact h9)
      refine KP.out.mono ?_
      rintro en9 w9 ⟨⟨v9, rfl, f9⟩, hb9⟩
      obtain ⟨a9, n9, c9, i9, j9, k9, hq9⟩ := frac_form f9
      subst hq9
      have HFQ := Lib.hid f9
      have HZ9 := Lib.hid (below_trans HZ2.out hb9)
      clear f9 x0 x1 x2 x3
      have HR9 : Hid (w9.heap[w.heap.size + 1]? = some (.cells #[Value.bool false, Value.slice none 0 0, Value.slice none 0 0] 47 (0, 0))) := Lib.hid ((HZ9.out.block _ (lt_of_block HR1.out)).trans HR1.out)
      have HF9 := Lib.hid (HFQ.out.other HR9.out (frac3_only _ _ (decide (Q.num < 0)) (Value.slice a9 n9 c9) (Value.slice i9 j9 k9)))
      have HB9 := Lib.hid (below_trans HB1.out HZ9.out)
      have r0 := cells_later HR9.out 0 _ rfl _ (Below.refl _ _)
      have r1 := cells_later HR9.out 1 _ rfl _ (Below.refl _ _)
      have r2 := cells_later HR9.out 2 _ rfl _ (Below.refl _ _)
      have z0 := frozen_of_row _ _ 0 _ _ HR9.out
      have z1 := frozen_of_row _ _ 1 _ _ HR9.out
      have z2 := frozen_of_row _ _ 2 _ _ HR9.out
      go_wp2_with fail
      exact bodyPost_ret (results_cell_row rfl _ _ (w.heap.size + 1) _ _ _ _ rfl (frac3_heap HR9.out) Tryz.underlying47 rfl ifrac) rfl ⟨⟨_, rfl, by rw [HV.out, ← HQ0.out]; exact HF9.out⟩, below_only HB9.out (frac3_only _ _ _ _ _) (by omega)⟩
    · have t0 : ((xn : Int) != z) = true := by simpa using hl
      have HV : Hid (valueQ P xs = 0) := Lib.hid (by unfold valueQ; rw [if_neg (fun h => hl (by rw [HEQ.out.2.2, HEQ.out.1]; exact h.2))])
      clear hb hg hl
      obtain ⟨Q, hQ⟩ : ∃ Q, Q = (0 : Rat) := ⟨_, rfl⟩
      have HQ0 := Lib.hid hQ
      clear hQ
      go_enter Tryz.func37, Tryz.ntmps37
      go_wp2_with fail
      rw [HW1.out]
      refine (KR.out _ HB1.out).mono ?_
      rintro en2 w2 ⟨rfl, hb2⟩
      have x0 := RX.out 0 _ rfl _ hb2
      have x1 := RX.out 1 _ rfl _ hb2
      have x2 := RX.out 2 _ rfl _ hb2
      have x3 := RX.out 3 _ rfl _ hb2
      go_wp2_with fail
      refine (whole0_w).mono ?_
      rintro en9 w9 ⟨⟨v9, rfl, f9⟩, hb9⟩
      have f9' : FracV w9 v9 Q := by rw [HQ0.out]; exact f9
      obtain ⟨a9, n9, c9, i9, j9, k9, hq9⟩ := frac_form f9'
      subst hq9
      have HFQ := Lib.hid f9'
      clear f9 f9'
      have HZ9 := Lib.hid (below_trans hb2 hb9)
      clear x0 x1 x2 x3
      have HR9 : Hid (w9.heap[w.heap.size + 1]? = some (.cells #[Value.bool false, Value.slice none 0 0, Value.slice none 0 0] 47 (0, 0))) := Lib.hid ((HZ9.out.block _ (lt_of_block HR1.out)).trans HR1.out)
      have HF9 := Lib.hid (HFQ.out.other HR9.out (frac3_only _ _ (decide (Q.num < 0)) (Value.slice a9 n9 c9) (Value.slice i9 j9 k9)))
      have HB9 := Lib.hid (below_trans HB1.out HZ9.out)
      have r0 := cells_later HR9.out 0 _ rfl _ (Below.refl _ _)
      have r1 := cells_later HR9.out 1 _ rfl _ (Below.refl _ _)
      have r2 := cells_later HR9.out 2 _ rfl _ (Below.refl _ _)
      have z0 := frozen_of_row _ _ 0 _ _ HR9.out
      have z1 := frozen_of_row _ _ 1 _ _ HR9.out
      have z2 := frozen_of_row _ _ 2 _ _ HR9.out
      go_wp2_with fail
      exact bodyPost_ret (results_cell_row rfl _ _ (w.heap.size + 1) _ _ _ _ rfl (frac3_heap HR9.out) Tryz.underlying47 rfl ifrac) rfl ⟨⟨_, rfl, by rw [HV.out, ← HQ0.out]; exact HF9.out⟩, below_only HB9.out (frac3_only _ _ _ _ _) (by omega)⟩

end Go.Proofs.YtlaphdlocchagaaGreat

/- Fits, of the program and of the reference: what they ask of a row and of the signs. -/
namespace Go.Proofs.YtlaphdlocchagaaGreat
open Go.RowKit
attribute [local go_sem ↓] Go.wp_at_zero Go.wp_at_succ

/-- Does a condition of a sense hold, of sums in such an order? -/
def holdsB (s o : Int) : Bool := decide (o = 0) || decide (o = s)
theorem holds_w {w : World} {s o : Int} {t : Bool} (ht : holdsB s o = t) :
    Calls Tryz.prog 67 #[.int .i64 s, .int .i64 o] w fun e w' => e = .returned (.bool t) ∧ Below w.heap.size w w' := by
  by_cases h0 : o = 0
  · have e : t = true := by rw [← ht]; unfold holdsB; simp [h0]
    subst e
    have t0 : (o == 0) = true := by simpa using h0
    clear h0 ht
    go_enter Tryz.func67, Tryz.ntmps67
    go_wp2_with fail
    go_ret
    exact ⟨rfl, Below.refl _ _⟩
  · have t0 : (o == 0) = false := by simpa using h0
    have t1 : (o == s) = t := by rw [← ht]; unfold holdsB; by_cases h : o = s <;> simp [h, h0] <;> omega
    clear h0 ht
    go_enter Tryz.func67, Tryz.ntmps67
    go_wp2_with fail
    go_ret
    exact ⟨rfl, Below.refl _ _⟩

set_option maxRecDepth 8000 in
set_option maxHeartbeats 2000000 in
theorem rholds_w {n m : Nat} {w : World} {x y : Value} {P S : Rat} {s : Int} {t : Bool} (hx : SzF n w x P) (hy : SzF m w y S) (hn : n ≤ 4096) (hm : m ≤ 4096) (ht : holdsB s (cmpQ P S) = t) :
    Calls Tryz.prog 75 #[x, .int .i64 s, y] w fun e w' => e = .returned (.bool t) ∧ Below w.heap.size w w' := by
  have HX := Lib.hid hx
  have HY := Lib.hid hy
  obtain ⟨b, l, k, ⟨u, d, rfl, hu, hd⟩, -⟩ := hx
  obtain ⟨ua, un, uc, hue⟩ := hu.form
  subst hue
  obtain ⟨da, dn, dc, hde⟩ := hd.form
  subst hde
  obtain ⟨b', l', k', ⟨u', d', rfl, hu', hd'⟩, -⟩ := hy
  obtain ⟨va, vn, vc, hve⟩ := hu'.form
  subst hve
  obtain ⟨ea, en, ec, hee⟩ := hd'.form
  subst hee
  clear hu hd hu' hd'
  obtain ⟨w1, hw1⟩ : ∃ w1, w1 = ((w.alloc (Obj.cells #[Value.bool b, Value.slice ua un uc, Value.slice da dn dc] 47)).alloc (Obj.cells #[Value.bool b', Value.slice va vn vc, Value.slice ea en ec] 47)) := ⟨_, rfl⟩
  have HB1 : Hid (Below w.heap.size w w1) := Lib.hid (by rw [hw1]; exact ((Below.refl _ _).alloc (Nat.le_refl _) _).alloc (by simp) _)
  have HXB : Hid (w1.heap[w.heap.size]? = some (.cells #[Value.bool b, Value.slice ua un uc, Value.slice da dn dc] 47 (0, 0))) := Lib.hid (by rw [hw1]; exact heap_alloc2_old w _ _)
  have HYB : Hid (w1.heap[w.heap.size + 1]? = some (.cells #[Value.bool b', Value.slice va vn vc, Value.slice ea en ec] 47 (0, 0))) := Lib.hid (by rw [hw1]; exact heap_alloc2_new w _ _)
  have HW1 := Lib.hid hw1.symm
  have K := Lib.hid (rcmp_s (HX.out.below HB1.out) (HY.out.below HB1.out) hn hm)
  have hc := cmpQ_small P S
  obtain ⟨o, ho⟩ : ∃ o, o = cmpQ P S := ⟨_, rfl⟩
  rw [← ho] at K hc ht
  obtain ⟨hc1, hc2⟩ := hc
  have hz1 := Below.refl w1.heap.size w1
  have x0 := cells_later HXB.out 0 _ rfl _ hz1
  have x1 := cells_later HXB.out 1 _ rfl _ hz1
  have x2 := cells_later HXB.out 2 _ rfl _ hz1
  have y0 := cells_later HYB.out 0 _ rfl _ hz1
  have y1 := cells_later HYB.out 1 _ rfl _ hz1
  have y2 := cells_later HYB.out 2 _ rfl _ hz1
  clear hw1 ho
  by_cases h0 : o = 0
  · have e : t = true := by rw [← ht]; unfold holdsB; simp [h0]
    subst e
    have t0 : (o == 0) = true := by simpa using h0
    clear h0 ht
    go_enter Tryz.func75, Tryz.ntmps75
    go_wp2_with fail
    rw [HW1.out]
    refine K.out.mono ?_
    rintro en2 w2 ⟨rfl, hb2⟩
    go_wp2_with fail
    go_ret
    exact ⟨rfl, below_trans HB1.out hb2⟩
  · have t0 : (o == 0) = false := by simpa using h0
    have t1 : (o == s) = t := by rw [← ht]; unfold holdsB; by_cases h : o = s <;> simp [h, h0] <;> omega
    clear h0 ht
    go_enter Tryz.func75, Tryz.ntmps75
    go_wp2_with fail
    rw [HW1.out]
    refine K.out.mono ?_
    rintro en2 w2 ⟨rfl, hb2⟩
    go_wp2_with fail
    go_ret
    exact ⟨rfl, below_trans HB1.out hb2⟩

/-- Are the signs right? -/
def sgnOK (free : List Bool) (xs : List Rat) (i : Nat) : Prop := free[i]? = some true ∨ 0 ≤ cmpQ (nthQ xs i) 0
def sgnB (free : List Bool) (xs : List Rat) : Bool := decide (∀ i, i < xs.length → free[i]? = some true ∨ 0 ≤ cmpQ (nthQ xs i) 0)
theorem BoolsF.at {w : World} {a : Option Addr} {bs : List Bool} (h : BoolsF w a bs) {i : Nat} (hi : i < bs.length) :
    ∃ b B off, bs[i]? = some b ∧ a = some ⟨B, off, none⟩ ∧ ∀ w', Below w.heap.size w w' → w'.cell? ⟨B, off + i, none⟩ = some (.bool b) := by
  obtain ⟨B, off, ha, hc⟩ := h i _ (List.getElem?_eq_getElem hi)
  exact ⟨bs[i], B, off, List.getElem?_eq_getElem hi, ha, fun w' hb => cell_below hb hc⟩

set_option maxRecDepth 8000 in
set_option maxHeartbeats 4000000 in
theorem signedAs_w {N : Nat} {w : World} {v x : Value} {P : Pm} {xs : List Rat} (h : ProgF N w v P) (hx : ListF N w x xs) (hf : (P.free.length : Int) = P.vars) (hl : (xs.length : Int) = P.vars) (hn : xs.length ≤ 1000) :
    Calls Tryz.prog 66 #[v, x] w fun e w' => e = .returned (.bool (sgnB P.free xs)) ∧ Below w.heap.size w w' := by
  have HX := Lib.hid hx
  obtain ⟨fa, fc, ga, gc, ra, rc, rfl, hz1, hz2, hB, -, -⟩ := h
  have HBO := Lib.hid hB
  obtain ⟨xa, xc, rfl, -⟩ := hx
  obtain ⟨n, hnn⟩ : ∃ n, n = xs.length := ⟨_, rfl⟩
  have hv : P.vars = (n : Int) := by omega
  have hfl : P.free.length = n := by omega
  rw [hv, hfl, ← hnn]
  rw [← hnn] at hn HX
  have HNX := Lib.hid hnn
  have HFL := Lib.hid hfl
  obtain ⟨w1, hw1⟩ : ∃ w1, w1 = w.alloc (Obj.cells #[Value.int .i64 (n : Int), Value.slice fa n fc, Value.slice ga P.goal.length gc, Value.slice ra P.rows.length rc] 26) := ⟨_, rfl⟩
  have HB1 : Hid (Below w.heap.size w w1) := Lib.hid (by rw [hw1]; exact (Below.refl _ _).alloc (Nat.le_refl _) _)
  have HX1 : Hid (w1.heap[w.heap.size]? = some (.cells #[Value.int .i64 (n : Int), Value.slice fa n fc, Value.slice ga P.goal.length gc, Value.slice ra P.rows.length rc] 26 (0, 0))) := Lib.hid (by rw [hw1]; exact heap_alloc_new w _)
  have HW1 := Lib.hid hw1.symm
  clear hw1 hB hf hl hnn hv hfl hz1 hz2
  have RX := Lib.hid (cells_later HX1.out)
  have hb1 := Below.refl w1.heap.size w1
  have x0 := RX.out 0 _ rfl _ hb1
  have x1 := RX.out 1 _ rfl _ hb1
  go_enter Tryz.func66, Tryz.ntmps66
  go_wp2_with fail
  rw [HW1.out]
  go_loopw [8] (fun iv wr => ∃ i : Nat, i ≤ n ∧ iv = .int .i64 i ∧ Hid (∀ j, j < i → P.free[j]? = some true ∨ 0 ≤ cmpQ (nthQ xs j) 0) ∧ Hid (Below w1.heap.size w1 wr)) (fun iv _ => n - (intOf iv).toNat)
  case atStart => exact ⟨0, Nat.zero_le _, rfl, Lib.hid (fun j h => absurd h (Nat.not_lt_zero j)), Lib.hid hb1⟩
  case round =>
    obtain ⟨i, hi, rfl, hd, hZ⟩ := hrel
    obtain ⟨wo, rfl⟩ : ∃ wo : World, wo = wr := ⟨_, rfl⟩
    by_cases hin : i < n
    · have t0 : decide ((i : Int) < (n : Int)) = true := by simp; omega
      have x0 := RX.out 0 _ rfl _ hZ.out
      have x1 := RX.out 1 _ rfl _ hZ.out
      obtain ⟨fb, Bf, of, hfb, hfa, hcf⟩ := HBO.out.at (i := i) (by have := HFL.out; omega)
      subst hfa
      have f0 := hcf wo (below_trans HB1.out hZ.out)
      have HFB := Lib.hid hfb
      clear hcf hfb
      cases fb with
      | true =>
        have HD : Hid (∀ j, j < i + 1 → P.free[j]? = some true ∨ 0 ≤ cmpQ (nthQ xs j) 0) := Lib.hid (fun j hj => by
          by_cases e : j = i
          · subst e; exact Or.inl HFB.out
          · exact hd.out j (by omega))
        go_wp2_with fail
        go_roundw
        case rel => exact ⟨i + 1, by omega, by go_num, HD, hZ⟩
        case measure => simp [intOf]; omega
      | false =>
        obtain ⟨q, B, off, b, a1, n1, c1, a2, n2, c2, hq, ha, hc, hf⟩ := HX.out.at hin
        subst ha
        obtain ⟨k0, k1, k2⟩ := hc wo (below_trans HB1.out hZ.out)
        have HQ := Lib.hid (nthQ_of hq)
        have K := Lib.hid (sign_f (hf.inF.below (below_trans HB1.out hZ.out)))
        have hc9 := cmpQ_small q 0
        obtain ⟨o, ho⟩ : ∃ o, o = cmpQ q 0 := ⟨_, rfl⟩
        rw [← ho] at K hc9
        obtain ⟨ho1, ho2⟩ := hc9
        have HO := Lib.hid ho
        clear hc hf hq ho
        by_cases h0 : o < 0
        · have t1 : decide (o < 0) = true := by simpa using h0
          have HE : Hid (sgnB P.free xs = false) := Lib.hid (by
            unfold sgnB
            rw [decide_eq_false_iff_not]
            intro h
            rcases h i (by have := HNX.out; omega) with e | e
            · rw [HFB.out] at e; cases e
            · rw [HQ.out, ← HO.out] at e; omega)
          clear h0
          go_wp2_with fail
          refine K.out.mono ?_
          rintro en2 w2 ⟨rfl, hb2⟩
          go_wp2_with fail
          go_ret
          exact ⟨by rw [HE.out]; first | done | rfl, below_trans HB1.out (below_trans hZ.out hb2)⟩
        · have t1 : decide (o < 0) = false := by simpa using h0
          have HD : Hid (∀ j, j < i + 1 → P.free[j]? = some true ∨ 0 ≤ cmpQ (nthQ xs j) 0) := Lib.hid (fun j hj => by
            by_cases e : j = i
            · subst e; right; rw [HQ.out, ← HO.out]; omega
            · exact hd.out j (by omega))
          clear h0
          go_wp2_with fail
          refine K.out.mono ?_
          rintro en2 w2 ⟨rfl, hb2⟩
          have HZ2 := Lib.hid (below_trans hZ.out hb2)
          go_wp2_with fail
          go_roundw
          case rel => exact ⟨i + 1, by omega, by go_num, HD, HZ2⟩
          case measure => simp [intOf]; omega
    · have t0 : decide ((i : Int) < (n : Int)) = false := by simp; omega
      have HE : Hid (sgnB P.free xs = true) := Lib.hid (by
        unfold sgnB
        rw [decide_eq_true_eq]
        intro j hj
        exact hd.out j (by have := HNX.out; omega))
      go_wp2_with fail
      go_ret
      exact ⟨by rw [HE.out]; first | done | rfl, below_trans HB1.out hZ.out⟩
end Go.Proofs.YtlaphdlocchagaaGreat
