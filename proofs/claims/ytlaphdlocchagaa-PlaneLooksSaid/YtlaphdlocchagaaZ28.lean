/- Several texts in one: F3, F6, F7, F8, F9, G1. -/
import Derived.Test.YtlaphdlocchagaaZ27
import Derived.Deep.DrawnRows
import Derived.Deep.DeepCutAuto
/- Lists of fractions: the terms of products added up by halves. -/
namespace Go.Proofs.Ytlaphdlocchagaa
open Go.RowKit
attribute [local go_sem ↓] Go.wp_at_zero Go.wp_at_succ

set_option maxRecDepth 8000 in
set_option maxHeartbeats 2000000 in
theorem total_dot {w0 : World} {g : Nat → Rat} {m Lo Hi : Nat} {p p2 : Nat} (hm : m ≤ 100) (hHi : Hi ≤ 1000) (hsz : ∀ i, Lo ≤ i → i < Hi → szQ m 1 (g i))
    (Hf : ∀ i w', Lo ≤ i → i < Hi → Below w0.heap.size w0 w' → Calls Try.prog 47 #[.int .i64 (i : Nat), .pointer (some ⟨p, 0, none⟩), .pointer (some ⟨p2, 0, none⟩)] w' fun e w'' => (∃ r, e = .returned r ∧ RatQ w'' r (g i)) ∧ Below w'.heap.size w' w'') :
    ∀ (n lo hi : Nat) (w : World), lo + n = hi → Lo ≤ lo → hi ≤ Hi → Below w0.heap.size w0 w →
    Calls Try.prog 30 #[.int .i64 (lo : Nat), .int .i64 (hi : Nat), .func (.func 47) #[] #[.pointer (some ⟨p, 0, none⟩), .pointer (some ⟨p2, 0, none⟩)]] w fun e w' => (∃ r, e = .returned r ∧ RatQ w' r (sumR g lo n)) ∧ Below w.heap.size w w' := by
  have HF := Lib.hid Hf
  have HSZ := Lib.hid hsz
  clear Hf hsz
  intro n
  induction n using Nat.strongRecOn with
  | _ n IH =>
    intro lo hi w hn hlo hhi hb
    have HIH := Lib.hid IH
    clear IH
    have HB := Lib.hid hb
    have hd0 : (hi : Int) - (lo : Int) = (n : Int) := by omega
    obtain ⟨w1, hw1⟩ : ∃ w1, w1 = w.alloc (Obj.cells #[Value.slice none 0 0, Value.bool false, Value.slice none 0 0] 62) := ⟨_, rfl⟩
    have HB1 : Hid (Below w.heap.size w w1) := Lib.hid (by rw [hw1]; exact (Below.refl _ _).alloc (Nat.le_refl _) _)
    have HR : Hid (w1.heap[w.heap.size]? = some (.cells #[Value.slice none 0 0, Value.bool false, Value.slice none 0 0] 62 (0, 0))) := Lib.hid (by rw [hw1]; exact heap_alloc_new w _)
    have HW1 := Lib.hid hw1.symm
    have hz1 := below_trans hb HB1.out
    have HZ1 := Lib.hid hz1
    clear hw1 hb hz1
    have hn9 : n ≤ 1000 := by omega
    have hhi9 : hi ≤ 1000 := by omega
    by_cases h0 : n = 0
    · have t0 : ((n : Int) == 0) = true := by simp; omega
      have HS : Hid (sumR g lo n = 0) := Lib.hid (by rw [h0]; rfl)
      rw [HS.out]
      clear h0
      go_enter Try.func30, Try.ntmps30
      go_wp2_with fail
      rw [HW1.out]
      refine zero_w.mono ?_
      rintro en2 w2 ⟨⟨v2, rfl, u2, d2, rfl, hu2, hd2⟩, hb2⟩
      obtain ⟨a2, n2, c2, he2⟩ := hu2.form
      subst he2
      obtain ⟨i2, j2, k2, hf2⟩ := hd2.form
      subst hf2
      have HR2 : Hid (w2.heap[w.heap.size]? = some (.cells #[Value.slice none 0 0, Value.bool false, Value.slice none 0 0] 62 (0, 0))) := Lib.hid ((hb2.block _ (lt_of_block HR.out)).trans HR.out)
      have HB2 := Lib.hid (below_trans HB1.out hb2)
      have HU2 := Lib.hid hu2
      have HD2 := Lib.hid hd2
      have r0 := cells_later HR2.out 0 _ rfl _ (Below.refl _ _)
      have r1 := cells_later HR2.out 1 _ rfl _ (Below.refl _ _)
      have r2 := cells_later HR2.out 2 _ rfl _ (Below.refl _ _)
      have f0 := frozen_of_row _ _ 0 _ _ HR2.out
      have f1 := frozen_of_row _ _ 1 _ _ HR2.out
      have f2 := frozen_of_row _ _ 2 _ _ HR2.out
      clear hu2 hd2 hb2
      go_wp2_with fail
      exact bodyPost_ret (results_cell_row rfl _ _ w.heap.size _ _ _ _ rfl (rat3_heap HR2.out) Try.underlying62 rfl irat) rfl ⟨⟨_, rfl, rat3_q (q := 0) HR2.out HU2.out HD2.out⟩, below_only HB2.out (rat3_only _ _ _ _ _) (by omega)⟩
    · have t0 : ((n : Int) == 0) = false := by simp; omega
      by_cases h1 : n = 1
      · have t1 : ((n : Int) == 1) = true := by simp; omega
        have HS : Hid (sumR g lo n = g lo) := Lib.hid (by rw [h1]; exact sumR_one g lo)
        rw [HS.out]
        have K := Lib.hid (HF.out lo w1 hlo (by omega) HZ1.out)
        obtain ⟨q, hq⟩ : ∃ q, q = g lo := ⟨_, rfl⟩
        rw [← hq] at K ⊢
        clear h0 h1 hq
        go_enter Try.func30, Try.ntmps30
        go_wp2_with fail
        rw [HW1.out]
        refine K.out.mono ?_
        rintro en2 w2 ⟨⟨v2, rfl, h2⟩, hb2⟩
        obtain ⟨u2, d2, rfl, hu2, hd2⟩ := h2
        obtain ⟨a2, n2, c2, he2⟩ := hu2.form
        subst he2
        obtain ⟨i2, j2, k2, hf2⟩ := hd2.form
        subst hf2
        have HR2 : Hid (w2.heap[w.heap.size]? = some (.cells #[Value.slice none 0 0, Value.bool false, Value.slice none 0 0] 62 (0, 0))) := Lib.hid ((hb2.block _ (lt_of_block HR.out)).trans HR.out)
        have HB2 := Lib.hid (below_trans HB1.out hb2)
        have HU2 := Lib.hid hu2
        have HD2 := Lib.hid hd2
        have r0 := cells_later HR2.out 0 _ rfl _ (Below.refl _ _)
        have r1 := cells_later HR2.out 1 _ rfl _ (Below.refl _ _)
        have r2 := cells_later HR2.out 2 _ rfl _ (Below.refl _ _)
        have f0 := frozen_of_row _ _ 0 _ _ HR2.out
        have f1 := frozen_of_row _ _ 1 _ _ HR2.out
        have f2 := frozen_of_row _ _ 2 _ _ HR2.out
        clear hu2 hd2 hb2
        go_wp2_with fail
        exact bodyPost_ret (results_cell_row rfl _ _ w.heap.size _ _ _ _ rfl (rat3_heap HR2.out) Try.underlying62 rfl irat) rfl ⟨⟨_, rfl, rat3_q HR2.out HU2.out HD2.out⟩, below_only HB2.out (rat3_only _ _ _ _ _) (by omega)⟩
      · have t1 : ((n : Int) == 1) = false := by simp; omega
        obtain ⟨k, hk⟩ : ∃ k, k = n / 2 := ⟨_, rfl⟩
        obtain ⟨mid, hmid⟩ : ∃ x, x = lo + k := ⟨_, rfl⟩
        have e1 : (n : Int) / 2 = (k : Int) := by omega
        have e1' : Int.tdiv (n : Int) 2 = (k : Int) := by rw [Int.tdiv_eq_ediv_of_nonneg (by omega)]; omega
        have e2 : (lo : Int) + (k : Int) = (mid : Int) := by omega
        have hmid9 : mid ≤ 1000 := by omega
        have HSP : Hid (sumR g lo n = sumR g lo k + sumR g mid (n - k)) := Lib.hid (by
          have h9 := sumR_split g lo k (n - k)
          rw [show k + (n - k) = n by omega, ← hmid] at h9
          exact h9)
        have K1 := Lib.hid (HIH.out k (by omega) lo mid w1 hmid.symm hlo (by omega) HZ1.out)
        have K2 := Lib.hid (fun w' (hb : Below w0.heap.size w0 w') => HIH.out (n - k) (by omega) mid hi w' (by omega) (by omega) hhi hb)
        have L1 := Lib.hid (sz_len (m := m) (k := k) (sz_sum (g := g) (lo := lo) fun i h1 h2 => HSZ.out i (by omega) (by omega)) (by omega))
        have L2 := Lib.hid (sz_len (m := m) (k := n - k) (sz_sum (g := g) (lo := mid) fun i h1 h2 => HSZ.out i (by omega) (by omega)) (by omega))
        have HMK : Hid (m * k ≤ 100000 ∧ m * (n - k) ≤ 100000) := Lib.hid ⟨Nat.le_trans (Nat.mul_le_mul hm (show k ≤ 1000 by omega)) (by omega), Nat.le_trans (Nat.mul_le_mul hm (show n - k ≤ 1000 by omega)) (by omega)⟩
        obtain ⟨P, hP⟩ : ∃ P, P = sumR g lo k := ⟨_, rfl⟩
        obtain ⟨S, hS⟩ : ∃ S, S = sumR g mid (n - k) := ⟨_, rfl⟩
        rw [← hP] at K1 L1 HSP
        rw [← hS] at K2 L2 HSP
        rw [HSP.out]
        have K3 := Lib.hid (fun w' x y (h : RatQ w' x P) (k' : RatQ w' y S) => rplus_q (w := w') h k' (by have := L1.out; have := L2.out; have := HMK.out.1; have := HMK.out.2; omega))
        obtain ⟨Q, hQ⟩ : ∃ Q, Q = P + S := ⟨_, rfl⟩
        rw [← hQ] at K3 ⊢
        have hdd : (n : Int) = (hi : Int) - (lo : Int) := by omega
        clear h0 h1 hk hmid hP hS hQ HIH hdd
        go_enter Try.func30, Try.ntmps30
        go_wp2_with fail
        rw [HW1.out]
        refine K1.out.mono ?_
        rintro en2 w2 ⟨⟨v2, rfl, h2⟩, hb2⟩
        go_wp2_with fail
        refine (K2.out _ (below_trans HZ1.out hb2)).mono ?_
        rintro en3 w3 ⟨⟨v3, rfl, h3⟩, hb3⟩
        go_wp2_with fail
        refine (K3.out _ _ _ (h2.below hb3) h3).mono ?_
        rintro en4 w4 ⟨⟨v4, rfl, h4⟩, hb4⟩
        obtain ⟨u4, d4, rfl, hu4, hd4⟩ := h4
        obtain ⟨a4, n4, c4, he4⟩ := hu4.form
        subst he4
        obtain ⟨i4, j4, k4, hf4⟩ := hd4.form
        subst hf4
        have hz4 := below_trans hb2 (below_trans hb3 hb4)
        have HR4 : Hid (w4.heap[w.heap.size]? = some (.cells #[Value.slice none 0 0, Value.bool false, Value.slice none 0 0] 62 (0, 0))) := Lib.hid ((hz4.block _ (lt_of_block HR.out)).trans HR.out)
        have HB4 := Lib.hid (below_trans HB1.out hz4)
        have HU4 := Lib.hid hu4
        have HD4 := Lib.hid hd4
        have r0 := cells_later HR4.out 0 _ rfl _ (Below.refl _ _)
        have r1 := cells_later HR4.out 1 _ rfl _ (Below.refl _ _)
        have r2 := cells_later HR4.out 2 _ rfl _ (Below.refl _ _)
        have f0 := frozen_of_row _ _ 0 _ _ HR4.out
        have f1 := frozen_of_row _ _ 1 _ _ HR4.out
        have f2 := frozen_of_row _ _ 2 _ _ HR4.out
        clear hu4 hd4 hb2 hb3 hb4 hz4 h2 h3
        go_wp2_with fail
        exact bodyPost_ret (results_cell_row rfl _ _ w.heap.size _ _ _ _ rfl (rat3_heap HR4.out) Try.underlying62 rfl irat) rfl ⟨⟨_, rfl, rat3_q HR4.out HU4.out HD4.out⟩, below_only HB4.out (rat3_only _ _ _ _ _) (by omega)⟩
end Go.Proofs.Ytlaphdlocchagaa

/- Lists of fractions: one term of a sum of products. -/
namespace Go.Proofs.Ytlaphdlocchagaa
open Go.RowKit
attribute [local go_sem ↓] Go.wp_at_zero Go.wp_at_succ

theorem cell_lt {w : World} {b o : Nat} {v : Value} (h : w.cell? ⟨b, o, none⟩ = some v) : b < w.heap.size := by
  by_cases hb : b < w.heap.size
  · exact hb
  · have : w.heap[b]? = none := by simp; omega
    simp [World.cell?, this] at h
set_option maxRecDepth 8000 in
set_option maxHeartbeats 4000000 in
theorem dot1_w {N : Nat} {w : World} {p p2 : Nat} {a a' : Option Addr} {n c n' c' i : Nat} {qs ps : List Rat} (hp : w.cell? ⟨p, 0, none⟩ = some (.slice a n c)) (hp2 : w.cell? ⟨p2, 0, none⟩ = some (.slice a' n' c')) (hl : ListF N w (.slice a n c) qs) (hl2 : ListF N w (.slice a' n' c') ps) (hi : i < n) (hi2 : i < n') (_hn : n ≤ 1000) (_hn2 : n' ≤ 1000) (hN : N ≤ 1000) :
    Calls Try.prog 47 #[.int .i64 (i : Nat), .pointer (some ⟨p, 0, none⟩), .pointer (some ⟨p2, 0, none⟩)] w fun e w' => (∃ r, e = .returned r ∧ RatQ w' r (nthQ qs i * nthQ ps i)) ∧ Below w.heap.size w w' := by
  obtain ⟨q, B, off, b, a1, n1, c1, a2, n2, c2, hq, rfl, hc, hf⟩ := hl.at hi
  obtain ⟨q', B', off', b', a3, n3, c3, a4, n4, c4, hq', rfl, hc', hf'⟩ := hl2.at hi2
  rw [nthQ_of hq, nthQ_of hq']
  obtain ⟨w1, hw1⟩ : ∃ w1, w1 = w.alloc (Obj.cells #[Value.slice none 0 0, Value.bool false, Value.slice none 0 0] 62) := ⟨_, rfl⟩
  have HB1 : Hid (Below w.heap.size w w1) := Lib.hid (by rw [hw1]; exact (Below.refl _ _).alloc (Nat.le_refl _) _)
  have HR : Hid (w1.heap[w.heap.size]? = some (.cells #[Value.slice none 0 0, Value.bool false, Value.slice none 0 0] 62 (0, 0))) := Lib.hid (by rw [hw1]; exact heap_alloc_new w _)
  have HW1 := Lib.hid hw1.symm
  have RP : Hid (∀ w', Below w1.heap.size w1 w' → w'.cell? ⟨p, 0, none⟩ = some (.slice (some ⟨B, off, none⟩) n c) ∧ w'.cell? ⟨p2, 0, none⟩ = some (.slice (some ⟨B', off', none⟩) n' c')) := Lib.hid (fun w' hb => ⟨cell_below (below_trans HB1.out hb) hp, cell_below (below_trans HB1.out hb) hp2⟩)
  have RC : Hid (∀ w', Below w1.heap.size w1 w' → (w'.cell? ⟨B, off + i * 3, none⟩ = some (.bool b) ∧ w'.cell? ⟨B, off + i * 3 + 1, none⟩ = some (.slice a1 n1 c1) ∧ w'.cell? ⟨B, off + i * 3 + 2, none⟩ = some (.slice a2 n2 c2)) ∧ (w'.cell? ⟨B', off' + i * 3, none⟩ = some (.bool b') ∧ w'.cell? ⟨B', off' + i * 3 + 1, none⟩ = some (.slice a3 n3 c3) ∧ w'.cell? ⟨B', off' + i * 3 + 2, none⟩ = some (.slice a4 n4 c4))) := Lib.hid (fun w' hb => ⟨hc w' (below_trans HB1.out hb), hc' w' (below_trans HB1.out hb)⟩)
  have hlt1 := cell_lt hp
  have hlt2 := cell_lt hp2
  have hlt3 := cell_lt (hc w (Below.refl _ _)).1
  have hlt4 := cell_lt (hc' w (Below.refl _ _)).1
  have R0 : Hid (∀ o v, (#[Value.slice none 0 0, Value.bool false, Value.slice none 0 0] : Array Value)[o]? = some v → ∀ w', Below w1.heap.size w1 w' → w'.cell? ⟨w.heap.size, o, none⟩ = some v ∧ w'.frozen? ⟨w.heap.size, o, none⟩ = false) :=
    Lib.hid (fun o v h w' hb => ⟨cells_later HR.out o v h w' hb, frozen_of_row _ _ o _ _ ((hb.block _ (lt_of_block HR.out)).trans HR.out)⟩)
  have L1 := Lib.hid hf.len
  have L2 := Lib.hid hf'.len
  have K1 : Hid (∀ w', Below w1.heap.size w1 w' → Calls Try.prog 32 #[.agg #[.bool b, .slice a1 n1 c1, .slice a2 n2 c2]] w' fun e w'' => (∃ r, e = .returned r ∧ RatQ w'' r q) ∧ Below w'.heap.size w' w'') := Lib.hid (fun w' hb => by
    obtain ⟨bb, l', m', hr', hqq, -, -⟩ := hf
    rw [hqq]; exact read_w (hr'.below (below_trans HB1.out hb)))
  have K2 : Hid (∀ w', Below w1.heap.size w1 w' → Calls Try.prog 32 #[.agg #[.bool b', .slice a3 n3 c3, .slice a4 n4 c4]] w' fun e w'' => (∃ r, e = .returned r ∧ RatQ w'' r q') ∧ Below w'.heap.size w' w'') := Lib.hid (fun w' hb => by
    obtain ⟨bb, l', m', hr', hqq, -, -⟩ := hf'
    rw [hqq]; exact read_w (hr'.below (below_trans HB1.out hb)))
  have K3 := Lib.hid (fun w' x y (h : RatQ w' x q) (k : RatQ w' y q') => rtimes_q (w := w') h k (by have := L1.out; have := L2.out; omega))
  obtain ⟨Q, hQ⟩ : ∃ Q, Q = q * q' := ⟨_, rfl⟩
  rw [← hQ] at K3 ⊢
  clear hw1 hc hc' hl hl2 hp hp2 hf hf' hq hq' hQ
  have hz1 := Below.refl w1.heap.size w1
  obtain ⟨p0, pp0⟩ := RP.out _ hz1
  obtain ⟨⟨x0, x1, x2⟩, y0, y1, y2⟩ := RC.out _ hz1
  go_enter Try.func47, Try.ntmps47
  go_wp2_with fail
  rw [HW1.out]
  have hz0 : Below w1.heap.size w1 w1.drew := below_drewN hz1 1
  go_region_held3 (fun w' => w'.cell? ⟨p, 0, none⟩ = some (.slice (some ⟨B, off, none⟩) n c) ∧ w'.cell? ⟨p2, 0, none⟩ = some (.slice (some ⟨B', off', none⟩) n' c') ∧ w'.cell? ⟨B, off + i * 3, none⟩ = some (.bool b) ∧ w'.cell? ⟨B, off + i * 3 + 1, none⟩ = some (.slice a1 n1 c1) ∧ w'.cell? ⟨B, off + i * 3 + 2, none⟩ = some (.slice a2 n2 c2) ∧ w'.cell? ⟨B', off' + i * 3, none⟩ = some (.bool b') ∧ w'.cell? ⟨B', off' + i * 3 + 1, none⟩ = some (.slice a3 n3 c3) ∧ w'.cell? ⟨B', off' + i * 3 + 2, none⟩ = some (.slice a4 n4 c4))
    (((try dsimp only); refine ⟨?_, ?_, ?_, ?_, ?_, ?_, ?_, ?_⟩ <;> (first | exact (RP.out _ (by assumption)).1 | exact (RP.out _ (by assumption)).2 | exact (RC.out _ (by assumption)).1.1 | exact (RC.out _ (by assumption)).1.2.1 | exact (RC.out _ (by assumption)).1.2.2 | exact (RC.out _ (by assumption)).2.1 | exact (RC.out _ (by assumption)).2.2.1 | exact (RC.out _ (by assumption)).2.2.2 | (rw [World.cell?_setCell_far _ _ _ _ (by dsimp only; omega), World.cell?_setCell_far _ _ _ _ (by dsimp only; omega), World.cell?_setCell_far _ _ _ _ (by dsimp only; omega)]; first | exact (RP.out _ (by assumption)).1 | exact (RP.out _ (by assumption)).2 | exact (RC.out _ (by assumption)).1.1 | exact (RC.out _ (by assumption)).1.2.1 | exact (RC.out _ (by assumption)).1.2.2 | exact (RC.out _ (by assumption)).2.1 | exact (RC.out _ (by assumption)).2.2.1 | exact (RC.out _ (by assumption)).2.2.2) | go_keep)))
    (first | (go_at_call_of 32 (Value.slice a1 n1 c1); refine (K1.out _ hz0).mono ?_; rintro en4 w4 ⟨⟨r4, rfl, h4⟩, hb4⟩; have hz4 := below_trans hz0 hb4) | (go_at_call 32; refine (K2.out _ hz4).mono ?_; rintro en5 w5 ⟨⟨r5, rfl, h5⟩, hb5⟩; have hz5 := below_trans hz4 hb5) | (go_at_call 48; refine (K3.out _ _ _ (h4.below hb5) h5).mono ?_; rintro en6 w6 ⟨⟨r6, rfl, h6⟩, hb6⟩; obtain ⟨u6, d6, rfl, hu6, hd6⟩ := h6; obtain ⟨a6, n6, c6, he6⟩ := hu6.form; subst he6; obtain ⟨i6, j6, k6, hf6⟩ := hd6.form; subst hf6; have hz6 := below_trans hz5 hb6; have r0 := (R0.out 0 _ rfl _ hz6).1; have r1 := (R0.out 1 _ rfl _ hz6).1; have r2 := (R0.out 2 _ rfl _ hz6).1; have f0 := (R0.out 0 _ rfl _ hz6).2; have f1 := (R0.out 1 _ rfl _ hz6).2; have f2 := (R0.out 2 _ rfl _ hz6).2))
  have HR6 : Hid (w6.heap[w.heap.size]? = some (.cells #[Value.slice none 0 0, Value.bool false, Value.slice none 0 0] 62 (0, 0))) := Lib.hid ((hz6.block _ (lt_of_block HR.out)).trans HR.out)
  have HB6 := Lib.hid (below_trans HB1.out hz6)
  have HU6 := Lib.hid hu6
  have HD6 := Lib.hid hd6
  clear r0 r1 r2 f0 f1 f2
  have r0 := (R0.out 0 _ rfl _ hz6).1
  have r1 := (R0.out 1 _ rfl _ hz6).1
  have r2 := (R0.out 2 _ rfl _ hz6).1
  have f0 := (R0.out 0 _ rfl _ hz6).2
  have f1 := (R0.out 1 _ rfl _ hz6).2
  have f2 := (R0.out 2 _ rfl _ hz6).2
  go_wp2_with fail
  exact bodyPost_ret (results_cell_row rfl _ _ w.heap.size _ _ _ _ rfl (rat3_heap HR6.out) Try.underlying62 rfl irat) rfl ⟨⟨_, rfl, rat3_q HR6.out HU6.out HD6.out⟩, below_only HB6.out (rat3_only _ _ _ _ _) (by omega)⟩
end Go.Proofs.Ytlaphdlocchagaa

/- Lists of fractions: sums of products. -/
namespace Go.Proofs.Ytlaphdlocchagaa
open Go.RowKit
attribute [local go_sem ↓] Go.wp_at_zero Go.wp_at_succ

set_option maxRecDepth 8000 in
set_option maxHeartbeats 2000000 in
theorem dot_wG {N : Nat} {w : World} {v v' : Value} {qs ps : List Rat} (hl : ListF N w v qs) (hl2 : ListF N w v' ps) (hN : N ≤ 50) (hn : qs.length ≤ 100) (hn2 : ps.length ≤ 100) (hNn : N * qs.length ≤ 1000) :
    Calls Try.prog 33 #[v, v'] w (RTell w (sumR (fun i => nthQ qs i * nthQ ps i) 0 (min qs.length ps.length))) := by
  obtain ⟨a, c, rfl, -⟩ := id hl
  obtain ⟨a', c', rfl, -⟩ := id hl2
  obtain ⟨n, hnn⟩ : ∃ n, n = qs.length := ⟨_, rfl⟩
  obtain ⟨n', hnn'⟩ : ∃ n, n = ps.length := ⟨_, rfl⟩
  rw [← hnn] at hl hn hNn ⊢
  rw [← hnn'] at hl2 hn2 ⊢
  obtain ⟨w1, hw1⟩ : ∃ w1, w1 = ((w.alloc (Obj.cells #[Value.slice a n c] 23)).alloc (Obj.cells #[Value.slice a' n' c'] 23)).alloc (Obj.cells #[Value.bool false, Value.slice none 0 0, Value.slice none 0 0] 34) := ⟨_, rfl⟩
  have HB1 : Hid (Below w.heap.size w w1) := Lib.hid (by rw [hw1]; exact (((Below.refl _ _).alloc (Nat.le_refl _) _).alloc (by simp) _).alloc (by simp; omega) _)
  have HX : Hid (w1.heap[w.heap.size]? = some (.cells #[Value.slice a n c] 23 (0, 0))) := Lib.hid (by rw [hw1]; exact alloc3_0 w _ _ _)
  have HY : Hid (w1.heap[w.heap.size + 1]? = some (.cells #[Value.slice a' n' c'] 23 (0, 0))) := Lib.hid (by rw [hw1]; exact alloc3_1 w _ _ _)
  have HR : Hid (w1.heap[w.heap.size + 2]? = some (.cells #[Value.bool false, Value.slice none 0 0, Value.slice none 0 0] 34 (0, 0))) := Lib.hid (by rw [hw1]; exact alloc3_new w _ _ _)
  have HW1 := Lib.hid hw1.symm
  have HL := Lib.hid (hl.below HB1.out)
  have HL2 := Lib.hid (hl2.below HB1.out)
  have RX := Lib.hid (cells_later HX.out)
  have RY := Lib.hid (cells_later HY.out)
  obtain ⟨k, hk⟩ : ∃ k, k = min n n' := ⟨_, rfl⟩
  have hsz : ∀ i, 0 ≤ i → i < k → szQ (2 * N) 1 ((fun i => nthQ qs i * nthQ ps i) i) := fun i _ hi => by
    obtain ⟨q, B, off, b, a1, n1, c1, a2, n2, c2, hq, -, -, hf⟩ := hl.at (i := i) (by omega)
    obtain ⟨q', B', off', b', a3, n3, c3, a4, n4, c4, hq', -, -, hf'⟩ := hl2.at (i := i) (by omega)
    show szQ (2 * N) 1 (nthQ qs i * nthQ ps i)
    rw [nthQ_of hq, nthQ_of hq']
    exact sz_mul (few_sz hf) (few_sz hf')
  have K1 := Lib.hid (total_dot (w0 := w1) (g := fun i => nthQ qs i * nthQ ps i) (m := 2 * N) (Lo := 0) (Hi := k) (p := w.heap.size) (p2 := w.heap.size + 1) (by omega) (by omega) hsz (fun i w' _ hi hb => dot1_w (RX.out 0 _ rfl _ hb) (RY.out 0 _ rfl _ hb) (HL.out.below hb) (HL2.out.below hb) (by omega) (by omega) (by omega) (by omega) (by omega)) k 0 k w1 (by omega) (by omega) (Nat.le_refl _) (Below.refl _ _))
  have HS := Lib.hid (sz_len (sz_sum (g := fun i => nthQ qs i * nthQ ps i) (lo := 0) (n := k) fun i h1 h2 => hsz i h1 (by omega)) (by omega))
  have HNN : Hid (2 * N * k ≤ 2000) := Lib.hid (Nat.le_trans (Nat.mul_le_mul_left (2 * N) (show k ≤ n by omega)) (by rw [Nat.mul_assoc]; omega))
  rw [← hk]
  obtain ⟨Q, hQ⟩ : ∃ Q, Q = sumR (fun i => nthQ qs i * nthQ ps i) 0 k := ⟨_, rfl⟩
  rw [← hQ] at K1 HS ⊢
  have K2 := Lib.hid (fun w' x (h : RatQ w' x Q) => tell_w (w := w') h (by have := HS.out; have := HNN.out; omega))
  rw [cut_id (by have := HS.out; have := HNN.out; omega)] at K2
  have hz1 := Below.refl w1.heap.size w1
  have x0 := RX.out 0 _ rfl _ hz1
  have y0 := RY.out 0 _ rfl _ hz1
  have hmf : ∀ (fn : Fn) (first cap : Array Value) (w : World), (Instr.makeFunc fn first cap).run Try.prog w = .ok (.func fn first cap) w := fun _ _ _ _ => rfl
  clear hw1 hl hl2 hsz hQ hnn hnn' hNn
  by_cases hle : n ≤ n'
  · have e9 : k = n := by omega
    subst e9
    clear hk
    go_enter Try.func33, Try.ntmps33
    go_upto_region 2 with fail
    rw [HW1.out]
    go_wp2_with fail
    refine K1.out.mono ?_
    rintro en2 w2 ⟨⟨v2, rfl, h2⟩, hb2⟩
    go_wp2_with fail
    refine (K2.out _ _ h2).mono ?_
    rintro en3 w3 ⟨⟨v3, rfl, f3, -⟩, hb3⟩
    obtain ⟨a3, n3, c3, i3, j3, k3, hq3⟩ := frac_form f3
    subst hq3
    have hz3 := below_trans hb2 hb3
    have HRk : Hid (w3.heap[w.heap.size + 2]? = some (.cells #[Value.bool false, Value.slice none 0 0, Value.slice none 0 0] 34 (0, 0))) := Lib.hid ((hz3.block _ (lt_of_block HR.out)).trans HR.out)
    have HFk := Lib.hid (f3.other HRk.out (frac3_only _ _ (decide (Q.num < 0)) (Value.slice a3 n3 c3) (Value.slice i3 j3 k3)))
    have HBk := Lib.hid (below_trans HB1.out hz3)
    have r0 := cells_later HRk.out 0 _ rfl _ (Below.refl _ _)
    have r1 := cells_later HRk.out 1 _ rfl _ (Below.refl _ _)
    have r2 := cells_later HRk.out 2 _ rfl _ (Below.refl _ _)
    have f0 := frozen_of_row _ _ 0 _ _ HRk.out
    have f1 := frozen_of_row _ _ 1 _ _ HRk.out
    have f2 := frozen_of_row _ _ 2 _ _ HRk.out
    clear f3
    go_wp2_with fail
    exact bodyPost_ret (results_cell_row rfl _ _ (w.heap.size + 2) _ _ _ _ rfl (frac3_heap HRk.out) Try.underlying34 rfl ifrac) rfl ⟨⟨_, rfl, HFk.out⟩, below_only HBk.out (frac3_only _ _ _ _ _) (by omega)⟩
  · have e9 : k = n' := by omega
    subst e9
    clear hk
    go_enter Try.func33, Try.ntmps33
    go_upto_region 2 with fail
    rw [HW1.out]
    go_wp2_with fail
    refine K1.out.mono ?_
    rintro en2 w2 ⟨⟨v2, rfl, h2⟩, hb2⟩
    go_wp2_with fail
    refine (K2.out _ _ h2).mono ?_
    rintro en3 w3 ⟨⟨v3, rfl, f3, -⟩, hb3⟩
    obtain ⟨a3, n3, c3, i3, j3, k3, hq3⟩ := frac_form f3
    subst hq3
    have hz3 := below_trans hb2 hb3
    have HRk : Hid (w3.heap[w.heap.size + 2]? = some (.cells #[Value.bool false, Value.slice none 0 0, Value.slice none 0 0] 34 (0, 0))) := Lib.hid ((hz3.block _ (lt_of_block HR.out)).trans HR.out)
    have HFk := Lib.hid (f3.other HRk.out (frac3_only _ _ (decide (Q.num < 0)) (Value.slice a3 n3 c3) (Value.slice i3 j3 k3)))
    have HBk := Lib.hid (below_trans HB1.out hz3)
    have r0 := cells_later HRk.out 0 _ rfl _ (Below.refl _ _)
    have r1 := cells_later HRk.out 1 _ rfl _ (Below.refl _ _)
    have r2 := cells_later HRk.out 2 _ rfl _ (Below.refl _ _)
    have f0 := frozen_of_row _ _ 0 _ _ HRk.out
    have f1 := frozen_of_row _ _ 1 _ _ HRk.out
    have f2 := frozen_of_row _ _ 2 _ _ HRk.out
    clear f3
    go_wp2_with fail
    exact bodyPost_ret (results_cell_row rfl _ _ (w.heap.size + 2) _ _ _ _ rfl (frac3_heap HRk.out) Try.underlying34 rfl ifrac) rfl ⟨⟨_, rfl, HFk.out⟩, below_only HBk.out (frac3_only _ _ _ _ _) (by omega)⟩
theorem dot_w {N : Nat} {w : World} {v v' : Value} {qs ps : List Rat} (hl : ListF N w v qs) (hl2 : ListF N w v' ps) (hN : N ≤ 50) (hn : qs.length ≤ 20) (hn2 : ps.length ≤ 20) :
    Calls Try.prog 33 #[v, v'] w (RTell w (sumR (fun i => nthQ qs i * nthQ ps i) 0 (min qs.length ps.length))) :=
  dot_wG hl hl2 hN (by omega) (by omega) (Nat.le_trans (Nat.mul_le_mul hN hn) (by omega))
end Go.Proofs.Ytlaphdlocchagaa

/- Lists of fractions: the first best one; the reference. -/
namespace Go.Proofs.Ytlaphdlocchagaa
open Go.RowKit
attribute [local go_sem ↓] Go.wp_at_zero Go.wp_at_succ

/-- The place of the first best one among the first i, on one side. -/
def bst (side : Int) (qs : List Rat) : Nat → Option Nat
  | 0 => none
  | i + 1 => match bst side qs i with
    | none => some i
    | some a => if cmpQ (nthQ qs i) (nthQ qs a) = side then some i else some a
def bstI (side : Int) (qs : List Rat) (i : Nat) : Int := match bst side qs i with
  | none => -1
  | some a => (a : Nat)
theorem bst_lt {side : Int} {qs : List Rat} : ∀ {i a : Nat}, bst side qs i = some a → a < i
  | 0, a, h => by simp [bst] at h
  | i + 1, a, h => by
    unfold bst at h
    cases hb : bst side qs i with
    | none => rw [hb] at h; simp at h; omega
    | some c =>
      rw [hb] at h
      have := bst_lt hb
      simp only at h
      split at h <;> simp at h <;> omega
theorem bst_none {side : Int} {qs : List Rat} : ∀ {i : Nat}, bst side qs i = none → i = 0
  | 0, _ => rfl
  | i + 1, h => by
    unfold bst at h
    cases hb : bst side qs i with
    | none => rw [hb] at h; simp at h
    | some c => rw [hb] at h; simp only at h; split at h <;> simp at h
theorem bst_new {side : Int} {qs : List Rat} {i : Nat} (h : bst side qs i = none) : bst side qs (i + 1) = some i := by unfold bst; rw [h]
theorem bst_yes {side : Int} {qs : List Rat} {i a : Nat} (h : bst side qs i = some a) (hc : cmpQ (nthQ qs i) (nthQ qs a) = side) : bst side qs (i + 1) = some i := by unfold bst; rw [h]; simp [hc]
theorem bst_no {side : Int} {qs : List Rat} {i a : Nat} (h : bst side qs i = some a) (hc : ¬ cmpQ (nthQ qs i) (nthQ qs a) = side) : bst side qs (i + 1) = some a := by unfold bst; rw [h]; simp [hc]

end Go.Proofs.Ytlaphdlocchagaa

/- Lists of fractions: the first best one; the program. -/
namespace Go.Proofs.Ytlaphdlocchagaa
open Go.RowKit
attribute [local go_sem ↓] Go.wp_at_zero Go.wp_at_succ

theorem rat_form {w : World} {r : Value} {q : Rat} (h : RatQ w r q) : ∃ a n c b i j k, r = .agg #[.slice a n c, .bool b, .slice i j k] := by
  obtain ⟨u, d, rfl, hu, hd⟩ := h
  obtain ⟨a, n, c, rfl⟩ := hu.form
  obtain ⟨i, j, k, rfl⟩ := hd.form
  exact ⟨a, n, c, _, i, j, k, rfl⟩
theorem RatQ.other {w w' : World} {v : Value} {q : Rat} {B : Nat} {t : TypeId} {fr : Nat × Nat} {b : Bool} {a i : Option Addr} {n c j k : Nat} (h : RatQ w v q) (hB : w.heap[B]? = some (.cells #[Value.slice a n c, Value.bool b, Value.slice i j k] t fr)) (ho : Only B w w') : RatQ w' v q := by
  obtain ⟨u, d, rfl, hu, hd⟩ := h
  exact ⟨u, d, rfl, hu.other hB (rat_cells ⟨_, _, _, rfl⟩ ⟨_, _, _, rfl⟩) ho, hd.other hB (rat_cells ⟨_, _, _, rfl⟩ ⟨_, _, _, rfl⟩) ho⟩

end Go.Proofs.Ytlaphdlocchagaa

/- Lists of fractions: sums of the reference. -/
namespace Go.Proofs.Ytlaphdlocchagaa
open Go.RowKit
attribute [local go_sem ↓] Go.wp_at_zero Go.wp_at_succ

theorem radd_v {w : World} {v t : Value} {P S Q : Rat} (hv : FracV w v P) (ht : FracV w t S) (h1 : lenQ P ≤ 4096) (h2 : lenQ S ≤ 4096) (h3 : lenQ Q ≤ 4096) (hQ : P + S = Q) :
    Calls Try.prog 36 #[v, t] w (RTell w Q) := by
  subst hQ
  have h := radd_w hv.raw ht.raw h1 h2
  rw [fix_digs h1, fix_digs h2, cut_id h3] at h
  exact h
theorem radd_m {n : Nat} {w : World} {v t : Value} {P S Q : Rat} (hv : FracV w v P) (ht : FewF n w t S) (hn : n ≤ 100) (h1 : lenQ P ≤ 4096) (h3 : lenQ Q ≤ 4096) (hQ : P + S = Q) :
    Calls Try.prog 36 #[v, t] w (RTell w Q) := by
  subst hQ
  obtain ⟨b', l', m', hr, rfl, hl2, hm2⟩ := ht
  have h := radd_w hv.raw hr h1 (by omega)
  rw [fix_digs h1, cut_id h3] at h
  exact h
theorem few_zero {N : Nat} {w : World} {b : Bool} {a1 a2 : Option Addr} {n1 c1 n2 c2 : Nat} {q : Rat} (h : FewF N w (.agg #[.bool b, .slice a1 n1 c1, .slice a2 n2 c2]) q) (h0 : n1 = 0) : q = 0 := by
  obtain ⟨b', l, m, ⟨u, d, he, hu, hd⟩, hq, -, -⟩ := h
  simp only [Value.agg.injEq, Array.mk.injEq, List.cons.injEq, and_true] at he
  obtain ⟨-, rfl, rfl⟩ := he
  have hl : l = [] := List.eq_nil_of_length_eq_zero (by rw [← hu.lenE]; exact h0)
  rw [hq]
  cases hR : rightB b' l m with
  | false => unfold fixR; rw [hR]; rfl
  | true =>
    obtain ⟨e1, -, -, -⟩ := right_rat hu.ws hd.ws hR
    rw [hl] at e1
    have h9 : (fixR b' [] m).num.natAbs = 0 := by
      rw [← hl]
      rcases Nat.eq_zero_or_pos (fixR b' l m).num.natAbs with h | h
      · exact h
      · rw [hl] at h
        rw [digs_pos (by omega)] at e1; simp at e1
    rw [hl]
    exact Rat.num_eq_zero.1 (by omega)
theorem sumR_next (g : Nat → Rat) (i : Nat) : sumR g 0 i + g i = sumR g 0 (i + 1) := by
  show _ = sumR g 0 i + g (0 + i)
  rw [Nat.zero_add]

end Go.Proofs.Ytlaphdlocchagaa
