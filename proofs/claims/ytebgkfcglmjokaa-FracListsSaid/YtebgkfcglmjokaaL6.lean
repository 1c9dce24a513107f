/- Several texts in one: F1, F2, F3, F4, F5, F6, F7, F8, F9, G1, G2, G3, H1, H2, H3. -/
import Derived.Test.YtebgkfcglmjokaaU
import Derived.Deep.DrawnRows
import Derived.Deep.DeepCutAuto
import Derived.Deep.AppendLies
import Derived.Test.YtebgkfcglmjokaaLc
import Derived.Test.YtebgkfcglmjokaaRows
import Derived.WalkKit
import Derived.ProofKit
/- Lists of fractions: sums, and how long they can be. -/
namespace Go.Proofs.Ytebgkfcglmjokaa
open Go.RowKit

/-- A number as long as a sum of k fractions of m words each can be. -/
def szQ (m k : Nat) (q : Rat) : Prop := q.den ≤ (4294967296 ^ m) ^ k ∧ q.num.natAbs ≤ k * (4294967296 ^ m) ^ k
theorem sz_zero (m : Nat) : szQ m 0 0 := ⟨by simp, by simp⟩
theorem mk_le {z : Int} {y : Nat} (hy : y ≠ 0) : (mkRat z y).num.natAbs ≤ z.natAbs ∧ (mkRat z y).den ≤ y := by
  obtain ⟨h1, h2, -⟩ := low_facts (z := z) hy
  exact ⟨by rw [h1]; exact Nat.div_le_self _ _, by rw [h2]; exact Nat.div_le_self _ _⟩
theorem sz_add {m k j : Nat} {q p : Rat} (h1 : szQ m k q) (h2 : szQ m j p) : szQ m (k + j) (q + p) := by
  unfold szQ at *
  generalize 4294967296 ^ m = B at *
  obtain ⟨a1, a2⟩ := h1
  obtain ⟨b1, b2⟩ := h2
  have h3 := mk_le (z := q.num * p.den + p.num * q.den) (y := q.den * p.den) (Nat.mul_ne_zero q.den_nz p.den_nz)
  rw [← Rat.add_def'] at h3
  have e : B ^ (k + j) = B ^ k * B ^ j := Nat.pow_add _ _ _
  refine ⟨Nat.le_trans h3.2 (by rw [e]; exact Nat.mul_le_mul a1 b1), Nat.le_trans h3.1 ?_⟩
  refine Nat.le_trans (Int.natAbs_add_le _ _) ?_
  rw [Int.natAbs_mul, Int.natAbs_mul, Int.natAbs_natCast, Int.natAbs_natCast, Nat.add_mul, e]
  refine Nat.add_le_add ?_ ?_
  · rw [← Nat.mul_assoc]
    exact Nat.mul_le_mul a2 b1
  · rw [Nat.mul_comm (B ^ k), ← Nat.mul_assoc]
    exact Nat.mul_le_mul b2 a1
theorem sz_len {m k : Nat} {q : Rat} (h : szQ m k q) (hk : k < 4294967296) : lenQ q ≤ 2 * (m * k) + 2 := by
  obtain ⟨h1, h2⟩ := h
  have e : ((4294967296 : Nat) ^ m) ^ k = 4294967296 ^ (m * k) := (Nat.pow_mul _ _ _).symm
  rw [e] at h1 h2
  have hp : 0 < (4294967296 : Nat) ^ (m * k) := Nat.pow_pos (by omega)
  have e2 : (4294967296 : Nat) ^ (m * k + 1) = 4294967296 ^ (m * k) * 4294967296 := Nat.pow_succ _ _
  generalize hG : (4294967296 : Nat) ^ (m * k) = G at *
  have l1 : (digs q.den).length ≤ m * k + 1 := len_digs_le.2 (by rw [e2]; omega)
  have l2 : (digs q.num.natAbs).length ≤ m * k + 1 := len_digs_le.2 (by
    rw [e2]
    refine Nat.lt_of_le_of_lt h2 ?_
    rw [Nat.mul_comm]
    exact Nat.mul_lt_mul_of_pos_left hk hp)
  unfold lenQ; omega
theorem few_sz {n : Nat} {w : World} {v : Value} {q : Rat} (h : FewF n w v q) : szQ n 1 q := by
  obtain ⟨b, l, m, hr, rfl, hl, hm⟩ := h
  obtain ⟨u, d, -, hu, hd⟩ := hr
  unfold szQ
  rw [Nat.pow_one, Nat.one_mul]
  cases hR : rightB b l m with
  | true =>
    obtain ⟨e1, e2, -, -⟩ := right_rat hu.ws hd.ws hR
    have f1 := val_digs (fixR b l m).num.natAbs
    rw [← e1] at f1
    have f2 := val_digs (fixR b l m).den
    rw [← e2] at f2
    have g1 := val_lt hu.ws
    have g2 := val_lt hd.ws
    have k1 := Nat.pow_le_pow_right (n := 4294967296) (by omega) hl
    have k2 := Nat.pow_le_pow_right (n := 4294967296) (by omega) hm
    exact ⟨by omega, by omega⟩
  | false =>
    have e : fixR b l m = 0 := by unfold fixR; rw [hR]; rfl
    rw [e]
    exact ⟨Nat.pow_pos (by omega), by simp⟩
theorem sz_mul {m : Nat} {q p : Rat} (h1 : szQ m 1 q) (h2 : szQ m 1 p) : szQ (2 * m) 1 (q * p) := by
  unfold szQ at *
  rw [Nat.pow_one, Nat.one_mul] at *
  have e : (4294967296 : Nat) ^ (2 * m) = 4294967296 ^ m * 4294967296 ^ m := by rw [Nat.two_mul, Nat.pow_add]
  rw [e]
  generalize 4294967296 ^ m = B at *
  have h3 := mk_le (z := q.num * p.num) (y := q.den * p.den) (Nat.mul_ne_zero q.den_nz p.den_nz)
  rw [← Rat.mul_def'] at h3
  exact ⟨Nat.le_trans h3.2 (Nat.mul_le_mul h1.1 h2.1), Nat.le_trans h3.1 (by rw [Int.natAbs_mul]; exact Nat.mul_le_mul h1.2 h2.2)⟩

/-- The sum of n terms from one place on. -/
def sumR (g : Nat → Rat) (lo : Nat) : Nat → Rat
  | 0 => 0
  | n + 1 => sumR g lo n + g (lo + n)
theorem sumR_split (g : Nat → Rat) (lo a : Nat) : ∀ b, sumR g lo (a + b) = sumR g lo a + sumR g (lo + a) b
  | 0 => by rw [Nat.add_zero]; show _ = sumR g lo a + 0; rw [Rat.add_zero]
  | b + 1 => by
    show sumR g lo (a + b) + g (lo + (a + b)) = _
    rw [sumR_split g lo a b]
    show _ = sumR g lo a + (sumR g (lo + a) b + g (lo + a + b))
    rw [Rat.add_assoc, Nat.add_assoc]
theorem sz_sum {m : Nat} {g : Nat → Rat} {lo : Nat} : ∀ {n : Nat}, (∀ i, lo ≤ i → i < lo + n → szQ m 1 (g i)) → szQ m n (sumR g lo n)
  | 0, _ => sz_zero m
  | n + 1, h => sz_add (sz_sum fun i h1 h2 => h i h1 (by omega)) (h (lo + n) (by omega) (by omega))
theorem sumR_one (g : Nat → Rat) (lo : Nat) : sumR g lo 1 = g lo := by
  show 0 + g (lo + 0) = _
  rw [Rat.zero_add, Nat.add_zero]

/-- A list of fractions of at most N words each. -/
def ListF (N : Nat) (w : World) (v : Value) (qs : List Rat) : Prop :=
  ∃ a c, v = .slice a qs.length c ∧ ∀ i q, qs[i]? = some q → ∃ B off b a1 n1 c1 a2 n2 c2, a = some ⟨B, off, none⟩ ∧ w.cell? ⟨B, off + i * 3, none⟩ = some (.bool b) ∧ w.cell? ⟨B, off + i * 3 + 1, none⟩ = some (.slice a1 n1 c1) ∧ w.cell? ⟨B, off + i * 3 + 2, none⟩ = some (.slice a2 n2 c2) ∧ FewF N w (.agg #[.bool b, .slice a1 n1 c1, .slice a2 n2 c2]) q
theorem ListF.below {N : Nat} {w w' : World} {v : Value} {qs : List Rat} (h : ListF N w v qs) (hb : Below w.heap.size w w') : ListF N w' v qs := by
  obtain ⟨a, c, hv, h⟩ := h
  refine ⟨a, c, hv, fun i q hi => ?_⟩
  obtain ⟨B, off, b, a1, n1, c1, a2, n2, c2, ha, h0, h1, h2, hf⟩ := h i q hi
  exact ⟨B, off, b, a1, n1, c1, a2, n2, c2, ha, cell_below hb h0, cell_below hb h1, cell_below hb h2, hf.below hb⟩
/-- An element of a list, as the walk reads it. -/
theorem ListF.at {N : Nat} {w : World} {a : Option Addr} {n c : Nat} {qs : List Rat} (h : ListF N w (.slice a n c) qs) {i : Nat} (hi : i < n) :
    ∃ q B off b a1 n1 c1 a2 n2 c2, qs[i]? = some q ∧ a = some ⟨B, off, none⟩ ∧ (∀ w', Below w.heap.size w w' → w'.cell? ⟨B, off + i * 3, none⟩ = some (.bool b) ∧ w'.cell? ⟨B, off + i * 3 + 1, none⟩ = some (.slice a1 n1 c1) ∧ w'.cell? ⟨B, off + i * 3 + 2, none⟩ = some (.slice a2 n2 c2)) ∧ FewF N w (.agg #[.bool b, .slice a1 n1 c1, .slice a2 n2 c2]) q := by
  obtain ⟨a', c', hv, h⟩ := h
  simp only [Value.slice.injEq] at hv
  obtain ⟨rfl, rfl, rfl⟩ := hv
  obtain ⟨B, off, b, a1, n1, c1, a2, n2, c2, ha, h0, h1, h2, hf⟩ := h i (qs[i]'hi) (List.getElem?_eq_getElem hi)
  exact ⟨qs[i], B, off, b, a1, n1, c1, a2, n2, c2, List.getElem?_eq_getElem hi, ha, fun w' hb => ⟨cell_below hb h0, cell_below hb h1, cell_below hb h2⟩, hf⟩
theorem ListF.len {N : Nat} {w : World} {a : Option Addr} {n c : Nat} {qs : List Rat} (h : ListF N w (.slice a n c) qs) : n = qs.length := by
  obtain ⟨a', c', hv, -⟩ := h
  simp only [Value.slice.injEq] at hv
  exact hv.2.1
def nthQ (qs : List Rat) (i : Nat) : Rat := (qs[i]?).getD 0
theorem nthQ_of {qs : List Rat} {i : Nat} {q : Rat} (h : qs[i]? = some q) : nthQ qs i = q := by unfold nthQ; rw [h]; rfl
end Go.Proofs.Ytebgkfcglmjokaa

/- Lists of fractions: the terms added up by halves. -/
namespace Go.Proofs.Ytebgkfcglmjokaa
open Go.RowKit
attribute [local go_sem ↓] Go.wp_at_zero Go.wp_at_succ

set_option maxRecDepth 8000 in
set_option maxHeartbeats 2000000 in
theorem total_sum {w0 : World} {g : Nat → Rat} {m Lo Hi : Nat} {p : Nat} (hm : m ≤ 100) (hHi : Hi ≤ 1000) (hsz : ∀ i, Lo ≤ i → i < Hi → szQ m 1 (g i))
    (Hf : ∀ i w', Lo ≤ i → i < Hi → Below w0.heap.size w0 w' → Calls Try.prog 92 #[.int .i64 (i : Nat), .pointer (some ⟨p, 0, none⟩)] w' fun e w'' => (∃ r, e = .returned r ∧ RatQ w'' r (g i)) ∧ Below w'.heap.size w' w'') :
    ∀ (n lo hi : Nat) (w : World), lo + n = hi → Lo ≤ lo → hi ≤ Hi → Below w0.heap.size w0 w →
    Calls Try.prog 91 #[.int .i64 (lo : Nat), .int .i64 (hi : Nat), .func (.func 92) #[] #[.pointer (some ⟨p, 0, none⟩)]] w fun e w' => (∃ r, e = .returned r ∧ RatQ w' r (sumR g lo n)) ∧ Below w.heap.size w w' := by
  have HF := Lib.hid Hf
  have HSZ := Lib.hid hsz
  clear Hf hsz
  intro n
  induction n using Nat.strongRecOn with
  | _ n IH =>
    intro lo hi w hn hlo hhi hb
    have HIH := Lib.hid IH
    clear IH
    have HB := Lib.hid hb
    have hd0 : (hi : Int) - (lo : Int) = (n : Int) := by omega
    obtain ⟨w1, hw1⟩ : ∃ w1, w1 = w.alloc (Obj.cells #[Value.slice none 0 0, Value.bool false, Value.slice none 0 0] 63) := ⟨_, rfl⟩
    have HB1 : Hid (Below w.heap.size w w1) := Lib.hid (by rw [hw1]; exact (Below.refl _ _).alloc (Nat.le_refl _) _)
    have HR : Hid (w1.heap[w.heap.size]? = some (.cells #[Value.slice none 0 0, Value.bool false, Value.slice none 0 0] 63 (0, 0))) := Lib.hid (by rw [hw1]; exact heap_alloc_new w _)
    have HW1 := Lib.hid hw1.symm
    have hz1 := below_trans hb HB1.out
    have HZ1 := Lib.hid hz1
    clear hw1 hb hz1
    have hn9 : n ≤ 1000 := by omega
    have hhi9 : hi ≤ 1000 := by omega
    by_cases h0 : n = 0
    · have t0 : ((n : Int) == 0) = true := by simp; omega
      have HS : Hid (sumR g lo n = 0) := Lib.hid (by rw [h0]; rfl)
      rw [HS.out]
      clear h0
      go_enter Try.func91, Try.ntmps91
      go_wp2_with fail
      rw [HW1.out]
      refine zero_w.mono ?_
      rintro en2 w2 ⟨⟨v2, rfl, u2, d2, rfl, hu2, hd2⟩, hb2⟩
      obtain ⟨a2, n2, c2, he2⟩ := hu2.form
      subst he2
      obtain ⟨i2, j2, k2, hf2⟩ := hd2.form
      subst hf2
      have HR2 : Hid (w2.heap[w.heap.size]? = some (.cells #[Value.slice none 0 0, Value.bool false, Value.slice none 0 0] 63 (0, 0))) := Lib.hid ((hb2.block _ (lt_of_block HR.out)).trans HR.out)
      have HB2 := Lib.hid (below_trans HB1.out hb2)
      have HU2 := Lib.hid hu2
      have HD2 := Lib.hid hd2
      have r0 := cells_later HR2.out 0 _ rfl _ (Below.refl _ _)
      have r1 := cells_later HR2.out 1 _ rfl _ (Below.refl _ _)
      have r2 := cells_later HR2.out 2 _ rfl _ (Below.refl _ _)
      have f0 := frozen_of_row _ _ 0 _ _ HR2.out
      have f1 := frozen_of_row _ _ 1 _ _ HR2.out
      have f2 := frozen_of_row _ _ 2 _ _ HR2.out
      clear hu2 hd2 hb2
      go_wp2_with fail
      exact bodyPost_ret (results_cell_row rfl _ _ w.heap.size _ _ _ _ rfl (rat3_heap HR2.out) Try.underlying63 rfl irat) rfl ⟨⟨_, rfl, rat3_q (q := 0) HR2.out HU2.out HD2.out⟩, below_only HB2.out (rat3_only _ _ _ _ _) (by omega)⟩
    · have t0 : ((n : Int) == 0) = false := by simp; omega
      by_cases h1 : n = 1
      · have t1 : ((n : Int) == 1) = true := by simp; omega
        have HS : Hid (sumR g lo n = g lo) := Lib.hid (by rw [h1]; exact sumR_one g lo)
        rw [HS.out]
        have K := Lib.hid (HF.out lo w1 hlo (by omega) HZ1.out)
        obtain ⟨q, hq⟩ : ∃ q, q = g lo := ⟨_, rfl⟩
        rw [← hq] at K ⊢
        clear h0 h1 hq
        go_enter Try.func91, Try.ntmps91
        go_wp2_with fail
        rw [HW1.out]
        refine K.out.mono ?_
        rintro en2 w2 ⟨⟨v2, rfl, h2⟩, hb2⟩
        obtain ⟨u2, d2, rfl, hu2, hd2⟩ := h2
        obtain ⟨a2, n2, c2, he2⟩ := hu2.form
        subst he2
        obtain ⟨i2, j2, k2, hf2⟩ := hd2.form
        subst hf2
        have HR2 : Hid (w2.heap[w.heap.size]? = some (.cells #[Value.slice none 0 0, Value.bool false, Value.slice none 0 0] 63 (0, 0))) := Lib.hid ((hb2.block _ (lt_of_block HR.out)).trans HR.out)
        have HB2 := Lib.hid (below_trans HB1.out hb2)
        have HU2 := Lib.hid hu2
        have HD2 := Lib.hid hd2
        have r0 := cells_later HR2.out 0 _ rfl _ (Below.refl _ _)
        have r1 := cells_later HR2.out 1 _ rfl _ (Below.refl _ _)
        have r2 := cells_later HR2.out 2 _ rfl _ (Below.refl _ _)
        have f0 := frozen_of_row _ _ 0 _ _ HR2.out
        have f1 := frozen_of_row _ _ 1 _ _ HR2.out
        have f2 := frozen_of_row _ _ 2 _ _ HR2.out
        clear hu2 hd2 hb2
        go_wp2_with fail
        exact bodyPost_ret (results_cell_row rfl _ _ w.heap.size _ _ _ _ rfl (rat3_heap HR2.out) Try.underlying63 rfl irat) rfl ⟨⟨_, rfl, rat3_q HR2.out HU2.out HD2.out⟩, below_only HB2.out (rat3_only _ _ _ _ _) (by omega)⟩
      · have t1 : ((n : Int) == 1) = false := by simp; omega
        obtain ⟨k, hk⟩ : ∃ k, k = n / 2 := ⟨_, rfl⟩
        obtain ⟨mid, hmid⟩ : ∃ x, x = lo + k := ⟨_, rfl⟩
        have e1 : (n : Int) / 2 = (k : Int) := by omega
        have e1' : Int.tdiv (n : Int) 2 = (k : Int) := by rw [Int.tdiv_eq_ediv_of_nonneg (by omega)]; omega
        have e2 : (lo : Int) + (k : Int) = (mid : Int) := by omega
        have hmid9 : mid ≤ 1000 := by omega
        have HSP : Hid (sumR g lo n = sumR g lo k + sumR g mid (n - k)) := Lib.hid (by
          have h9 := sumR_split g lo k (n - k)
          rw [show k + (n - k) = n by omega, ← hmid] at h9
          exact h9)
        have K1 := Lib.hid (HIH.out k (by omega) lo mid w1 hmid.symm hlo (by omega) HZ1.out)
        have K2 := Lib.hid (fun w' (hb : Below w0.heap.size w0 w') => HIH.out (n - k) (by omega) mid hi w' (by omega) (by omega) hhi hb)
        have L1 := Lib.hid (sz_len (m := m) (k := k) (sz_sum (g := g) (lo := lo) fun i h1 h2 => HSZ.out i (by omega) (by omega)) (by omega))
        have L2 := Lib.hid (sz_len (m := m) (k := n - k) (sz_sum (g := g) (lo := mid) fun i h1 h2 => HSZ.out i (by omega) (by omega)) (by omega))
        have HMK : Hid (m * k ≤ 100000 ∧ m * (n - k) ≤ 100000) := Lib.hid ⟨Nat.le_trans (Nat.mul_le_mul hm (show k ≤ 1000 by omega)) (by omega), Nat.le_trans (Nat.mul_le_mul hm (show n - k ≤ 1000 by omega)) (by omega)⟩
        obtain ⟨P, hP⟩ : ∃ P, P = sumR g lo k := ⟨_, rfl⟩
        obtain ⟨S, hS⟩ : ∃ S, S = sumR g mid (n - k) := ⟨_, rfl⟩
        rw [← hP] at K1 L1 HSP
        rw [← hS] at K2 L2 HSP
        rw [HSP.out]
        have K3 := Lib.hid (fun w' x y (h : RatQ w' x P) (k' : RatQ w' y S) => rplus_q (w := w') h k' (by have := L1.out; have := L2.out; have := HMK.out.1; have := HMK.out.2; omega))
        obtain ⟨Q, hQ⟩ : ∃ Q, Q = P + S := ⟨_, rfl⟩
        rw [← hQ] at K3 ⊢
        have hdd : (n : Int) = (hi : Int) - (lo : Int) := by omega
        clear h0 h1 hk hmid hP hS hQ HIH hdd
        go_enter Try.func91, Try.ntmps91
        go_wp2_with fail
        rw [HW1.out]
        refine K1.out.mono ?_
        rintro en2 w2 ⟨⟨v2, rfl, h2⟩, hb2⟩
        go_wp2_with fail
        refine (K2.out _ (below_trans HZ1.out hb2)).mono ?_
        rintro en3 w3 ⟨⟨v3, rfl, h3⟩, hb3⟩
        go_wp2_with fail
        refine (K3.out _ _ _ (h2.below hb3) h3).mono ?_
        rintro en4 w4 ⟨⟨v4, rfl, h4⟩, hb4⟩
        obtain ⟨u4, d4, rfl, hu4, hd4⟩ := h4
        obtain ⟨a4, n4, c4, he4⟩ := hu4.form
        subst he4
        obtain ⟨i4, j4, k4, hf4⟩ := hd4.form
        subst hf4
        have hz4 := below_trans hb2 (below_trans hb3 hb4)
        have HR4 : Hid (w4.heap[w.heap.size]? = some (.cells #[Value.slice none 0 0, Value.bool false, Value.slice none 0 0] 63 (0, 0))) := Lib.hid ((hz4.block _ (lt_of_block HR.out)).trans HR.out)
        have HB4 := Lib.hid (below_trans HB1.out hz4)
        have HU4 := Lib.hid hu4
        have HD4 := Lib.hid hd4
        have r0 := cells_later HR4.out 0 _ rfl _ (Below.refl _ _)
        have r1 := cells_later HR4.out 1 _ rfl _ (Below.refl _ _)
        have r2 := cells_later HR4.out 2 _ rfl _ (Below.refl _ _)
        have f0 := frozen_of_row _ _ 0 _ _ HR4.out
        have f1 := frozen_of_row _ _ 1 _ _ HR4.out
        have f2 := frozen_of_row _ _ 2 _ _ HR4.out
        clear hu4 hd4 hb2 hb3 hb4 hz4 h2 h3
        go_wp2_with fail
        exact bodyPost_ret (results_cell_row rfl _ _ w.heap.size _ _ _ _ rfl (rat3_heap HR4.out) Try.underlying63 rfl irat) rfl ⟨⟨_, rfl, rat3_q HR4.out HU4.out HD4.out⟩, below_only HB4.out (rat3_only _ _ _ _ _) (by omega)⟩
end Go.Proofs.Ytebgkfcglmjokaa

/- Lists of fractions: the terms of products added up by halves. -/
namespace Go.Proofs.Ytebgkfcglmjokaa
open Go.RowKit
attribute [local go_sem ↓] Go.wp_at_zero Go.wp_at_succ

set_option maxRecDepth 8000 in
set_option maxHeartbeats 2000000 in
theorem total_dot {w0 : World} {g : Nat → Rat} {m Lo Hi : Nat} {p p2 : Nat} (hm : m ≤ 100) (hHi : Hi ≤ 1000) (hsz : ∀ i, Lo ≤ i → i < Hi → szQ m 1 (g i))
    (Hf : ∀ i w', Lo ≤ i → i < Hi → Below w0.heap.size w0 w' → Calls Try.prog 93 #[.int .i64 (i : Nat), .pointer (some ⟨p, 0, none⟩), .pointer (some ⟨p2, 0, none⟩)] w' fun e w'' => (∃ r, e = .returned r ∧ RatQ w'' r (g i)) ∧ Below w'.heap.size w' w'') :
    ∀ (n lo hi : Nat) (w : World), lo + n = hi → Lo ≤ lo → hi ≤ Hi → Below w0.heap.size w0 w →
    Calls Try.prog 91 #[.int .i64 (lo : Nat), .int .i64 (hi : Nat), .func (.func 93) #[] #[.pointer (some ⟨p, 0, none⟩), .pointer (some ⟨p2, 0, none⟩)]] w fun e w' => (∃ r, e = .returned r ∧ RatQ w' r (sumR g lo n)) ∧ Below w.heap.size w w' := by
  have HF := Lib.hid Hf
  have HSZ := Lib.hid hsz
  clear Hf hsz
  intro n
  induction n using Nat.strongRecOn with
  | _ n IH =>
    intro lo hi w hn hlo hhi hb
    have HIH := Lib.hid IH
    clear IH
    have HB := Lib.hid hb
    have hd0 : (hi : Int) - (lo : Int) = (n : Int) := by omega
    obtain ⟨w1, hw1⟩ : ∃ w1, w1 = w.alloc (Obj.cells #[Value.slice none 0 0, Value.bool false, Value.slice none 0 0] 63) := ⟨_, rfl⟩
    have HB1 : Hid (Below w.heap.size w w1) := Lib.hid (by rw [hw1]; exact (Below.refl _ _).alloc (Nat.le_refl _) _)
    have HR : Hid (w1.heap[w.heap.size]? = some (.cells #[Value.slice none 0 0, Value.bool false, Value.slice none 0 0] 63 (0, 0))) := Lib.hid (by rw [hw1]; exact heap_alloc_new w _)
    have HW1 := Lib.hid hw1.symm
    have hz1 := below_trans hb HB1.out
    have HZ1 := Lib.hid hz1
    clear hw1 hb hz1
    have hn9 : n ≤ 1000 := by omega
    have hhi9 : hi ≤ 1000 := by omega
    by_cases h0 : n = 0
    · have t0 : ((n : Int) == 0) = true := by simp; omega
      have HS : Hid (sumR g lo n = 0) := Lib.hid (by rw [h0]; rfl)
      rw [HS.out]
      clear h0
      go_enter Try.func91, Try.ntmps91
      go_wp2_with fail
      rw [HW1.out]
      refine zero_w.mono ?_
      rintro en2 w2 ⟨⟨v2, rfl, u2, d2, rfl, hu2, hd2⟩, hb2⟩
      obtain ⟨a2, n2, c2, he2⟩ := hu2.form
      subst he2
      obtain ⟨i2, j2, k2, hf2⟩ := hd2.form
      subst hf2
      have HR2 : Hid (w2.heap[w.heap.size]? = some (.cells #[Value.slice none 0 0, Value.bool false, Value.slice none 0 0] 63 (0, 0))) := Lib.hid ((hb2.block _ (lt_of_block HR.out)).trans HR.out)
      have HB2 := Lib.hid (below_trans HB1.out hb2)
      have HU2 := Lib.hid hu2
      have HD2 := Lib.hid hd2
      have r0 := cells_later HR2.out 0 _ rfl _ (Below.refl _ _)
      have r1 := cells_later HR2.out 1 _ rfl _ (Below.refl _ _)
      have r2 := cells_later HR2.out 2 _ rfl _ (Below.refl _ _)
      have f0 := frozen_of_row _ _ 0 _ _ HR2.out
      have f1 := frozen_of_row _ _ 1 _ _ HR2.out
      have f2 := frozen_of_row _ _ 2 _ _ HR2.out
      clear hu2 hd2 hb2
      go_wp2_with fail
      exact bodyPost_ret (results_cell_row rfl _ _ w.heap.size _ _ _ _ rfl (rat3_heap HR2.out) Try.underlying63 rfl irat) rfl ⟨⟨_, rfl, rat3_q (q := 0) HR2.out HU2.out HD2.out⟩, below_only HB2.out (rat3_only _ _ _ _ _) (by omega)⟩
    · have t0 : ((n : Int) == 0) = false := by simp; omega
      by_cases h1 : n = 1
      · have t1 : ((n : Int) == 1) = true := by simp; omega
        have HS : Hid (sumR g lo n = g lo) := Lib.hid (by rw [h1]; exact sumR_one g lo)
        rw [HS.out]
        have K := Lib.hid (HF.out lo w1 hlo (by omega) HZ1.out)
        obtain ⟨q, hq⟩ : ∃ q, q = g lo := ⟨_, rfl⟩
        rw [← hq] at K ⊢
        clear h0 h1 hq
        go_enter Try.func91, Try.ntmps91
        go_wp2_with fail
        rw [HW1.out]
        refine K.out.mono ?_
        rintro en2 w2 ⟨⟨v2, rfl, h2⟩, hb2⟩
        obtain ⟨u2, d2, rfl, hu2, hd2⟩ := h2
        obtain ⟨a2, n2, c2, he2⟩ := hu2.form
        subst he2
        obtain ⟨i2, j2, k2, hf2⟩ := hd2.form
        subst hf2
        have HR2 : Hid (w2.heap[w.heap.size]? = some (.cells #[Value.slice none 0 0, Value.bool false, Value.slice none 0 0] 63 (0, 0))) := Lib.hid ((hb2.block _ (lt_of_block HR.out)).trans HR.out)
        have HB2 := Lib.hid (below_trans HB1.out hb2)
        have HU2 := Lib.hid hu2
        have HD2 := Lib.hid hd2
        have r0 := cells_later HR2.out 0 _ rfl _ (Below.refl _ _)
        have r1 := cells_later HR2.out 1 _ rfl _ (Below.refl _ _)
        have r2 := cells_later HR2.out 2 _ rfl _ (Below.refl _ _)
        have f0 := frozen_of_row _ _ 0 _ _ HR2.out
        have f1 := frozen_of_row _ _ 1 _ _ HR2.out
        have f2 := frozen_of_row _ _ 2 _ _ HR2.out
        clear hu2 hd2 hb2
        go_wp2_with fail
        exact bodyPost_ret (results_cell_row rfl _ _ w.heap.size _ _ _ _ rfl (rat3_heap HR2.out) Try.underlying63 rfl irat) rfl ⟨⟨_, rfl, rat3_q HR2.out HU2.out HD2.out⟩, below_only HB2.out (rat3_only _ _ _ _ _) (by omega)⟩
      · have t1 : ((n : Int) == 1) = false := by simp; omega
        obtain ⟨k, hk⟩ : ∃ k, k = n / 2 := ⟨_, rfl⟩
        obtain ⟨mid, hmid⟩ : ∃ x, x = lo + k := ⟨_, rfl⟩
        have e1 : (n : Int) / 2 = (k : Int) := by omega
        have e1' : Int.tdiv (n : Int) 2 = (k : Int) := by rw [Int.tdiv_eq_ediv_of_nonneg (by omega)]; omega
        have e2 : (lo : Int) + (k : Int) = (mid : Int) := by omega
        have hmid9 : mid ≤ 1000 := by omega
        have HSP : Hid (sumR g lo n = sumR g lo k + sumR g mid (n - k)) := Lib.hid (by
          have h9 := sumR_split g lo k (n - k)
          rw [show k + (n - k) = n by omega, ← hmid] at h9
          exact h9)
        have K1 := Lib.hid (HIH.out k (by omega) lo mid w1 hmid.symm hlo (by omega) HZ1.out)
        have K2 := Lib.hid (fun w' (hb : Below w0.heap.size w0 w') => HIH.out (n - k) (by omega) mid hi w' (by omega) (by omega) hhi hb)
        have L1 := Lib.hid (sz_len (m := m) (k := k) (sz_sum (g := g) (lo := lo) fun i h1 h2 => HSZ.out i (by omega) (by omega)) (by omega))
        have L2 := Lib.hid (sz_len (m := m) (k := n - k) (sz_sum (g := g) (lo := mid) fun i h1 h2 => HSZ.out i (by omega) (by omega)) (by omega))
        have HMK : Hid (m * k ≤ 100000 ∧ m * (n - k) ≤ 100000) := Lib.hid ⟨Nat.le_trans (Nat.mul_le_mul hm (show k ≤ 1000 by omega)) (by omega), Nat.le_trans (Nat.mul_le_mul hm (show n - k ≤ 1000 by omega)) (by omega)⟩
        obtain ⟨P, hP⟩ : ∃ P, P = sumR g lo k := ⟨_, rfl⟩
        obtain ⟨S, hS⟩ : ∃ S, S = sumR g mid (n - k) := ⟨_, rfl⟩
        rw [← hP] at K1 L1 HSP
        rw [← hS] at K2 L2 HSP
        rw [HSP.out]
        have K3 := Lib.hid (fun w' x y (h : RatQ w' x P) (k' : RatQ w' y S) => rplus_q (w := w') h k' (by have := L1.out; have := L2.out; have := HMK.out.1; have := HMK.out.2; omega))
        obtain ⟨Q, hQ⟩ : ∃ Q, Q = P + S := ⟨_, rfl⟩
        rw [← hQ] at K3 ⊢
        have hdd : (n : Int) = (hi : Int) - (lo : Int) := by omega
        clear h0 h1 hk hmid hP hS hQ HIH hdd
        go_enter Try.func91, Try.ntmps91
        go_wp2_with fail
        rw [HW1.out]
        refine K1.out.mono ?_
        rintro en2 w2 ⟨⟨v2, rfl, h2⟩, hb2⟩
        go_wp2_with fail
        refine (K2.out _ (below_trans HZ1.out hb2)).mono ?_
        rintro en3 w3 ⟨⟨v3, rfl, h3⟩, hb3⟩
        go_wp2_with fail
        refine (K3.out _ _ _ (h2.below hb3) h3).mono ?_
        rintro en4 w4 ⟨⟨v4, rfl, h4⟩, hb4⟩
        obtain ⟨u4, d4, rfl, hu4, hd4⟩ := h4
        obtain ⟨a4, n4, c4, he4⟩ := hu4.form
        subst he4
        obtain ⟨i4, j4, k4, hf4⟩ := hd4.form
        subst hf4
        have hz4 := below_trans hb2 (below_trans hb3 hb4)
        have HR4 : Hid (w4.heap[w.heap.size]? = some (.cells #[Value.slice none 0 0, Value.bool false, Value.slice none 0 0] 63 (0, 0))) := Lib.hid ((hz4.block _ (lt_of_block HR.out)).trans HR.out)
        have HB4 := Lib.hid (below_trans HB1.out hz4)
        have HU4 := Lib.hid hu4
        have HD4 := Lib.hid hd4
        have r0 := cells_later HR4.out 0 _ rfl _ (Below.refl _ _)
        have r1 := cells_later HR4.out 1 _ rfl _ (Below.refl _ _)
        have r2 := cells_later HR4.out 2 _ rfl _ (Below.refl _ _)
        have f0 := frozen_of_row _ _ 0 _ _ HR4.out
        have f1 := frozen_of_row _ _ 1 _ _ HR4.out
        have f2 := frozen_of_row _ _ 2 _ _ HR4.out
        clear hu4 hd4 hb2 hb3 hb4 hz4 h2 h3
        go_wp2_with fail
        exact bodyPost_ret (results_cell_row rfl _ _ w.heap.size _ _ _ _ rfl (rat3_heap HR4.out) Try.underlying63 rfl irat) rfl ⟨⟨_, rfl, rat3_q HR4.out HU4.out HD4.out⟩, below_only HB4.out (rat3_only _ _ _ _ _) (by omega)⟩
end Go.Proofs.Ytebgkfcglmjokaa

/- Lists of fractions: one term. -/
namespace Go.Proofs.Ytebgkfcglmjokaa
open Go.RowKit
attribute [local go_sem ↓] Go.wp_at_zero Go.wp_at_succ

set_option maxRecDepth 8000 in
set_option maxHeartbeats 2000000 in
theorem sum1_w {N : Nat} {w : World} {p : Nat} {a : Option Addr} {n c i : Nat} {qs : List Rat} (hp : w.cell? ⟨p, 0, none⟩ = some (.slice a n c)) (hl : ListF N w (.slice a n c) qs) (hi : i < n) (_hn : n ≤ 1000) :
    Calls Try.prog 92 #[.int .i64 (i : Nat), .pointer (some ⟨p, 0, none⟩)] w fun e w' => (∃ r, e = .returned r ∧ RatQ w' r (nthQ qs i)) ∧ Below w.heap.size w w' := by
  obtain ⟨q, B, off, b, a1, n1, c1, a2, n2, c2, hq, rfl, hc, hf⟩ := hl.at hi
  rw [nthQ_of hq]
  obtain ⟨w1, hw1⟩ : ∃ w1, w1 = w.alloc (Obj.cells #[Value.slice none 0 0, Value.bool false, Value.slice none 0 0] 63) := ⟨_, rfl⟩
  have HB1 : Hid (Below w.heap.size w w1) := Lib.hid (by rw [hw1]; exact (Below.refl _ _).alloc (Nat.le_refl _) _)
  have HR : Hid (w1.heap[w.heap.size]? = some (.cells #[Value.slice none 0 0, Value.bool false, Value.slice none 0 0] 63 (0, 0))) := Lib.hid (by rw [hw1]; exact heap_alloc_new w _)
  have HW1 := Lib.hid hw1.symm
  have hp1 : w1.cell? ⟨p, 0, none⟩ = some (.slice (some ⟨B, off, none⟩) n c) := cell_below HB1.out hp
  obtain ⟨x0, x1, x2⟩ := hc w1 HB1.out
  obtain ⟨b', l', m', hr', hq', -, -⟩ := hf
  have K := Lib.hid (read_w (hr'.below HB1.out))
  rw [← hq'] at K
  clear hw1 hc hl hp hr' hq' hq
  go_enter Try.func92, Try.ntmps92
  go_upto_region 1 with fail
  rw [HW1.out]
  go_wp2_with fail
  refine K.out.mono ?_
  rintro en2 w2 ⟨⟨v2, rfl, h2⟩, hb2⟩
  obtain ⟨u2, d2, rfl, hu2, hd2⟩ := h2
  obtain ⟨a2, n2, c2, he2⟩ := hu2.form
  subst he2
  obtain ⟨i2, j2, k2, hf2⟩ := hd2.form
  subst hf2
  have HR2 : Hid (w2.heap[w.heap.size]? = some (.cells #[Value.slice none 0 0, Value.bool false, Value.slice none 0 0] 63 (0, 0))) := Lib.hid ((hb2.block _ (lt_of_block HR.out)).trans HR.out)
  have HB2 := Lib.hid (below_trans HB1.out hb2)
  have HU2 := Lib.hid hu2
  have HD2 := Lib.hid hd2
  have r0 := cells_later HR2.out 0 _ rfl _ (Below.refl _ _)
  have r1 := cells_later HR2.out 1 _ rfl _ (Below.refl _ _)
  have r2 := cells_later HR2.out 2 _ rfl _ (Below.refl _ _)
  have f0 := frozen_of_row _ _ 0 _ _ HR2.out
  have f1 := frozen_of_row _ _ 1 _ _ HR2.out
  have f2 := frozen_of_row _ _ 2 _ _ HR2.out
  clear hu2 hd2 hb2
  go_wp2_with fail
  exact bodyPost_ret (results_cell_row rfl _ _ w.heap.size _ _ _ _ rfl (rat3_heap HR2.out) Try.underlying63 rfl irat) rfl ⟨⟨_, rfl, rat3_q HR2.out HU2.out HD2.out⟩, below_only HB2.out (rat3_only _ _ _ _ _) (by omega)⟩
end Go.Proofs.Ytebgkfcglmjokaa

/- Lists of fractions: sums. -/
namespace Go.Proofs.Ytebgkfcglmjokaa
open Go.RowKit
attribute [local go_sem ↓] Go.wp_at_zero Go.wp_at_succ

set_option maxRecDepth 8000 in
set_option maxHeartbeats 2000000 in
theorem sum_w {N : Nat} {w : World} {v : Value} {qs : List Rat} (hl : ListF N w v qs) (hN : N ≤ 50) (hn : qs.length ≤ 20) :
    Calls Try.prog 44 #[v] w (RTell w (sumR (nthQ qs) 0 qs.length)) := by
  obtain ⟨a, c, rfl, -⟩ := id hl
  obtain ⟨n, hnn⟩ : ∃ n, n = qs.length := ⟨_, rfl⟩
  rw [← hnn] at hl hn ⊢
  obtain ⟨w1, hw1⟩ : ∃ w1, w1 = (w.alloc (Obj.cells #[Value.slice a n c] 26)).alloc (Obj.cells #[Value.bool false, Value.slice none 0 0, Value.slice none 0 0] 24) := ⟨_, rfl⟩
  have HB1 : Hid (Below w.heap.size w w1) := Lib.hid (by rw [hw1]; exact ((Below.refl _ _).alloc (Nat.le_refl _) _).alloc (by simp) _)
  have HX : Hid (w1.heap[w.heap.size]? = some (.cells #[Value.slice a n c] 26 (0, 0))) := Lib.hid (by rw [hw1]; exact heap_alloc2_old w _ _)
  have HR : Hid (w1.heap[w.heap.size + 1]? = some (.cells #[Value.bool false, Value.slice none 0 0, Value.slice none 0 0] 24 (0, 0))) := Lib.hid (by rw [hw1]; exact heap_alloc2_new w _ _)
  have HW1 := Lib.hid hw1.symm
  have HL := Lib.hid (hl.below HB1.out)
  have RX := Lib.hid (cells_later HX.out)
  have hsz : ∀ i, 0 ≤ i → i < n → szQ N 1 (nthQ qs i) := fun i _ hi => by
    obtain ⟨q, B, off, b, a1, n1, c1, a2, n2, c2, hq, -, -, hf⟩ := hl.at hi
    rw [nthQ_of hq]; exact few_sz hf
  have K1 := Lib.hid (total_sum (w0 := w1) (g := nthQ qs) (m := N) (Lo := 0) (Hi := n) (p := w.heap.size) (by omega) (by omega) hsz (fun i w' _ hi hb => sum1_w (RX.out 0 _ rfl _ hb) (HL.out.below hb) hi (by omega)) n 0 n w1 (by omega) (by omega) (Nat.le_refl _) (Below.refl _ _))
  have HS := Lib.hid (sz_len (sz_sum (g := nthQ qs) (lo := 0) (n := n) fun i h1 h2 => hsz i h1 (by omega)) (by omega))
  have HNN : Hid (N * n ≤ 1000) := Lib.hid (Nat.le_trans (Nat.mul_le_mul hN hn) (by omega))
  obtain ⟨Q, hQ⟩ : ∃ Q, Q = sumR (nthQ qs) 0 n := ⟨_, rfl⟩
  rw [← hQ] at K1 HS ⊢
  have K2 := Lib.hid (fun w' x (h : RatQ w' x Q) => tell_w (w := w') h (by have := HS.out; have := HNN.out; omega))
  rw [cut_id (by have := HS.out; have := HNN.out; omega)] at K2
  have hz1 := Below.refl w1.heap.size w1
  have x0 := RX.out 0 _ rfl _ hz1
  have hmf : ∀ (fn : Fn) (first cap : Array Value) (w : World), (Instr.makeFunc fn first cap).run Try.prog w = .ok (.func fn first cap) w := fun _ _ _ _ => rfl
  clear hw1 hl hsz hQ hnn
  go_enter Try.func44, Try.ntmps44
  go_upto_region 1 with fail
  rw [HW1.out]
  go_wp2_with fail
  refine K1.out.mono ?_
  rintro en2 w2 ⟨⟨v2, rfl, h2⟩, hb2⟩
  go_wp2_with fail
  refine (K2.out _ _ h2).mono ?_
  rintro en3 w3 ⟨⟨v3, rfl, f3, -⟩, hb3⟩
  obtain ⟨a3, n3, c3, i3, j3, k3, hq3⟩ := frac_form f3
  subst hq3
  have hz3 := below_trans hb2 hb3
  have HRk : Hid (w3.heap[w.heap.size + 1]? = some (.cells #[Value.bool false, Value.slice none 0 0, Value.slice none 0 0] 24 (0, 0))) := Lib.hid ((hz3.block _ (lt_of_block HR.out)).trans HR.out)
  have HFk := Lib.hid (f3.other HRk.out (frac3_only _ _ (decide (Q.num < 0)) (Value.slice a3 n3 c3) (Value.slice i3 j3 k3)))
  have HBk := Lib.hid (below_trans HB1.out hz3)
  have r0 := cells_later HRk.out 0 _ rfl _ (Below.refl _ _)
  have r1 := cells_later HRk.out 1 _ rfl _ (Below.refl _ _)
  have r2 := cells_later HRk.out 2 _ rfl _ (Below.refl _ _)
  have f0 := frozen_of_row _ _ 0 _ _ HRk.out
  have f1 := frozen_of_row _ _ 1 _ _ HRk.out
  have f2 := frozen_of_row _ _ 2 _ _ HRk.out
  clear f3
  go_wp2_with fail
  exact bodyPost_ret (results_cell_row rfl _ _ (w.heap.size + 1) _ _ _ _ rfl (frac3_heap HRk.out) Try.underlying24 rfl ifrac) rfl ⟨⟨_, rfl, HFk.out⟩, below_only HBk.out (frac3_only _ _ _ _ _) (by omega)⟩
end Go.Proofs.Ytebgkfcglmjokaa

/- Lists of fractions: one term of a sum of products. -/
namespace Go.Proofs.Ytebgkfcglmjokaa
open Go.RowKit
attribute [local go_sem ↓] Go.wp_at_zero Go.wp_at_succ

theorem cell_lt {w : World} {b o : Nat} {v : Value} (h : w.cell? ⟨b, o, none⟩ = some v) : b < w.heap.size := by
  by_cases hb : b < w.heap.size
  · exact hb
  · have : w.heap[b]? = none := by simp; omega
    simp [World.cell?, this] at h
set_option maxRecDepth 8000 in
set_option maxHeartbeats 4000000 in
theorem dot1_w {N : Nat} {w : World} {p p2 : Nat} {a a' : Option Addr} {n c n' c' i : Nat} {qs ps : List Rat} (hp : w.cell? ⟨p, 0, none⟩ = some (.slice a n c)) (hp2 : w.cell? ⟨p2, 0, none⟩ = some (.slice a' n' c')) (hl : ListF N w (.slice a n c) qs) (hl2 : ListF N w (.slice a' n' c') ps) (hi : i < n) (hi2 : i < n') (_hn : n ≤ 1000) (_hn2 : n' ≤ 1000) (hN : N ≤ 1000) :
    Calls Try.prog 93 #[.int .i64 (i : Nat), .pointer (some ⟨p, 0, none⟩), .pointer (some ⟨p2, 0, none⟩)] w fun e w' => (∃ r, e = .returned r ∧ RatQ w' r (nthQ qs i * nthQ ps i)) ∧ Below w.heap.size w w' := by
  obtain ⟨q, B, off, b, a1, n1, c1, a2, n2, c2, hq, rfl, hc, hf⟩ := hl.at hi
  obtain ⟨q', B', off', b', a3, n3, c3, a4, n4, c4, hq', rfl, hc', hf'⟩ := hl2.at hi2
  rw [nthQ_of hq, nthQ_of hq']
  obtain ⟨w1, hw1⟩ : ∃ w1, w1 = w.alloc (Obj.cells #[Value.slice none 0 0, Value.bool false, Value.slice none 0 0] 63) := ⟨_, rfl⟩
  have HB1 : Hid (Below w.heap.size w w1) := Lib.hid (by rw [hw1]; exact (Below.refl _ _).alloc (Nat.le_refl _) _)
  have HR : Hid (w1.heap[w.heap.size]? = some (.cells #[Value.slice none 0 0, Value.bool false, Value.slice none 0 0] 63 (0, 0))) := Lib.hid (by rw [hw1]; exact heap_alloc_new w _)
  have HW1 := Lib.hid hw1.symm
  have RP : Hid (∀ w', Below w1.heap.size w1 w' → w'.cell? ⟨p, 0, none⟩ = some (.slice (some ⟨B, off, none⟩) n c) ∧ w'.cell? ⟨p2, 0, none⟩ = some (.slice (some ⟨B', off', none⟩) n' c')) := Lib.hid (fun w' hb => ⟨cell_below (below_trans HB1.out hb) hp, cell_below (below_trans HB1.out hb) hp2⟩)
  have RC : Hid (∀ w', Below w1.heap.size w1 w' → (w'.cell? ⟨B, off + i * 3, none⟩ = some (.bool b) ∧ w'.cell? ⟨B, off + i * 3 + 1, none⟩ = some (.slice a1 n1 c1) ∧ w'.cell? ⟨B, off + i * 3 + 2, none⟩ = some (.slice a2 n2 c2)) ∧ (w'.cell? ⟨B', off' + i * 3, none⟩ = some (.bool b') ∧ w'.cell? ⟨B', off' + i * 3 + 1, none⟩ = some (.slice a3 n3 c3) ∧ w'.cell? ⟨B', off' + i * 3 + 2, none⟩ = some (.slice a4 n4 c4))) := Lib.hid (fun w' hb => ⟨hc w' (below_trans HB1.out hb), hc' w' (below_trans HB1.out hb)⟩)
  have hlt1 := cell_lt hp
  have hlt2 := cell_lt hp2
  have hlt3 := cell_lt (hc w (Below.refl _ _)).1
  have hlt4 := cell_lt (hc' w (Below.refl _ _)).1
  have R0 : Hid (∀ o v, (#[Value.slice none 0 0, Value.bool false, Value.slice none 0 0] : Array Value)[o]? = some v → ∀ w', Below w1.heap.size w1 w' → w'.cell? ⟨w.heap.size, o, none⟩ = some v ∧ w'.frozen? ⟨w.heap.size, o, none⟩ = false) :=
    Lib.hid (fun o v h w' hb => ⟨cells_later HR.out o v h w' hb, frozen_of_row _ _ o _ _ ((hb.block _ (lt_of_block HR.out)).trans HR.out)⟩)
  have L1 := Lib.hid hf.len
  have L2 := Lib.hid hf'.len
  have K1 : Hid (∀ w', Below w1.heap.size w1 w' → Calls Try.prog 64 #[.agg #[.bool b, .slice a1 n1 c1, .slice a2 n2 c2]] w' fun e w'' => (∃ r, e = .returned r ∧ RatQ w'' r q) ∧ Below w'.heap.size w' w'') := Lib.hid (fun w' hb => by
    obtain ⟨bb, l', m', hr', hqq, -, -⟩ := hf
    rw [hqq]; exact read_w (hr'.below (below_trans HB1.out hb)))
  have K2 : Hid (∀ w', Below w1.heap.size w1 w' → Calls Try.prog 64 #[.agg #[.bool b', .slice a3 n3 c3, .slice a4 n4 c4]] w' fun e w'' => (∃ r, e = .returned r ∧ RatQ w'' r q') ∧ Below w'.heap.size w' w'') := Lib.hid (fun w' hb => by
    obtain ⟨bb, l', m', hr', hqq, -, -⟩ := hf'
    rw [hqq]; exact read_w (hr'.below (below_trans HB1.out hb)))
  have K3 := Lib.hid (fun w' x y (h : RatQ w' x q) (k : RatQ w' y q') => rtimes_q (w := w') h k (by have := L1.out; have := L2.out; omega))
  obtain ⟨Q, hQ⟩ : ∃ Q, Q = q * q' := ⟨_, rfl⟩
  rw [← hQ] at K3 ⊢
  clear hw1 hc hc' hl hl2 hp hp2 hf hf' hq hq' hQ
  have hz1 := Below.refl w1.heap.size w1
  obtain ⟨p0, pp0⟩ := RP.out _ hz1
  obtain ⟨⟨x0, x1, x2⟩, y0, y1, y2⟩ := RC.out _ hz1
  go_enter Try.func93, Try.ntmps93
  go_wp2_with fail
  rw [HW1.out]
  have hz0 : Below w1.heap.size w1 w1.drew := below_drewN hz1 1
  go_region_held3 (fun w' => w'.cell? ⟨p, 0, none⟩ = some (.slice (some ⟨B, off, none⟩) n c) ∧ w'.cell? ⟨p2, 0, none⟩ = some (.slice (some ⟨B', off', none⟩) n' c') ∧ w'.cell? ⟨B, off + i * 3, none⟩ = some (.bool b) ∧ w'.cell? ⟨B, off + i * 3 + 1, none⟩ = some (.slice a1 n1 c1) ∧ w'.cell? ⟨B, off + i * 3 + 2, none⟩ = some (.slice a2 n2 c2) ∧ w'.cell? ⟨B', off' + i * 3, none⟩ = some (.bool b') ∧ w'.cell? ⟨B', off' + i * 3 + 1, none⟩ = some (.slice a3 n3 c3) ∧ w'.cell? ⟨B', off' + i * 3 + 2, none⟩ = some (.slice a4 n4 c4))
    (((try dsimp only); refine ⟨?_, ?_, ?_, ?_, ?_, ?_, ?_, ?_⟩ <;> (first | exact (RP.out _ (by assumption)).1 | exact (RP.out _ (by assumption)).2 | exact (RC.out _ (by assumption)).1.1 | exact (RC.out _ (by assumption)).1.2.1 | exact (RC.out _ (by assumption)).1.2.2 | exact (RC.out _ (by assumption)).2.1 | exact (RC.out _ (by assumption)).2.2.1 | exact (RC.out _ (by assumption)).2.2.2 | (rw [World.cell?_setCell_far _ _ _ _ (by dsimp only; omega), World.cell?_setCell_far _ _ _ _ (by dsimp only; omega), World.cell?_setCell_far _ _ _ _ (by dsimp only; omega)]; first | exact (RP.out _ (by assumption)).1 | exact (RP.out _ (by assumption)).2 | exact (RC.out _ (by assumption)).1.1 | exact (RC.out _ (by assumption)).1.2.1 | exact (RC.out _ (by assumption)).1.2.2 | exact (RC.out _ (by assumption)).2.1 | exact (RC.out _ (by assumption)).2.2.1 | exact (RC.out _ (by assumption)).2.2.2) | go_keep)))
    (first | (go_at_call_of 64 (Value.slice a1 n1 c1); refine (K1.out _ hz0).mono ?_; rintro en4 w4 ⟨⟨r4, rfl, h4⟩, hb4⟩; have hz4 := below_trans hz0 hb4) | (go_at_call 64; refine (K2.out _ hz4).mono ?_; rintro en5 w5 ⟨⟨r5, rfl, h5⟩, hb5⟩; have hz5 := below_trans hz4 hb5) | (go_at_call 70; refine (K3.out _ _ _ (h4.below hb5) h5).mono ?_; rintro en6 w6 ⟨⟨r6, rfl, h6⟩, hb6⟩; obtain ⟨u6, d6, rfl, hu6, hd6⟩ := h6; obtain ⟨a6, n6, c6, he6⟩ := hu6.form; subst he6; obtain ⟨i6, j6, k6, hf6⟩ := hd6.form; subst hf6; have hz6 := below_trans hz5 hb6; have r0 := (R0.out 0 _ rfl _ hz6).1; have r1 := (R0.out 1 _ rfl _ hz6).1; have r2 := (R0.out 2 _ rfl _ hz6).1; have f0 := (R0.out 0 _ rfl _ hz6).2; have f1 := (R0.out 1 _ rfl _ hz6).2; have f2 := (R0.out 2 _ rfl _ hz6).2))
  have HR6 : Hid (w6.heap[w.heap.size]? = some (.cells #[Value.slice none 0 0, Value.bool false, Value.slice none 0 0] 63 (0, 0))) := Lib.hid ((hz6.block _ (lt_of_block HR.out)).trans HR.out)
  have HB6 := Lib.hid (below_trans HB1.out hz6)
  have HU6 := Lib.hid hu6
  have HD6 := Lib.hid hd6
  clear r0 r1 r2 f0 f1 f2
  have r0 := (R0.out 0 _ rfl _ hz6).1
  have r1 := (R0.out 1 _ rfl _ hz6).1
  have r2 := (R0.out 2 _ rfl _ hz6).1
  have f0 := (R0.out 0 _ rfl _ hz6).2
  have f1 := (R0.out 1 _ rfl _ hz6).2
  have f2 := (R0.out 2 _ rfl _ hz6).2
  go_wp2_with fail
  exact bodyPost_ret (results_cell_row rfl _ _ w.heap.size _ _ _ _ rfl (rat3_heap HR6.out) Try.underlying63 rfl irat) rfl ⟨⟨_, rfl, rat3_q HR6.out HU6.out HD6.out⟩, below_only HB6.out (rat3_only _ _ _ _ _) (by omega)⟩
end Go.Proofs.Ytebgkfcglmjokaa

/- Lists of fractions: sums of products. -/
namespace Go.Proofs.Ytebgkfcglmjokaa
open Go.RowKit
attribute [local go_sem ↓] Go.wp_at_zero Go.wp_at_succ

set_option maxRecDepth 8000 in
set_option maxHeartbeats 2000000 in
theorem dot_w {N : Nat} {w : World} {v v' : Value} {qs ps : List Rat} (hl : ListF N w v qs) (hl2 : ListF N w v' ps) (hN : N ≤ 50) (hn : qs.length ≤ 20) (hn2 : ps.length ≤ 20) :
    Calls Try.prog 46 #[v, v'] w (RTell w (sumR (fun i => nthQ qs i * nthQ ps i) 0 (min qs.length ps.length))) := by
  obtain ⟨a, c, rfl, -⟩ := id hl
  obtain ⟨a', c', rfl, -⟩ := id hl2
  obtain ⟨n, hnn⟩ : ∃ n, n = qs.length := ⟨_, rfl⟩
  obtain ⟨n', hnn'⟩ : ∃ n, n = ps.length := ⟨_, rfl⟩
  rw [← hnn] at hl hn ⊢
  rw [← hnn'] at hl2 hn2 ⊢
  obtain ⟨w1, hw1⟩ : ∃ w1, w1 = ((w.alloc (Obj.cells #[Value.slice a n c] 26)).alloc (Obj.cells #[Value.slice a' n' c'] 26)).alloc (Obj.cells #[Value.bool false, Value.slice none 0 0, Value.slice none 0 0] 24) := ⟨_, rfl⟩
  have HB1 : Hid (Below w.heap.size w w1) := Lib.hid (by rw [hw1]; exact (((Below.refl _ _).alloc (Nat.le_refl _) _).alloc (by simp) _).alloc (by simp; omega) _)
  have HX : Hid (w1.heap[w.heap.size]? = some (.cells #[Value.slice a n c] 26 (0, 0))) := Lib.hid (by rw [hw1]; exact alloc3_0 w _ _ _)
  have HY : Hid (w1.heap[w.heap.size + 1]? = some (.cells #[Value.slice a' n' c'] 26 (0, 0))) := Lib.hid (by rw [hw1]; exact alloc3_1 w _ _ _)
  have HR : Hid (w1.heap[w.heap.size + 2]? = some (.cells #[Value.bool false, Value.slice none 0 0, Value.slice none 0 0] 24 (0, 0))) := Lib.hid (by rw [hw1]; exact alloc3_new w _ _ _)
  have HW1 := Lib.hid hw1.symm
  have HL := Lib.hid (hl.below HB1.out)
  have HL2 := Lib.hid (hl2.below HB1.out)
  have RX := Lib.hid (cells_later HX.out)
  have RY := Lib.hid (cells_later HY.out)
  obtain ⟨k, hk⟩ : ∃ k, k = min n n' := ⟨_, rfl⟩
  have hsz : ∀ i, 0 ≤ i → i < k → szQ (2 * N) 1 ((fun i => nthQ qs i * nthQ ps i) i) := fun i _ hi => by
    obtain ⟨q, B, off, b, a1, n1, c1, a2, n2, c2, hq, -, -, hf⟩ := hl.at (i := i) (by omega)
    obtain ⟨q', B', off', b', a3, n3, c3, a4, n4, c4, hq', -, -, hf'⟩ := hl2.at (i := i) (by omega)
    show szQ (2 * N) 1 (nthQ qs i * nthQ ps i)
    rw [nthQ_of hq, nthQ_of hq']
    exact sz_mul (few_sz hf) (few_sz hf')
  have K1 := Lib.hid (total_dot (w0 := w1) (g := fun i => nthQ qs i * nthQ ps i) (m := 2 * N) (Lo := 0) (Hi := k) (p := w.heap.size) (p2 := w.heap.size + 1) (by omega) (by omega) hsz (fun i w' _ hi hb => dot1_w (RX.out 0 _ rfl _ hb) (RY.out 0 _ rfl _ hb) (HL.out.below hb) (HL2.out.below hb) (by omega) (by omega) (by omega) (by omega) (by omega)) k 0 k w1 (by omega) (by omega) (Nat.le_refl _) (Below.refl _ _))
  have HS := Lib.hid (sz_len (sz_sum (g := fun i => nthQ qs i * nthQ ps i) (lo := 0) (n := k) fun i h1 h2 => hsz i h1 (by omega)) (by omega))
  have HNN : Hid (2 * N * k ≤ 2000) := Lib.hid (Nat.le_trans (Nat.mul_le_mul (show 2 * N ≤ 100 by omega) (show k ≤ 20 by omega)) (by omega))
  rw [← hk]
  obtain ⟨Q, hQ⟩ : ∃ Q, Q = sumR (fun i => nthQ qs i * nthQ ps i) 0 k := ⟨_, rfl⟩
  rw [← hQ] at K1 HS ⊢
  have K2 := Lib.hid (fun w' x (h : RatQ w' x Q) => tell_w (w := w') h (by have := HS.out; have := HNN.out; omega))
  rw [cut_id (by have := HS.out; have := HNN.out; omega)] at K2
  have hz1 := Below.refl w1.heap.size w1
  have x0 := RX.out 0 _ rfl _ hz1
  have y0 := RY.out 0 _ rfl _ hz1
  have hmf : ∀ (fn : Fn) (first cap : Array Value) (w : World), (Instr.makeFunc fn first cap).run Try.prog w = .ok (.func fn first cap) w := fun _ _ _ _ => rfl
  clear hw1 hl hl2 hsz hQ hnn hnn'
  by_cases hle : n ≤ n'
  · have e9 : k = n := by omega
    subst e9
    clear hk
    go_enter Try.func46, Try.ntmps46
    go_upto_region 2 with fail
    rw [HW1.out]
    go_wp2_with fail
    refine K1.out.mono ?_
    rintro en2 w2 ⟨⟨v2, rfl, h2⟩, hb2⟩
    go_wp2_with fail
    refine (K2.out _ _ h2).mono ?_
    rintro en3 w3 ⟨⟨v3, rfl, f3, -⟩, hb3⟩
    obtain ⟨a3, n3, c3, i3, j3, k3, hq3⟩ := frac_form f3
    subst hq3
    have hz3 := below_trans hb2 hb3
    have HRk : Hid (w3.heap[w.heap.size + 2]? = some (.cells #[Value.bool false, Value.slice none 0 0, Value.slice none 0 0] 24 (0, 0))) := Lib.hid ((hz3.block _ (lt_of_block HR.out)).trans HR.out)
    have HFk := Lib.hid (f3.other HRk.out (frac3_only _ _ (decide (Q.num < 0)) (Value.slice a3 n3 c3) (Value.slice i3 j3 k3)))
    have HBk := Lib.hid (below_trans HB1.out hz3)
    have r0 := cells_later HRk.out 0 _ rfl _ (Below.refl _ _)
    have r1 := cells_later HRk.out 1 _ rfl _ (Below.refl _ _)
    have r2 := cells_later HRk.out 2 _ rfl _ (Below.refl _ _)
    have f0 := frozen_of_row _ _ 0 _ _ HRk.out
    have f1 := frozen_of_row _ _ 1 _ _ HRk.out
    have f2 := frozen_of_row _ _ 2 _ _ HRk.out
    clear f3
    go_wp2_with fail
    exact bodyPost_ret (results_cell_row rfl _ _ (w.heap.size + 2) _ _ _ _ rfl (frac3_heap HRk.out) Try.underlying24 rfl ifrac) rfl ⟨⟨_, rfl, HFk.out⟩, below_only HBk.out (frac3_only _ _ _ _ _) (by omega)⟩
  · have e9 : k = n' := by omega
    subst e9
    clear hk
    go_enter Try.func46, Try.ntmps46
    go_upto_region 2 with fail
    rw [HW1.out]
    go_wp2_with fail
    refine K1.out.mono ?_
    rintro en2 w2 ⟨⟨v2, rfl, h2⟩, hb2⟩
    go_wp2_with fail
    refine (K2.out _ _ h2).mono ?_
    rintro en3 w3 ⟨⟨v3, rfl, f3, -⟩, hb3⟩
    obtain ⟨a3, n3, c3, i3, j3, k3, hq3⟩ := frac_form f3
    subst hq3
    have hz3 := below_trans hb2 hb3
    have HRk : Hid (w3.heap[w.heap.size + 2]? = some (.cells #[Value.bool false, Value.slice none 0 0, Value.slice none 0 0] 24 (0, 0))) := Lib.hid ((hz3.block _ (lt_of_block HR.out)).trans HR.out)
    have HFk := Lib.hid (f3.other HRk.out (frac3_only _ _ (decide (Q.num < 0)) (Value.slice a3 n3 c3) (Value.slice i3 j3 k3)))
    have HBk := Lib.hid (below_trans HB1.out hz3)
    have r0 := cells_later HRk.out 0 _ rfl _ (Below.refl _ _)
    have r1 := cells_later HRk.out 1 _ rfl _ (Below.refl _ _)
    have r2 := cells_later HRk.out 2 _ rfl _ (Below.refl _ _)
    have f0 := frozen_of_row _ _ 0 _ _ HRk.out
    have f1 := frozen_of_row _ _ 1 _ _ HRk.out
    have f2 := frozen_of_row _ _ 2 _ _ HRk.out
    clear f3
    go_wp2_with fail
    exact bodyPost_ret (results_cell_row rfl _ _ (w.heap.size + 2) _ _ _ _ rfl (frac3_heap HRk.out) Try.underlying24 rfl ifrac) rfl ⟨⟨_, rfl, HFk.out⟩, below_only HBk.out (frac3_only _ _ _ _ _) (by omega)⟩
end Go.Proofs.Ytebgkfcglmjokaa

/- Lists of fractions: the first best one; the reference. -/
namespace Go.Proofs.Ytebgkfcglmjokaa
open Go.RowKit
attribute [local go_sem ↓] Go.wp_at_zero Go.wp_at_succ

/-- The place of the first best one among the first i, on one side. -/
def bst (side : Int) (qs : List Rat) : Nat → Option Nat
  | 0 => none
  | i + 1 => match bst side qs i with
    | none => some i
    | some a => if cmpQ (nthQ qs i) (nthQ qs a) = side then some i else some a
def bstI (side : Int) (qs : List Rat) (i : Nat) : Int := match bst side qs i with
  | none => -1
  | some a => (a : Nat)
theorem bst_lt {side : Int} {qs : List Rat} : ∀ {i a : Nat}, bst side qs i = some a → a < i
  | 0, a, h => by simp [bst] at h
  | i + 1, a, h => by
    unfold bst at h
    cases hb : bst side qs i with
    | none => rw [hb] at h; simp at h; omega
    | some c =>
      rw [hb] at h
      have := bst_lt hb
      simp only at h
      split at h <;> simp at h <;> omega
theorem bst_none {side : Int} {qs : List Rat} : ∀ {i : Nat}, bst side qs i = none → i = 0
  | 0, _ => rfl
  | i + 1, h => by
    unfold bst at h
    cases hb : bst side qs i with
    | none => rw [hb] at h; simp at h
    | some c => rw [hb] at h; simp only at h; split at h <;> simp at h
theorem bst_new {side : Int} {qs : List Rat} {i : Nat} (h : bst side qs i = none) : bst side qs (i + 1) = some i := by unfold bst; rw [h]
theorem bst_yes {side : Int} {qs : List Rat} {i a : Nat} (h : bst side qs i = some a) (hc : cmpQ (nthQ qs i) (nthQ qs a) = side) : bst side qs (i + 1) = some i := by unfold bst; rw [h]; simp [hc]
theorem bst_no {side : Int} {qs : List Rat} {i a : Nat} (h : bst side qs i = some a) (hc : ¬ cmpQ (nthQ qs i) (nthQ qs a) = side) : bst side qs (i + 1) = some a := by unfold bst; rw [h]; simp [hc]

set_option maxRecDepth 8000 in
set_option maxHeartbeats 4000000 in
theorem rleast_w {N : Nat} {w : World} {v : Value} {qs : List Rat} (hl : ListF N w v qs) (hN : N ≤ 50) (hn : qs.length ≤ 20) :
    Calls Try.prog 49 #[v] w fun e w' => e = .returned (.int .i64 (bstI (-1) qs qs.length)) ∧ Below w.heap.size w w' := by
  obtain ⟨a, c, rfl, -⟩ := id hl
  obtain ⟨n, hnn⟩ : ∃ n, n = qs.length := ⟨_, rfl⟩
  rw [← hnn] at hl hn ⊢
  have HL := Lib.hid hl
  clear hl hnn
  go_enter Try.func49, Try.ntmps49
  go_wp2_with fail
  go_loopw [3, 4] (fun av iv wr => ∃ i : Nat, i ≤ n ∧ iv = .int .i64 i ∧ av = .int .i64 (bstI (-1) qs i) ∧ Hid (Below w.heap.size w wr)) (fun _ iv _ => n - (intOf iv).toNat)
  case atStart => exact ⟨0, Nat.zero_le _, rfl, rfl, Lib.hid (Below.refl _ _)⟩
  case round =>
    obtain ⟨i, hi, rfl, rfl, hB⟩ := hrel
    obtain ⟨wo, rfl⟩ : ∃ wo : World, wo = wr := ⟨_, rfl⟩
    by_cases hin : i < n
    · have t0 : decide ((i : Int) < (n : Int)) = true := by simp; omega
      obtain ⟨q, B, off, b, a1, n1, c1, a2, n2, c2, hq, ha, hc, hf⟩ := HL.out.at hin
      subst ha
      cases hb : bst (-1) qs i with
      | none =>
        have HE : Hid (bstI (-1) qs i = -1) := Lib.hid (by unfold bstI; rw [hb])
        have HE2 : Hid (bstI (-1) qs (i + 1) = (i : Nat)) := Lib.hid (by unfold bstI; rw [bst_new hb])
        rw [HE.out]
        clear hc hf hq hb
        go_wp2_with fail
        go_quiet (fail)
        go_wp2_with fail
        go_roundw
        case rel => exact ⟨i + 1, by omega, by go_num, by rw [HE2.out], Lib.hid (below_drewN hB.out _)⟩
        case measure => simp [intOf]; omega
      | some at9 =>
        have hat := bst_lt hb
        obtain ⟨q', B', off', b', a3, n3, c3, a4, n4, c4, hq', ha', hc', hf'⟩ := HL.out.at (i := at9) (by omega)
        simp only [Option.some.injEq, Addr.mk.injEq, and_true] at ha'
        obtain ⟨rfl, rfl⟩ := ha'
        have HE : Hid (bstI (-1) qs i = (at9 : Nat)) := Lib.hid (by unfold bstI; rw [hb])
        rw [HE.out]
        have hz1 : Below wo.heap.size wo wo.drew := below_drewN (Below.refl _ _) 1
        have K := Lib.hid (fun w' (hbw : Below wo.heap.size wo w') => rcmp_f (w := w') ((hf.below hB.out).below hbw) ((hf'.below hB.out).below hbw) (by omega))
        obtain ⟨o, ho⟩ : ∃ o, o = cmpQ q q' := ⟨_, rfl⟩
        have ho1 : -1 ≤ o := by rw [ho]; exact (cmpQ_small q q').1
        have ho2 : o ≤ 1 := by rw [ho]; exact (cmpQ_small q q').2
        rw [← ho] at K
        have RC : Hid (∀ w', Below wo.heap.size wo w' → (w'.cell? ⟨B, off + i * 3, none⟩ = some (.bool b) ∧ w'.cell? ⟨B, off + i * 3 + 1, none⟩ = some (.slice a1 n1 c1) ∧ w'.cell? ⟨B, off + i * 3 + 2, none⟩ = some (.slice a2 n2 c2)) ∧ (w'.cell? ⟨B, off + at9 * 3, none⟩ = some (.bool b') ∧ w'.cell? ⟨B, off + at9 * 3 + 1, none⟩ = some (.slice a3 n3 c3) ∧ w'.cell? ⟨B, off + at9 * 3 + 2, none⟩ = some (.slice a4 n4 c4))) := Lib.hid (fun w' h => ⟨hc w' (below_trans hB.out h), hc' w' (below_trans hB.out h)⟩)
        have HNX : Hid (bstI (-1) qs (i + 1) = if o = -1 then (i : Int) else (at9 : Int)) := Lib.hid (by
          by_cases h : o = -1
          · rw [if_pos h]
            unfold bstI
            rw [bst_yes hb (by rw [nthQ_of hq, nthQ_of hq', ← ho]; exact h)]
          · rw [if_neg h]
            unfold bstI
            rw [bst_no hb (by rw [nthQ_of hq, nthQ_of hq', ← ho]; exact h)])
        clear hc hc' hf hf' hq hq' hb ho
        obtain ⟨⟨x0, x1, x2⟩, y0, y1, y2⟩ := RC.out _ (Below.refl _ _)
        have hat9 : at9 < n := by omega
        go_wp2_with fail
        go_cut [24] (fun cv wr => cv = .bool (decide (o < 0)) ∧ Hid (Below wo.heap.size wo wr))
        case first =>
          go_region_held3 (fun w' => w'.cell? ⟨B, off + i * 3, none⟩ = some (.bool b) ∧ w'.cell? ⟨B, off + i * 3 + 1, none⟩ = some (.slice a1 n1 c1) ∧ w'.cell? ⟨B, off + i * 3 + 2, none⟩ = some (.slice a2 n2 c2) ∧ w'.cell? ⟨B, off + at9 * 3, none⟩ = some (.bool b') ∧ w'.cell? ⟨B, off + at9 * 3 + 1, none⟩ = some (.slice a3 n3 c3) ∧ w'.cell? ⟨B, off + at9 * 3 + 2, none⟩ = some (.slice a4 n4 c4))
            (((try dsimp only); refine ⟨?_, ?_, ?_, ?_, ?_, ?_⟩ <;> (first | exact (RC.out _ (by assumption)).1.1 | exact (RC.out _ (by assumption)).1.2.1 | exact (RC.out _ (by assumption)).1.2.2 | exact (RC.out _ (by assumption)).2.1 | exact (RC.out _ (by assumption)).2.2.1 | exact (RC.out _ (by assumption)).2.2.2 | go_keep)))
            (first | (go_at_call 35; refine (K.out _ hz1).mono ?_; rintro en4 w4 ⟨rfl, hb4⟩; have hz4 := below_trans hz1 hb4))
          go_wp2_with fail
          go_meet
          exact ⟨rfl, Lib.hid hz4⟩
        case rest =>
          obtain ⟨w5, rfl⟩ : ∃ w8 : World, w8 = wc := ⟨_, rfl⟩
          obtain ⟨rfl, HB5⟩ := hcut
          have HW5 := Lib.hid (below_trans hB.out HB5.out)
          by_cases hy : o = -1
          · have HE2 : Hid (bstI (-1) qs (i + 1) = (i : Nat)) := Lib.hid (by rw [HNX.out, if_pos hy])
            have ty : o < 0 := by omega
            clear hy x0 x1 x2 y0 y1 y2
            go_wp2_with fail
            go_roundw
            case rel => exact ⟨i + 1, by omega, by go_num, by rw [HE2.out], HW5⟩
            case measure => simp [intOf]; omega
          · have HE2 : Hid (bstI (-1) qs (i + 1) = (at9 : Nat)) := Lib.hid (by rw [HNX.out, if_neg hy])
            have ty : ¬ (o < 0) := by omega
            clear hy x0 x1 x2 y0 y1 y2
            go_wp2_with fail
            go_roundw
            case rel => exact ⟨i + 1, by omega, by go_num, by rw [HE2.out], HW5⟩
            case measure => simp [intOf]; omega
    · have t0 : decide ((i : Int) < (n : Int)) = false := by simp; omega
      have he : i = n := by omega
      subst he
      go_wp2_with fail
      go_ret
      exact ⟨rfl, hB.out⟩

set_option maxRecDepth 8000 in
set_option maxHeartbeats 4000000 in
theorem rmost_w {N : Nat} {w : World} {v : Value} {qs : List Rat} (hl : ListF N w v qs) (hN : N ≤ 50) (hn : qs.length ≤ 20) :
    Calls Try.prog 51 #[v] w fun e w' => e = .returned (.int .i64 (bstI (1) qs qs.length)) ∧ Below w.heap.size w w' := by
  obtain ⟨a, c, rfl, -⟩ := id hl
  obtain ⟨n, hnn⟩ : ∃ n, n = qs.length := ⟨_, rfl⟩
  rw [← hnn] at hl hn ⊢
  have HL := Lib.hid hl
  clear hl hnn
  go_enter Try.func51, Try.ntmps51
  go_wp2_with fail
  go_loopw [3, 4] (fun av iv wr => ∃ i : Nat, i ≤ n ∧ iv = .int .i64 i ∧ av = .int .i64 (bstI (1) qs i) ∧ Hid (Below w.heap.size w wr)) (fun _ iv _ => n - (intOf iv).toNat)
  case atStart => exact ⟨0, Nat.zero_le _, rfl, rfl, Lib.hid (Below.refl _ _)⟩
  case round =>
    obtain ⟨i, hi, rfl, rfl, hB⟩ := hrel
    obtain ⟨wo, rfl⟩ : ∃ wo : World, wo = wr := ⟨_, rfl⟩
    by_cases hin : i < n
    · have t0 : decide ((i : Int) < (n : Int)) = true := by simp; omega
      obtain ⟨q, B, off, b, a1, n1, c1, a2, n2, c2, hq, ha, hc, hf⟩ := HL.out.at hin
      subst ha
      cases hb : bst (1) qs i with
      | none =>
        have HE : Hid (bstI (1) qs i = -1) := Lib.hid (by unfold bstI; rw [hb])
        have HE2 : Hid (bstI (1) qs (i + 1) = (i : Nat)) := Lib.hid (by unfold bstI; rw [bst_new hb])
        rw [HE.out]
        clear hc hf hq hb
        go_wp2_with fail
        go_quiet (fail)
        go_wp2_with fail
        go_roundw
        case rel => exact ⟨i + 1, by omega, by go_num, by rw [HE2.out], Lib.hid (below_drewN hB.out _)⟩
        case measure => simp [intOf]; omega
      | some at9 =>
        have hat := bst_lt hb
        obtain ⟨q', B', off', b', a3, n3, c3, a4, n4, c4, hq', ha', hc', hf'⟩ := HL.out.at (i := at9) (by omega)
        simp only [Option.some.injEq, Addr.mk.injEq, and_true] at ha'
        obtain ⟨rfl, rfl⟩ := ha'
        have HE : Hid (bstI (1) qs i = (at9 : Nat)) := Lib.hid (by unfold bstI; rw [hb])
        rw [HE.out]
        have hz1 : Below wo.heap.size wo wo.drew := below_drewN (Below.refl _ _) 1
        have K := Lib.hid (fun w' (hbw : Below wo.heap.size wo w') => rcmp_f (w := w') ((hf.below hB.out).below hbw) ((hf'.below hB.out).below hbw) (by omega))
        obtain ⟨o, ho⟩ : ∃ o, o = cmpQ q q' := ⟨_, rfl⟩
        have ho1 : -1 ≤ o := by rw [ho]; exact (cmpQ_small q q').1
        have ho2 : o ≤ 1 := by rw [ho]; exact (cmpQ_small q q').2
        rw [← ho] at K
        have RC : Hid (∀ w', Below wo.heap.size wo w' → (w'.cell? ⟨B, off + i * 3, none⟩ = some (.bool b) ∧ w'.cell? ⟨B, off + i * 3 + 1, none⟩ = some (.slice a1 n1 c1) ∧ w'.cell? ⟨B, off + i * 3 + 2, none⟩ = some (.slice a2 n2 c2)) ∧ (w'.cell? ⟨B, off + at9 * 3, none⟩ = some (.bool b') ∧ w'.cell? ⟨B, off + at9 * 3 + 1, none⟩ = some (.slice a3 n3 c3) ∧ w'.cell? ⟨B, off + at9 * 3 + 2, none⟩ = some (.slice a4 n4 c4))) := Lib.hid (fun w' h => ⟨hc w' (below_trans hB.out h), hc' w' (below_trans hB.out h)⟩)
        have HNX : Hid (bstI (1) qs (i + 1) = if o = 1 then (i : Int) else (at9 : Int)) := Lib.hid (by
          by_cases h : o = 1
          · rw [if_pos h]
            unfold bstI
            rw [bst_yes hb (by rw [nthQ_of hq, nthQ_of hq', ← ho]; exact h)]
          · rw [if_neg h]
            unfold bstI
            rw [bst_no hb (by rw [nthQ_of hq, nthQ_of hq', ← ho]; exact h)])
        clear hc hc' hf hf' hq hq' hb ho
        obtain ⟨⟨x0, x1, x2⟩, y0, y1, y2⟩ := RC.out _ (Below.refl _ _)
        have hat9 : at9 < n := by omega
        go_wp2_with fail
        go_cut [24] (fun cv wr => cv = .bool (decide (0 < o)) ∧ Hid (Below wo.heap.size wo wr))
        case first =>
          go_region_held3 (fun w' => w'.cell? ⟨B, off + i * 3, none⟩ = some (.bool b) ∧ w'.cell? ⟨B, off + i * 3 + 1, none⟩ = some (.slice a1 n1 c1) ∧ w'.cell? ⟨B, off + i * 3 + 2, none⟩ = some (.slice a2 n2 c2) ∧ w'.cell? ⟨B, off + at9 * 3, none⟩ = some (.bool b') ∧ w'.cell? ⟨B, off + at9 * 3 + 1, none⟩ = some (.slice a3 n3 c3) ∧ w'.cell? ⟨B, off + at9 * 3 + 2, none⟩ = some (.slice a4 n4 c4))
            (((try dsimp only); refine ⟨?_, ?_, ?_, ?_, ?_, ?_⟩ <;> (first | exact (RC.out _ (by assumption)).1.1 | exact (RC.out _ (by assumption)).1.2.1 | exact (RC.out _ (by assumption)).1.2.2 | exact (RC.out _ (by assumption)).2.1 | exact (RC.out _ (by assumption)).2.2.1 | exact (RC.out _ (by assumption)).2.2.2 | go_keep)))
            (first | (go_at_call 35; refine (K.out _ hz1).mono ?_; rintro en4 w4 ⟨rfl, hb4⟩; have hz4 := below_trans hz1 hb4))
          go_wp2_with fail
          go_meet
          exact ⟨rfl, Lib.hid hz4⟩
        case rest =>
          obtain ⟨w5, rfl⟩ : ∃ w8 : World, w8 = wc := ⟨_, rfl⟩
          obtain ⟨rfl, HB5⟩ := hcut
          have HW5 := Lib.hid (below_trans hB.out HB5.out)
          by_cases hy : o = 1
          · have HE2 : Hid (bstI (1) qs (i + 1) = (i : Nat)) := Lib.hid (by rw [HNX.out, if_pos hy])
            have ty : 0 < o := by omega
            clear hy x0 x1 x2 y0 y1 y2
            go_wp2_with fail
            go_roundw
            case rel => exact ⟨i + 1, by omega, by go_num, by rw [HE2.out], HW5⟩
            case measure => simp [intOf]; omega
          · have HE2 : Hid (bstI (1) qs (i + 1) = (at9 : Nat)) := Lib.hid (by rw [HNX.out, if_neg hy])
            have ty : ¬ (0 < o) := by omega
            clear hy x0 x1 x2 y0 y1 y2
            go_wp2_with fail
            go_roundw
            case rel => exact ⟨i + 1, by omega, by go_num, by rw [HE2.out], HW5⟩
            case measure => simp [intOf]; omega
    · have t0 : decide ((i : Int) < (n : Int)) = false := by simp; omega
      have he : i = n := by omega
      subst he
      go_wp2_with fail
      go_ret
      exact ⟨rfl, hB.out⟩
end Go.Proofs.Ytebgkfcglmjokaa

/- Lists of fractions: the first best one; the program. -/
namespace Go.Proofs.Ytebgkfcglmjokaa
open Go.RowKit
attribute [local go_sem ↓] Go.wp_at_zero Go.wp_at_succ

theorem rat_form {w : World} {r : Value} {q : Rat} (h : RatQ w r q) : ∃ a n c b i j k, r = .agg #[.slice a n c, .bool b, .slice i j k] := by
  obtain ⟨u, d, rfl, hu, hd⟩ := h
  obtain ⟨a, n, c, rfl⟩ := hu.form
  obtain ⟨i, j, k, rfl⟩ := hd.form
  exact ⟨a, n, c, _, i, j, k, rfl⟩
theorem RatQ.other {w w' : World} {v : Value} {q : Rat} {B : Nat} {t : TypeId} {fr : Nat × Nat} {b : Bool} {a i : Option Addr} {n c j k : Nat} (h : RatQ w v q) (hB : w.heap[B]? = some (.cells #[Value.slice a n c, Value.bool b, Value.slice i j k] t fr)) (ho : Only B w w') : RatQ w' v q := by
  obtain ⟨u, d, rfl, hu, hd⟩ := h
  exact ⟨u, d, rfl, hu.other hB (rat_cells ⟨_, _, _, rfl⟩ ⟨_, _, _, rfl⟩) ho, hd.other hB (rat_cells ⟨_, _, _, rfl⟩ ⟨_, _, _, rfl⟩) ho⟩

set_option maxRecDepth 8000 in
set_option maxHeartbeats 4000000 in
theorem first_w {N : Nat} {w : World} {v : Value} {qs : List Rat} {side : Int} (hl : ListF N w v qs) (hN : N ≤ 50) (hn : qs.length ≤ 20) :
    Calls Try.prog 94 #[v, .int .i64 side] w fun e w' => e = .returned (.int .i64 (bstI side qs qs.length)) ∧ Below w.heap.size w w' := by
  obtain ⟨a, c, rfl, -⟩ := id hl
  obtain ⟨n, hnn⟩ : ∃ n, n = qs.length := ⟨_, rfl⟩
  rw [← hnn] at hl hn ⊢
  have HL := Lib.hid hl
  clear hl hnn
  go_enter Try.func94, Try.ntmps94
  go_wp2_with fail
  refine zero_w.mono ?_
  rintro en1 w1 ⟨⟨v1, rfl, f1⟩, hb1⟩
  obtain ⟨u1, d1, rfl, hu1, hd1⟩ := f1
  obtain ⟨za, zn, zc, hze⟩ := hu1.form
  subst hze
  obtain ⟨zi, zj, zk, hzf⟩ := hd1.form
  subst hzf
  have hB0 : w.heap.size ≤ w1.heap.size := hb1.size
  go_wp2_with ((with_reducible refine at_store ?_); refine wpList_store_var rfl _ _ _ rfl w1.heap.size rfl _ rfl _ _ (heap_alloc_new _ _) irat rfl rat_one' ?_; intro w2 h2 hon2; refine halt ?_)
  have HB2 : Hid (Below w.heap.size w w2) := Lib.hid (below_trans hb1 (below_only ((Below.refl _ _).alloc (Nat.le_refl _) _) hon2 (Nat.le_refl _)))
  obtain ⟨Bb, hBb⟩ : ∃ B, B = w1.heap.size := ⟨_, rfl⟩
  have HR2 : Hid (w2.heap[Bb]? = some (.cells #[Value.slice za zn zc, Value.bool (decide ((0 : Int) < 0)), Value.slice zi zj zk] 63 (0, 0))) := Lib.hid (by rw [hBb]; exact h2)
  rw [← hBb]
  have hBw : w.heap.size ≤ Bb := by omega
  clear h2 hon2 hu1 hd1 hb1 hBb hB0
  refine go_on ?_
  go_wp2_with fail
  go_loopw [5, 13] (fun av iv wr => ∃ (i : Nat) (ra : Option Addr) (rn rc : Nat) (rb : Bool) (ri : Option Addr) (rj rk : Nat), i ≤ n ∧ iv = .int .i64 i ∧ av = .int .i64 (bstI side qs i) ∧ Hid (wr.heap[Bb]? = some (.cells #[Value.slice ra rn rc, Value.bool rb, Value.slice ri rj rk] 63 (0, 0))) ∧ Hid (∀ z, bst side qs i = some z → RatQ wr (.agg #[Value.slice ra rn rc, Value.bool rb, Value.slice ri rj rk]) (nthQ qs z)) ∧ Hid (Below w.heap.size w wr)) (fun _ iv _ => n - (intOf iv).toNat)
  case atStart => exact ⟨0, _, _, _, _, _, _, _, Nat.zero_le _, rfl, rfl, HR2, Lib.hid (fun z h => by cases h), HB2⟩
  case round =>
    obtain ⟨i, ra, rn, rc, rb, ri, rj, rk, hi, rfl, rfl, hrow, hrq, hB⟩ := hrel
    obtain ⟨wo, rfl⟩ : ∃ wo : World, wo = wr := ⟨_, rfl⟩
    by_cases hin : i < n
    · have t0 : decide ((i : Int) < (n : Int)) = true := by simp; omega
      obtain ⟨q, B, off, b, a1, n1, c1, a2, n2, c2, hq, ha, hc, hf⟩ := HL.out.at hin
      subst ha
      obtain ⟨x0, x1, x2⟩ := hc wo hB.out
      have HQ := Lib.hid (nthQ_of hq)
      have HLQ := Lib.hid hf.len
      obtain ⟨b', l', m', hr', hq', -, -⟩ := hf
      have HRW := Lib.hid (hr'.below hB.out)
      have HQ' := Lib.hid hq'
      have hBb := lt_of_block hrow.out
      have HBB := Lib.hid hBb
      clear hc hr' hq' hq
      go_wp2_with ((with_reducible refine at_store ?_); refine wpList_store_var rfl _ _ _ rfl wo.heap.size rfl _ rfl _ _ (heap_alloc_new _ _) ifrac rfl frac_one ?_; intro w4 h4 hon4; refine halt ?_)
      have hb4 : Below wo.heap.size wo w4 := below_only ((Below.refl _ _).alloc (Nat.le_refl _) _) hon4 (Nat.le_refl _)
      have HB4 := Lib.hid hb4
      have y0 := cells_later h4 0 _ rfl _ (Below.refl _ _)
      have y1 := cells_later h4 1 _ rfl _ (Below.refl _ _)
      have y2 := cells_later h4 2 _ rfl _ (Below.refl _ _)
      have K := Lib.hid (read_w (HRW.out.below hb4))
      rw [← HQ'.out] at K
      clear h4 hon4 hb4 x0 x1 x2
      refine go_on ?_
      go_wp2_with fail
      refine K.out.mono ?_
      rintro en5 w5 ⟨⟨v5, rfl, f5⟩, hb5⟩
      obtain ⟨a5, n5, c5, s5, i5, j5, k5, hq5⟩ := rat_form f5
      subst hq5
      go_wp2_with ((with_reducible refine at_store ?_); refine wpList_store_var rfl _ _ _ rfl w5.heap.size rfl _ rfl _ _ (heap_alloc_new _ _) irat rfl rat_one' ?_; intro w6 h6 hon6; refine halt ?_)
      have hb6 : Below w5.heap.size w5 w6 := below_only ((Below.refl _ _).alloc (Nat.le_refl _) _) hon6 (Nat.le_refl _)
      have hy6 := below_trans HB4.out (below_trans hb5 hb6)
      have HY6 := Lib.hid hy6
      have HF6 := Lib.hid (f5.below hb6)
      have RS := Lib.hid (cells_later h6)
      have HROW6 : Hid (w6.heap[Bb]? = some (.cells #[Value.slice ra rn rc, Value.bool rb, Value.slice ri rj rk] 63 (0, 0))) := Lib.hid ((hy6.block _ HBB.out).trans hrow.out)
      have HW6 := Lib.hid (below_trans hB.out hy6)
      have h65 : w5.heap.size ≠ Bb := by have h8 := HBB.out; have h7 := (below_trans HB4.out hb5).size; omega
      clear h6 hon6 hb6 hb5 f5 hy6 y0 y1 y2 K hBb
      refine go_on ?_
      have hy0 := Below.refl w6.heap.size w6
      have s0 := RS.out 0 _ rfl _ hy0
      have s1 := RS.out 1 _ rfl _ hy0
      have s2 := RS.out 2 _ rfl _ hy0
      have r0 := cells_later HROW6.out 0 _ rfl _ hy0
      have r1 := cells_later HROW6.out 1 _ rfl _ hy0
      have r2 := cells_later HROW6.out 2 _ rfl _ hy0
      cases hb : bst side qs i with
      | none =>
        have HE : Hid (bstI side qs i = -1) := Lib.hid (by unfold bstI; rw [hb])
        have HE2 : Hid (bstI side qs (i + 1) = (i : Nat) ∧ bst side qs (i + 1) = some i) := Lib.hid ⟨by unfold bstI; rw [bst_new hb], bst_new hb⟩
        rw [HE.out]
        clear hb
        go_upto_if 28 with fail
        have HRW : Hid (w6.heap[Bb]? = some (.cells #[Value.slice ra rn rc, Value.bool rb, Value.slice ri rj rk] 63 (0, 0))) := Lib.hid (((Below.refl w6.heap.size w6).block _ (lt_of_block HROW6.out)).trans HROW6.out)
        have HWW := Lib.hid (below_trans HW6.out (Below.refl w6.heap.size w6))
        have HFW := Lib.hid (HF6.out.below (Below.refl w6.heap.size w6))
        clear s0 s1 s2 r0 r1 r2
        have QS := Lib.hid (fun o v (h : (#[Value.slice a5 n5 c5, Value.bool s5, Value.slice i5 j5 k5] : Array Value)[o]? = some v) w' (hb : Below w6.heap.size w6 w') => RS.out o v h w' (below_trans (Below.refl w6.heap.size w6) hb))
        have QR := Lib.hid (fun o v (h : (#[Value.slice ra rn rc, Value.bool rb, Value.slice ri rj rk] : Array Value)[o]? = some v) w' (hb : Below w6.heap.size w6 w') => cells_later HRW.out o v h w' hb)
        have FRR := Lib.hid (frozen_at HRW.out)
        have hv0 := Below.refl w6.heap.size w6
        have hvd : Below w6.heap.size w6 w6.drew := below_drewN hv0 1
        have s0 := QS.out 0 _ rfl _ hv0
        have s1 := QS.out 1 _ rfl _ hv0
        have s2 := QS.out 2 _ rfl _ hv0
        have r0 := QR.out 0 _ rfl _ hv0
        have r1 := QR.out 1 _ rfl _ hv0
        have r2 := QR.out 2 _ rfl _ hv0
        have f0 := FRR.out 0 _ hv0
        have f1 := FRR.out 1 _ hv0
        have f2 := FRR.out 2 _ hv0
        have HON : Hid (Only Bb w6.drew (rat3 w6.drew Bb (Value.slice a5 n5 c5) s5 (Value.slice i5 j5 k5))) := Lib.hid (rat3_only _ _ _ _ _)
        have HRWD : Hid (w6.drew.heap[Bb]? = some (.cells #[Value.slice ra rn rc, Value.bool rb, Value.slice ri rj rk] 63 (0, 0))) := Lib.hid HRW.out
        have HROW9 : Hid ((rat3 w6.drew Bb (Value.slice a5 n5 c5) s5 (Value.slice i5 j5 k5)).heap[Bb]? = some (.cells #[Value.slice a5 n5 c5, Value.bool s5, Value.slice i5 j5 k5] 63 (0, 0))) := Lib.hid (heap_setCell_same _ _ 2 _ _ _ (heap_setCell_same _ _ 1 _ _ _ (heap_setCell_same _ _ 0 _ _ _ HRWD.out)))
        have HQ9 := Lib.hid ((RatQ.below HFW.out hvd).other HRWD.out HON.out)
        have HB9 := Lib.hid (below_only (below_trans HWW.out hvd) HON.out hBw)
        go_wp2_with fail
        go_region
        all_goals
          go_wp2_with fail
          go_roundw
        all_goals first
          | exact ⟨i + 1, _, _, _, _, _, _, _, by omega, by go_num, by rw [HE2.out.1], HROW9, Lib.hid (fun z hz => by rw [HE2.out.2] at hz; cases hz; rw [HQ.out]; exact HQ9.out), HB9⟩
          | (simp [intOf]; omega)
      | some at9 =>
        have hat := bst_lt hb
        have HE : Hid (bstI side qs i = (at9 : Nat)) := Lib.hid (by unfold bstI; rw [hb])
        rw [HE.out]
        have HQA := Lib.hid (hrq.out at9 hb)
        have HLA : Hid (lenQ (nthQ qs at9) ≤ 101) := Lib.hid (by
          obtain ⟨q', B', off', b', a3, n3, c3, a4, n4, c4, hq', -, -, hf'⟩ := HL.out.at (i := at9) (by omega)
          rw [nthQ_of hq']; have := hf'.len; omega)
        have K2 := Lib.hid (rcompare_q HF6.out (HQA.out.below HY6.out) (by have := HLQ.out; have := HLA.out; omega))
        obtain ⟨o, ho⟩ : ∃ o, o = cmpQ q (nthQ qs at9) := ⟨_, rfl⟩
        rw [← ho] at K2
        have HO := Lib.hid ho
        clear ho
        go_wp2_with fail
        refine K2.out.mono ?_
        rintro en7 w7 ⟨rfl, hb7⟩
        have HB7 := Lib.hid hb7
        by_cases hs : o = side
        · have t1 : (o == side) = true := by simpa using hs
          have HE2 : Hid (bstI side qs (i + 1) = (i : Nat) ∧ bst side qs (i + 1) = some i) := Lib.hid (by
            have h9 := bst_yes hb (by rw [HQ.out, ← HO.out]; exact hs)
            exact ⟨by unfold bstI; rw [h9], h9⟩)
          clear hb hs s0 s1 s2 r0 r1 r2
          obtain ⟨w6', hw6'⟩ : ∃ x : World, x = w6 := ⟨_, rfl⟩
          go_upto_if 28 with fail
          have HRW : Hid (w7.heap[Bb]? = some (.cells #[Value.slice ra rn rc, Value.bool rb, Value.slice ri rj rk] 63 (0, 0))) := Lib.hid ((HB7.out.block _ (lt_of_block HROW6.out)).trans HROW6.out)
          have HWW := Lib.hid (below_trans HW6.out HB7.out)
          have HFW := Lib.hid (HF6.out.below HB7.out)
          have QS := Lib.hid (fun o v (h : (#[Value.slice a5 n5 c5, Value.bool s5, Value.slice i5 j5 k5] : Array Value)[o]? = some v) w' (hb : Below w7.heap.size w7 w') => RS.out o v h w' (below_trans HB7.out hb))
          have QR := Lib.hid (fun o v (h : (#[Value.slice ra rn rc, Value.bool rb, Value.slice ri rj rk] : Array Value)[o]? = some v) w' (hb : Below w7.heap.size w7 w') => cells_later HRW.out o v h w' hb)
          have FRR := Lib.hid (frozen_at HRW.out)
          have hv0 := Below.refl w7.heap.size w7
          have hvd : Below w7.heap.size w7 w7.drew := below_drewN hv0 1
          have s0 := QS.out 0 _ rfl _ hv0
          have s1 := QS.out 1 _ rfl _ hv0
          have s2 := QS.out 2 _ rfl _ hv0
          have r0 := QR.out 0 _ rfl _ hv0
          have r1 := QR.out 1 _ rfl _ hv0
          have r2 := QR.out 2 _ rfl _ hv0
          have f0 := FRR.out 0 _ hv0
          have f1 := FRR.out 1 _ hv0
          have f2 := FRR.out 2 _ hv0
          have HON : Hid (Only Bb w7.drew (rat3 w7.drew Bb (Value.slice a5 n5 c5) s5 (Value.slice i5 j5 k5))) := Lib.hid (rat3_only _ _ _ _ _)
          have HRWD : Hid (w7.drew.heap[Bb]? = some (.cells #[Value.slice ra rn rc, Value.bool rb, Value.slice ri rj rk] 63 (0, 0))) := Lib.hid HRW.out
          have HROW9 : Hid ((rat3 w7.drew Bb (Value.slice a5 n5 c5) s5 (Value.slice i5 j5 k5)).heap[Bb]? = some (.cells #[Value.slice a5 n5 c5, Value.bool s5, Value.slice i5 j5 k5] 63 (0, 0))) := Lib.hid (heap_setCell_same _ _ 2 _ _ _ (heap_setCell_same _ _ 1 _ _ _ (heap_setCell_same _ _ 0 _ _ _ HRWD.out)))
          have HQ9 := Lib.hid ((RatQ.below HFW.out hvd).other HRWD.out HON.out)
          have HB9 := Lib.hid (below_only (below_trans HWW.out hvd) HON.out hBw)
          go_wp2_with fail
          go_region
          all_goals
            go_wp2_with fail
            go_roundw
          all_goals first
            | exact ⟨i + 1, _, _, _, _, _, _, _, by omega, by go_num, by rw [HE2.out.1], HROW9, Lib.hid (fun z hz => by rw [HE2.out.2] at hz; cases hz; rw [HQ.out]; exact HQ9.out), HB9⟩
            | (simp [intOf]; omega)
        · have t1 : (o == side) = false := by simpa using hs
          have HE2 : Hid (bstI side qs (i + 1) = (at9 : Nat) ∧ bst side qs (i + 1) = some at9) := Lib.hid (by
            have h9 := bst_no hb (by rw [HQ.out, ← HO.out]; exact hs)
            exact ⟨by unfold bstI; rw [h9], h9⟩)
          have HW7 := Lib.hid (below_trans HW6.out hb7)
          have HROW7 : Hid (w7.heap[Bb]? = some (.cells #[Value.slice ra rn rc, Value.bool rb, Value.slice ri rj rk] 63 (0, 0))) := Lib.hid ((hb7.block _ (lt_of_block HROW6.out)).trans HROW6.out)
          have HQ7 := Lib.hid (HQA.out.below (below_trans HY6.out hb7))
          clear hb hs s0 s1 s2 r0 r1 r2 hb7
          go_wp2_with fail
          go_roundw
          case rel => exact ⟨i + 1, _, _, _, _, _, _, _, by omega, by go_num, by rw [HE2.out.1], HROW7, Lib.hid (fun z hz => by rw [HE2.out.2] at hz; cases hz; exact HQ7.out), HW7⟩
          case measure => simp [intOf]; omega
    · have t0 : decide ((i : Int) < (n : Int)) = false := by simp; omega
      have he : i = n := by omega
      subst he
      go_wp2_with fail
      go_ret
      exact ⟨rfl, hB.out⟩

theorem least_w {N : Nat} {w : World} {v : Value} {qs : List Rat} (hl : ListF N w v qs) (hN : N ≤ 50) (hn : qs.length ≤ 20) :
    Calls Try.prog 48 #[v] w fun e w' => e = .returned (.int .i64 (bstI (-1) qs qs.length)) ∧ Below w.heap.size w w' := by
  have K := Lib.hid (first_w (side := -1) hl hN hn)
  obtain ⟨z, hz⟩ : ∃ z, z = bstI (-1) qs qs.length := ⟨_, rfl⟩
  rw [← hz] at K ⊢
  clear hl hN hn hz
  go_enter Try.func48, Try.ntmps48
  go_wp2_with fail
  refine K.out.mono ?_
  rintro en2 w2 ⟨rfl, hb2⟩
  go_wp2_with fail
  go_ret
  exact ⟨rfl, hb2⟩

theorem most_w {N : Nat} {w : World} {v : Value} {qs : List Rat} (hl : ListF N w v qs) (hN : N ≤ 50) (hn : qs.length ≤ 20) :
    Calls Try.prog 50 #[v] w fun e w' => e = .returned (.int .i64 (bstI (1) qs qs.length)) ∧ Below w.heap.size w w' := by
  have K := Lib.hid (first_w (side := 1) hl hN hn)
  obtain ⟨z, hz⟩ : ∃ z, z = bstI (1) qs qs.length := ⟨_, rfl⟩
  rw [← hz] at K ⊢
  clear hl hN hn hz
  go_enter Try.func50, Try.ntmps50
  go_wp2_with fail
  refine K.out.mono ?_
  rintro en2 w2 ⟨rfl, hb2⟩
  go_wp2_with fail
  go_ret
  exact ⟨rfl, hb2⟩
end Go.Proofs.Ytebgkfcglmjokaa

/- Lists of fractions: sums of the reference. -/
namespace Go.Proofs.Ytebgkfcglmjokaa
open Go.RowKit
attribute [local go_sem ↓] Go.wp_at_zero Go.wp_at_succ

theorem radd_v {w : World} {v t : Value} {P S Q : Rat} (hv : FracV w v P) (ht : FracV w t S) (h1 : lenQ P ≤ 4096) (h2 : lenQ S ≤ 4096) (h3 : lenQ Q ≤ 4096) (hQ : P + S = Q) :
    Calls Try.prog 25 #[v, t] w (RTell w Q) := by
  subst hQ
  have h := radd_w hv.raw ht.raw h1 h2
  rw [fix_digs h1, fix_digs h2, cut_id h3] at h
  exact h
theorem radd_m {n : Nat} {w : World} {v t : Value} {P S Q : Rat} (hv : FracV w v P) (ht : FewF n w t S) (hn : n ≤ 100) (h1 : lenQ P ≤ 4096) (h3 : lenQ Q ≤ 4096) (hQ : P + S = Q) :
    Calls Try.prog 25 #[v, t] w (RTell w Q) := by
  subst hQ
  obtain ⟨b', l', m', hr, rfl, hl2, hm2⟩ := ht
  have h := radd_w hv.raw hr h1 (by omega)
  rw [fix_digs h1, cut_id h3] at h
  exact h
theorem few_zero {N : Nat} {w : World} {b : Bool} {a1 a2 : Option Addr} {n1 c1 n2 c2 : Nat} {q : Rat} (h : FewF N w (.agg #[.bool b, .slice a1 n1 c1, .slice a2 n2 c2]) q) (h0 : n1 = 0) : q = 0 := by
  obtain ⟨b', l, m, ⟨u, d, he, hu, hd⟩, hq, -, -⟩ := h
  simp only [Value.agg.injEq, Array.mk.injEq, List.cons.injEq, and_true] at he
  obtain ⟨-, rfl, rfl⟩ := he
  have hl : l = [] := List.eq_nil_of_length_eq_zero (by rw [← hu.lenE]; exact h0)
  rw [hq]
  cases hR : rightB b' l m with
  | false => unfold fixR; rw [hR]; rfl
  | true =>
    obtain ⟨e1, -, -, -⟩ := right_rat hu.ws hd.ws hR
    rw [hl] at e1
    have h9 : (fixR b' [] m).num.natAbs = 0 := by
      rw [← hl]
      rcases Nat.eq_zero_or_pos (fixR b' l m).num.natAbs with h | h
      · exact h
      · rw [hl] at h
        rw [digs_pos (by omega)] at e1; simp at e1
    rw [hl]
    exact Rat.num_eq_zero.1 (by omega)
theorem sumR_next (g : Nat → Rat) (i : Nat) : sumR g 0 i + g i = sumR g 0 (i + 1) := by
  show _ = sumR g 0 i + g (0 + i)
  rw [Nat.zero_add]

set_option maxRecDepth 8000 in
set_option maxHeartbeats 4000000 in
theorem rsums_w {N : Nat} {w : World} {v : Value} {qs : List Rat} (hl : ListF N w v qs) (hN : N ≤ 50) (hn : qs.length ≤ 20) :
    Calls Try.prog 45 #[v] w (RTell w (sumR (nthQ qs) 0 qs.length)) := by
  obtain ⟨a, c, rfl, -⟩ := id hl
  obtain ⟨n, hnn⟩ : ∃ n, n = qs.length := ⟨_, rfl⟩
  rw [← hnn] at hl hn ⊢
  obtain ⟨w1, hw1⟩ : ∃ w1, w1 = w.alloc (Obj.cells #[Value.bool false, Value.slice none 0 0, Value.slice none 0 0] 24) := ⟨_, rfl⟩
  have HB1 : Hid (Below w.heap.size w w1) := Lib.hid (by rw [hw1]; exact (Below.refl _ _).alloc (Nat.le_refl _) _)
  have HR : Hid (w1.heap[w.heap.size]? = some (.cells #[Value.bool false, Value.slice none 0 0, Value.slice none 0 0] 24 (0, 0))) := Lib.hid (by rw [hw1]; exact heap_alloc_new w _)
  have HW1 := Lib.hid hw1.symm
  have HL := Lib.hid hl
  have HSZ : Hid (∀ i, i ≤ n → lenQ (sumR (nthQ qs) 0 i) ≤ 4096) := Lib.hid (fun i hi => by
    have h := sz_len (sz_sum (g := nthQ qs) (lo := 0) (n := i) (m := N) fun j h1 h2 => by
      obtain ⟨q, B, off, b, a1, n1, c1, a2, n2, c2, hq, -, -, hf⟩ := hl.at (i := j) (by omega)
      rw [nthQ_of hq]; exact few_sz hf) (by omega)
    have h9 : N * i ≤ 50 * 20 := Nat.mul_le_mul hN (by omega)
    omega)
  clear hw1 hl hnn
  go_enter Try.func45, Try.ntmps45
  go_wp2_with fail
  rw [HW1.out]
  refine rzero_w.mono ?_
  rintro en2 w2 ⟨⟨v2, rfl, f2⟩, hb2⟩
  obtain ⟨a2, n2, c2, i2, j2, k2, hq2⟩ := frac_form f2
  subst hq2
  go_wp2_with ((with_reducible refine at_store ?_); refine wpList_store_var rfl _ _ _ rfl w2.heap.size rfl _ rfl _ _ (heap_alloc_new _ _) ifrac rfl frac_one ?_; intro w3 h3 hon3; refine halt ?_)
  have hb3 : Below w2.heap.size w2 w3 := below_only ((Below.refl _ _).alloc (Nat.le_refl _) _) hon3 (Nat.le_refl _)
  obtain ⟨Ba, hBa⟩ : ∃ B, B = w2.heap.size := ⟨_, rfl⟩
  have hBw : w.heap.size + 1 ≤ Ba := by have h8 := lt_of_block HR.out; have h9 := hb2.size; omega
  have hBw1 : w1.heap.size ≤ Ba := by have h9 := hb2.size; omega
  have HROW3 : Hid (w3.heap[Ba]? = some (.cells #[Value.bool (decide ((0 : Rat).num < 0)), Value.slice a2 n2 c2, Value.slice i2 j2 k2] 24 (0, 0))) := Lib.hid (by rw [hBa]; exact h3)
  have HF3 := Lib.hid (f2.below hb3)
  have HZ3 := Lib.hid (below_trans hb2 hb3)
  rw [← hBa]
  clear h3 hon3 hb3 hb2 f2 hBa
  refine go_on ?_
  go_wp2_with fail
  go_loopw [4] (fun iv wr => ∃ (i : Nat) (ra : Bool) (ab : Option Addr) (an ac : Nat) (ai : Option Addr) (aj ak : Nat), i ≤ n ∧ iv = .int .i64 i ∧ Hid (wr.heap[Ba]? = some (.cells #[Value.bool ra, Value.slice ab an ac, Value.slice ai aj ak] 24 (0, 0))) ∧ Hid (FracV wr (.agg #[Value.bool ra, Value.slice ab an ac, Value.slice ai aj ak]) (sumR (nthQ qs) 0 i)) ∧ Hid (Below w1.heap.size w1 wr)) (fun iv _ => n - (intOf iv).toNat)
  case atStart => exact ⟨0, _, _, _, _, _, _, _, Nat.zero_le _, rfl, HROW3, HF3, HZ3⟩
  case round =>
    obtain ⟨i, ra, ab, an, ac, ai, aj, ak, hi, rfl, hrow, hfa, hZ⟩ := hrel
    obtain ⟨wo, rfl⟩ : ∃ wo : World, wo = wr := ⟨_, rfl⟩
    by_cases hin : i < n
    · have t0 : decide ((i : Int) < (n : Int)) = true := by simp; omega
      obtain ⟨q, B, off, b, a1, n1, c1, a2, n2, c2, hq, ha, hc, hf⟩ := HL.out.at hin
      subst ha
      have hltB := cell_lt (hc w (Below.refl _ _)).1
      have HW := Lib.hid (below_trans HB1.out hZ.out)
      have RC : Hid (∀ w', Below wo.heap.size wo w' → w'.cell? ⟨B, off + i * 3, none⟩ = some (.bool b) ∧ w'.cell? ⟨B, off + i * 3 + 1, none⟩ = some (.slice a1 n1 c1) ∧ w'.cell? ⟨B, off + i * 3 + 2, none⟩ = some (.slice a2 n2 c2)) := Lib.hid (fun w' h => hc w' (below_trans HW.out h))
      have RA := Lib.hid (cells_later hrow.out)
      have FA := Lib.hid (frozen_at hrow.out)
      obtain ⟨Q, hQ⟩ : ∃ Q, Q = sumR (nthQ qs) 0 (i + 1) := ⟨_, rfl⟩
      have HNX : Hid (sumR (nthQ qs) 0 i + q = Q) := Lib.hid (by rw [hQ, ← sumR_next, nthQ_of hq])
      have HLQ : Hid (lenQ Q ≤ 4096) := Lib.hid (by rw [hQ]; exact HSZ.out (i + 1) (by omega))
      have K := Lib.hid (fun w' (hb : Below wo.heap.size wo w') => radd_m (w := w') (hfa.out.below hb) (hf.below (below_trans HW.out hb)) (by omega) (HSZ.out i hi) HLQ.out HNX.out)
      have HQ := Lib.hid hQ
      have hw0 := Below.refl wo.heap.size wo
      obtain ⟨x0, x1, x2⟩ := RC.out _ hw0
      have s0 := RA.out 0 _ rfl _ hw0
      have s1 := RA.out 1 _ rfl _ hw0
      have s2 := RA.out 2 _ rfl _ hw0
      have hz0 : Below wo.heap.size wo wo.drew := below_drewN hw0 1
      clear hc hf hq hQ
      go_wp2_with fail
      go_region_with (first | (go_at_call 25; refine (K.out _ hz0).mono ?_; rintro en4 w4 ⟨⟨r4, rfl, f4⟩, hb4⟩; obtain ⟨a4, n4, c4, i4, j4, k4, hq4⟩ := frac_form f4; subst hq4; have hz4 := below_trans hz0 hb4; have s0 := RA.out 0 _ rfl _ hz4; have s1 := RA.out 1 _ rfl _ hz4; have s2 := RA.out 2 _ rfl _ hz4; have g0 := FA.out 0 _ hz4; have g1 := FA.out 1 _ hz4; have g2 := FA.out 2 _ hz4))
      all_goals
        have HROW4 : Hid (w4.heap[Ba]? = some (.cells #[Value.bool ra, Value.slice ab an ac, Value.slice ai aj ak] 24 (0, 0))) := Lib.hid ((hz4.block _ (lt_of_block hrow.out)).trans hrow.out)
        have HON : Hid (Only Ba w4 (frac3 w4 Ba (decide (Q.num < 0)) (Value.slice a4 n4 c4) (Value.slice i4 j4 k4))) := Lib.hid (frac3_only _ _ _ _ _)
        have HROW5 : Hid ((frac3 w4 Ba (decide (Q.num < 0)) (Value.slice a4 n4 c4) (Value.slice i4 j4 k4)).heap[Ba]? = some (.cells #[Value.bool (decide (Q.num < 0)), Value.slice a4 n4 c4, Value.slice i4 j4 k4] 24 (0, 0))) := Lib.hid (frac_row HROW4.out)
        have HF5 : Hid (FracV (frac3 w4 Ba (decide (Q.num < 0)) (Value.slice a4 n4 c4) (Value.slice i4 j4 k4)) (.agg #[Value.bool (decide (Q.num < 0)), Value.slice a4 n4 c4, Value.slice i4 j4 k4]) (sumR (nthQ qs) 0 (i + 1))) := Lib.hid (by rw [← HQ.out]; exact f4.other HROW4.out HON.out)
        have HZ5 := Lib.hid (below_only (below_trans hZ.out hz4) HON.out hBw1)
        go_wp2_with fail
        go_roundw
      all_goals first
        | exact ⟨i + 1, _, _, _, _, _, _, _, by omega, by go_num, HROW5, HF5, HZ5⟩
        | (simp [intOf]; omega)
    · have t0 : decide ((i : Int) < (n : Int)) = false := by simp; omega
      have he : i = n := by omega
      subst he
      have HRe : Hid (wo.heap[w.heap.size]? = some (.cells #[Value.bool false, Value.slice none 0 0, Value.slice none 0 0] 24 (0, 0))) := Lib.hid ((hZ.out.block _ (lt_of_block HR.out)).trans HR.out)
      have HF9 := Lib.hid (hfa.out.other HRe.out (frac3_only _ _ ra (Value.slice ab an ac) (Value.slice ai aj ak)))
      have HB9 := Lib.hid (below_trans HB1.out hZ.out)
      have r0 := cells_later HRe.out 0 _ rfl _ (Below.refl _ _)
      have r1 := cells_later HRe.out 1 _ rfl _ (Below.refl _ _)
      have r2 := cells_later HRe.out 2 _ rfl _ (Below.refl _ _)
      have f0 := frozen_of_row _ _ 0 _ _ HRe.out
      have f1 := frozen_of_row _ _ 1 _ _ HRe.out
      have f2 := frozen_of_row _ _ 2 _ _ HRe.out
      have s0 := cells_later hrow.out 0 _ rfl _ (Below.refl _ _)
      have s1 := cells_later hrow.out 1 _ rfl _ (Below.refl _ _)
      have s2 := cells_later hrow.out 2 _ rfl _ (Below.refl _ _)
      go_wp2_with fail
      exact bodyPost_ret (results_cell_row rfl _ _ (w.heap.size) _ _ _ _ rfl (frac3_heap HRe.out) Try.underlying24 rfl ifrac) rfl ⟨⟨_, rfl, HF9.out⟩, below_only HB9.out (frac3_only _ _ _ _ _) (by omega)⟩
end Go.Proofs.Ytebgkfcglmjokaa

/- Lists of fractions: sums of products of the reference. -/
namespace Go.Proofs.Ytebgkfcglmjokaa
open Go.RowKit
attribute [local go_sem ↓] Go.wp_at_zero Go.wp_at_succ

set_option maxRecDepth 8000 in
set_option maxHeartbeats 8000000 in
theorem rdot_w {N : Nat} {w : World} {v v' : Value} {qs ps : List Rat} (hl : ListF N w v qs) (hl2 : ListF N w v' ps) (hN : N ≤ 50) (hn : qs.length ≤ 20) (hn2 : ps.length ≤ 20) :
    Calls Try.prog 47 #[v, v'] w (RTell w (sumR (fun i => nthQ qs i * nthQ ps i) 0 (min qs.length ps.length))) := by
  obtain ⟨a, c, rfl, -⟩ := id hl
  obtain ⟨a', c', rfl, -⟩ := id hl2
  obtain ⟨n, hnn⟩ : ∃ n, n = qs.length := ⟨_, rfl⟩
  obtain ⟨n', hnn'⟩ : ∃ n, n = ps.length := ⟨_, rfl⟩
  rw [← hnn] at hl hn ⊢
  rw [← hnn'] at hl2 hn2 ⊢
  obtain ⟨g, hg⟩ : ∃ g, g = fun i => nthQ qs i * nthQ ps i := ⟨_, rfl⟩
  rw [← hg]
  have HGI : Hid (∀ i, g i = nthQ qs i * nthQ ps i) := Lib.hid (fun i => by rw [hg])
  obtain ⟨w1, hw1⟩ : ∃ w1, w1 = w.alloc (Obj.cells #[Value.bool false, Value.slice none 0 0, Value.slice none 0 0] 24) := ⟨_, rfl⟩
  have HB1 : Hid (Below w.heap.size w w1) := Lib.hid (by rw [hw1]; exact (Below.refl _ _).alloc (Nat.le_refl _) _)
  have HR : Hid (w1.heap[w.heap.size]? = some (.cells #[Value.bool false, Value.slice none 0 0, Value.slice none 0 0] 24 (0, 0))) := Lib.hid (by rw [hw1]; exact heap_alloc_new w _)
  have HW1 := Lib.hid hw1.symm
  have HL := Lib.hid hl
  have HL2 := Lib.hid hl2
  obtain ⟨k, hk⟩ : ∃ k, k = min n n' := ⟨_, rfl⟩
  rw [← hk]
  have HK : Hid (k ≤ n ∧ k ≤ n' ∧ (∀ i, i < n → i < n' → i < k) ∧ (∀ i, i ≤ k → (¬ i < n ∨ ¬ i < n') → i = k)) := Lib.hid ⟨by omega, by omega, fun i h1 h2 => by omega, fun i h1 h2 => by omega⟩
  have HSZ : Hid (∀ i, i ≤ k → lenQ (sumR g 0 i) ≤ 4096) := Lib.hid (fun i hi => by
    have h := sz_len (sz_sum (g := g) (lo := 0) (n := i) (m := 2 * N) fun j h1 h2 => by
      obtain ⟨q, B, off, b, a1, n1, c1, a2, n2, c2, hq, -, -, hf⟩ := hl.at (i := j) (by omega)
      obtain ⟨q', B', off', b', a3, n3, c3, a4, n4, c4, hq', -, -, hf'⟩ := hl2.at (i := j) (by omega)
      rw [HGI.out, nthQ_of hq, nthQ_of hq']; exact sz_mul (few_sz hf) (few_sz hf')) (by omega)
    have h9 : 2 * N * i ≤ 100 * 20 := Nat.mul_le_mul (by omega) (by omega)
    omega)
  clear hw1 hl hl2 hnn hnn' hg hk
  go_enter Try.func47, Try.ntmps47
  go_wp2_with fail
  rw [HW1.out]
  refine rzero_w.mono ?_
  rintro en2 w2 ⟨⟨v2, rfl, f2⟩, hb2⟩
  obtain ⟨a2, n2, c2, i2, j2, k2, hq2⟩ := frac_form f2
  subst hq2
  go_wp2_with ((with_reducible refine at_store ?_); refine wpList_store_var rfl _ _ _ rfl w2.heap.size rfl _ rfl _ _ (heap_alloc_new _ _) ifrac rfl frac_one ?_; intro w3 h3 hon3; refine halt ?_)
  have hb3 : Below w2.heap.size w2 w3 := below_only ((Below.refl _ _).alloc (Nat.le_refl _) _) hon3 (Nat.le_refl _)
  obtain ⟨Ba, hBa⟩ : ∃ B, B = w2.heap.size := ⟨_, rfl⟩
  have hBw : w.heap.size + 1 ≤ Ba := by have h8 := lt_of_block HR.out; have h9 := hb2.size; omega
  have hBw1 : w1.heap.size ≤ Ba := by have h9 := hb2.size; omega
  have HROW3 : Hid (w3.heap[Ba]? = some (.cells #[Value.bool (decide ((0 : Rat).num < 0)), Value.slice a2 n2 c2, Value.slice i2 j2 k2] 24 (0, 0))) := Lib.hid (by rw [hBa]; exact h3)
  have HF3 := Lib.hid (f2.below hb3)
  have HZ3 := Lib.hid (below_trans hb2 hb3)
  rw [← hBa]
  clear h3 hon3 hb3 hb2 f2 hBa
  refine go_on ?_
  go_wp2_with fail
  go_loopw [6] (fun iv wr => ∃ (i : Nat) (ra : Bool) (ab : Option Addr) (an ac : Nat) (ai : Option Addr) (aj ak : Nat), i ≤ k ∧ iv = .int .i64 i ∧ Hid (wr.heap[Ba]? = some (.cells #[Value.bool ra, Value.slice ab an ac, Value.slice ai aj ak] 24 (0, 0))) ∧ Hid (FracV wr (.agg #[Value.bool ra, Value.slice ab an ac, Value.slice ai aj ak]) (sumR g 0 i)) ∧ Hid (Below w1.heap.size w1 wr)) (fun iv _ => k - (intOf iv).toNat)
  case atStart => exact ⟨0, _, _, _, _, _, _, _, Nat.zero_le _, rfl, HROW3, HF3, HZ3⟩
  case round =>
    obtain ⟨i, ra, ab, an, ac, ai, aj, ak, hi, rfl, hrow, hfa, hZ⟩ := hrel
    obtain ⟨wo, rfl⟩ : ∃ wo : World, wo = wr := ⟨_, rfl⟩
    have hk9 : k ≤ 20 := by have := HK.out.1; omega
    by_cases hin : i < n
    · have t0 : decide ((i : Int) < (n : Int)) = true := by simp; omega
      by_cases hin2 : i < n'
      · have t1 : decide ((i : Int) < (n' : Int)) = true := by simp; omega
        have hik := HK.out.2.2.1 i hin hin2
        obtain ⟨q, B, off, b, a1, n1, c1, a2, n2, c2, hq, ha, hc, hf⟩ := HL.out.at hin
        subst ha
        obtain ⟨q', B', off', b', a3, n3, c3, a4, n4, c4, hq', ha', hc', hf'⟩ := HL2.out.at hin2
        subst ha'
        have HW := Lib.hid (below_trans HB1.out hZ.out)
        have RC : Hid (∀ w', Below wo.heap.size wo w' → (w'.cell? ⟨B, off + i * 3, none⟩ = some (.bool b) ∧ w'.cell? ⟨B, off + i * 3 + 1, none⟩ = some (.slice a1 n1 c1) ∧ w'.cell? ⟨B, off + i * 3 + 2, none⟩ = some (.slice a2 n2 c2)) ∧ (w'.cell? ⟨B', off' + i * 3, none⟩ = some (.bool b') ∧ w'.cell? ⟨B', off' + i * 3 + 1, none⟩ = some (.slice a3 n3 c3) ∧ w'.cell? ⟨B', off' + i * 3 + 2, none⟩ = some (.slice a4 n4 c4))) := Lib.hid (fun w' h => ⟨hc w' (below_trans HW.out h), hc' w' (below_trans HW.out h)⟩)
        have RA := Lib.hid (cells_later hrow.out)
        have FA := Lib.hid (frozen_at hrow.out)
        have HGQ : Hid (g i = q * q') := Lib.hid (by rw [HGI.out, nthQ_of hq, nthQ_of hq'])
        have HNX : Hid (sumR g 0 i + g i = sumR g 0 (i + 1)) := Lib.hid (sumR_next g i)
        have hw0 := Below.refl wo.heap.size wo
        obtain ⟨⟨x0, x1, x2⟩, y0, y1, y2⟩ := RC.out _ hw0
        have hln1 : n1 ≤ 1073741824 := by
          obtain ⟨_, _, _, ⟨_, _, he, hu, _⟩, _, _, _⟩ := hf
          simp only [Value.agg.injEq, Array.mk.injEq, List.cons.injEq, and_true] at he
          obtain ⟨-, rfl, -⟩ := he
          have := hu.lenE; have := hu.len; omega
        have hln3 : n3 ≤ 1073741824 := by
          obtain ⟨_, _, _, ⟨_, _, he, hu, _⟩, _, _, _⟩ := hf'
          simp only [Value.agg.injEq, Array.mk.injEq, List.cons.injEq, and_true] at he
          obtain ⟨-, rfl, -⟩ := he
          have := hu.lenE; have := hu.len; omega
        by_cases h1 : 0 < n1
        · have u1 : decide ((0 : Int) < (n1 : Int)) = true := by simp; omega
          by_cases h3 : 0 < n3
          · have u3 : decide ((0 : Int) < (n3 : Int)) = true := by simp; omega
            obtain ⟨Q, hQ⟩ : ∃ Q, Q = sumR g 0 (i + 1) := ⟨_, rfl⟩
            have HQ := Lib.hid hQ
            have HLQ : Hid (lenQ Q ≤ 4096) := Lib.hid (by rw [hQ]; exact HSZ.out (i + 1) (by omega))
            obtain ⟨M, hM⟩ : ∃ M, q * q' = M := ⟨_, rfl⟩
            have HLM : Hid (lenQ M ≤ 4096) := Lib.hid (by rw [← hM]; have h9 := len_mul q q'; have := hf.len; have := hf'.len; omega)
            have K1 := Lib.hid (fun w' (hb : Below wo.heap.size wo w') => rmul_f (w := w') (hf.below (below_trans HW.out hb)) (hf'.below (below_trans HW.out hb)) (by omega) hM)
            have K2 := Lib.hid (fun w' y (hb : Below wo.heap.size wo w') (hy : FracV w' y M) => radd_v (w := w') (Q := Q) (hfa.out.below hb) hy (HSZ.out i hi) HLM.out HLQ.out (by rw [← hM, ← HGQ.out, HNX.out, hQ]))
            have s0 := RA.out 0 _ rfl _ hw0
            have s1 := RA.out 1 _ rfl _ hw0
            have s2 := RA.out 2 _ rfl _ hw0
            have hz0 : Below wo.heap.size wo wo.drew := below_drewN hw0 1
            clear hc hc' hf hf' hq hq' hQ hM
            go_wp2_with fail
            go_region_with (first | (go_at_call 29; refine (K1.out _ hz0).mono ?_; rintro en3 w3 ⟨⟨r3, rfl, f3⟩, hb3⟩; obtain ⟨a3', n3', c3', i3', j3', k3', hq3⟩ := frac_form f3; subst hq3; have hz3 := below_trans hz0 hb3; have s0 := RA.out 0 _ rfl _ hz3; have s1 := RA.out 1 _ rfl _ hz3; have s2 := RA.out 2 _ rfl _ hz3) | (go_at_call 25; refine (K2.out _ _ hz3 f3).mono ?_; rintro en4 w4 ⟨⟨r4, rfl, f4⟩, hb4⟩; obtain ⟨a4', n4', c4', i4', j4', k4', hq4⟩ := frac_form f4; subst hq4; have hz4 := below_trans hz3 hb4; have s0 := RA.out 0 _ rfl _ hz4; have s1 := RA.out 1 _ rfl _ hz4; have s2 := RA.out 2 _ rfl _ hz4; have g0 := FA.out 0 _ hz4; have g1 := FA.out 1 _ hz4; have g2 := FA.out 2 _ hz4))
            all_goals
              have HROW4 : Hid (w4.heap[Ba]? = some (.cells #[Value.bool ra, Value.slice ab an ac, Value.slice ai aj ak] 24 (0, 0))) := Lib.hid ((hz4.block _ (lt_of_block hrow.out)).trans hrow.out)
              have HON : Hid (Only Ba w4 (frac3 w4 Ba (decide (Q.num < 0)) (Value.slice a4' n4' c4') (Value.slice i4' j4' k4'))) := Lib.hid (frac3_only _ _ _ _ _)
              have HROW5 : Hid ((frac3 w4 Ba (decide (Q.num < 0)) (Value.slice a4' n4' c4') (Value.slice i4' j4' k4')).heap[Ba]? = some (.cells #[Value.bool (decide (Q.num < 0)), Value.slice a4' n4' c4', Value.slice i4' j4' k4'] 24 (0, 0))) := Lib.hid (frac_row HROW4.out)
              have HF5 : Hid (FracV (frac3 w4 Ba (decide (Q.num < 0)) (Value.slice a4' n4' c4') (Value.slice i4' j4' k4')) (.agg #[Value.bool (decide (Q.num < 0)), Value.slice a4' n4' c4', Value.slice i4' j4' k4']) (sumR g 0 (i + 1))) := Lib.hid (by rw [← HQ.out]; exact f4.other HROW4.out HON.out)
              have HZ5 := Lib.hid (below_only (below_trans hZ.out hz4) HON.out hBw1)
              go_wp2_with fail
              go_roundw
            all_goals first
              | exact ⟨i + 1, _, _, _, _, _, _, _, by omega, by go_num, HROW5, HF5, HZ5⟩
              | (simp [intOf]; omega)
          · have u3 : decide ((0 : Int) < (n3 : Int)) = false := by simp; omega
            have HSAME : Hid (sumR g 0 (i + 1) = sumR g 0 i) := Lib.hid (by
              rw [← HNX.out, HGQ.out, few_zero hf' (by omega), Rat.mul_zero, Rat.add_zero])
            clear hc hc' hf hf' hq hq'
            go_wp2_with fail
            go_roundw
            case rel => exact ⟨i + 1, _, _, _, _, _, _, _, by omega, by go_num, hrow, Lib.hid (by rw [HSAME.out]; exact hfa.out), hZ⟩
            case measure => simp [intOf]; omega
        · have u1 : decide ((0 : Int) < (n1 : Int)) = false := by simp; omega
          have HSAME : Hid (sumR g 0 (i + 1) = sumR g 0 i) := Lib.hid (by
            rw [← HNX.out, HGQ.out, few_zero hf (by omega), Rat.zero_mul, Rat.add_zero])
          clear hc hc' hf hf' hq hq'
          go_wp2_with fail
          go_roundw
          case rel => exact ⟨i + 1, _, _, _, _, _, _, _, by omega, by go_num, hrow, Lib.hid (by rw [HSAME.out]; exact hfa.out), hZ⟩
          case measure => simp [intOf]; omega
      · have t1 : decide ((i : Int) < (n' : Int)) = false := by simp; omega
        have he : i = k := HK.out.2.2.2 i hi (Or.inr hin2)
        subst he
        have HRe : Hid (wo.heap[w.heap.size]? = some (.cells #[Value.bool false, Value.slice none 0 0, Value.slice none 0 0] 24 (0, 0))) := Lib.hid ((hZ.out.block _ (lt_of_block HR.out)).trans HR.out)
        have HF9 := Lib.hid (hfa.out.other HRe.out (frac3_only _ _ ra (Value.slice ab an ac) (Value.slice ai aj ak)))
        have HB9 := Lib.hid (below_trans HB1.out hZ.out)
        have r0 := cells_later HRe.out 0 _ rfl _ (Below.refl _ _)
        have r1 := cells_later HRe.out 1 _ rfl _ (Below.refl _ _)
        have r2 := cells_later HRe.out 2 _ rfl _ (Below.refl _ _)
        have f0 := frozen_of_row _ _ 0 _ _ HRe.out
        have f1 := frozen_of_row _ _ 1 _ _ HRe.out
        have f2 := frozen_of_row _ _ 2 _ _ HRe.out
        have s0 := cells_later hrow.out 0 _ rfl _ (Below.refl _ _)
        have s1 := cells_later hrow.out 1 _ rfl _ (Below.refl _ _)
        have s2 := cells_later hrow.out 2 _ rfl _ (Below.refl _ _)
        go_wp2_with fail
        exact bodyPost_ret (results_cell_row rfl _ _ (w.heap.size) _ _ _ _ rfl (frac3_heap HRe.out) Try.underlying24 rfl ifrac) rfl ⟨⟨_, rfl, HF9.out⟩, below_only HB9.out (frac3_only _ _ _ _ _) (by omega)⟩
    · have t0 : decide ((i : Int) < (n : Int)) = false := by simp; omega
      have he : i = k := HK.out.2.2.2 i hi (Or.inl hin)
      subst he
      have HRe : Hid (wo.heap[w.heap.size]? = some (.cells #[Value.bool false, Value.slice none 0 0, Value.slice none 0 0] 24 (0, 0))) := Lib.hid ((hZ.out.block _ (lt_of_block HR.out)).trans HR.out)
      have HF9 := Lib.hid (hfa.out.other HRe.out (frac3_only _ _ ra (Value.slice ab an ac) (Value.slice ai aj ak)))
      have HB9 := Lib.hid (below_trans HB1.out hZ.out)
      have r0 := cells_later HRe.out 0 _ rfl _ (Below.refl _ _)
      have r1 := cells_later HRe.out 1 _ rfl _ (Below.refl _ _)
      have r2 := cells_later HRe.out 2 _ rfl _ (Below.refl _ _)
      have f0 := frozen_of_row _ _ 0 _ _ HRe.out
      have f1 := frozen_of_row _ _ 1 _ _ HRe.out
      have f2 := frozen_of_row _ _ 2 _ _ HRe.out
      have s0 := cells_later hrow.out 0 _ rfl _ (Below.refl _ _)
      have s1 := cells_later hrow.out 1 _ rfl _ (Below.refl _ _)
      have s2 := cells_later hrow.out 2 _ rfl _ (Below.refl _ _)
      go_wp2_with fail
      exact bodyPost_ret (results_cell_row rfl _ _ (w.heap.size) _ _ _ _ rfl (frac3_heap HRe.out) Try.underlying24 rfl ifrac) rfl ⟨⟨_, rfl, HF9.out⟩, below_only HB9.out (frac3_only _ _ _ _ _) (by omega)⟩
end Go.Proofs.Ytebgkfcglmjokaa

/- Lists of fractions: copies. -/
namespace Go.Proofs.Ytebgkfcglmjokaa
open Go.RowKit
attribute [local go_sem ↓] Go.wp_at_zero Go.wp_at_succ

set_option maxRecDepth 4000 in
set_option maxHeartbeats 2000000 in
theorem rcopy_o {w : World} {v : Value} {b : Bool} {l m : List Nat} (hv : RawF w v b l m) (hl : l.length ≤ 100000) (hm : m.length ≤ 100000) :
    Calls Try.prog 13 #[v] w fun e w' => (∃ r, e = .returned r ∧ RawF w' r b l m ∧ NewF w r) ∧ Below w.heap.size w w' := by
  obtain ⟨u, d, rfl, hu, hd⟩ := hv
  obtain ⟨ua, un, uc, hue⟩ := hu.form
  subst hue
  obtain ⟨da, dn, dc, hde⟩ := hd.form
  subst hde
  have HU := Lib.hid hu
  have HD := Lib.hid hd
  clear hu hd
  obtain ⟨w1, hw1⟩ : ∃ w1, w1 = (w.alloc (Obj.cells #[Value.bool b, Value.slice ua un uc, Value.slice da dn dc] 24)).alloc (Obj.cells #[Value.bool false, Value.slice none 0 0, Value.slice none 0 0] 24) := ⟨_, rfl⟩
  have HB1 : Hid (Below w.heap.size w w1) := Lib.hid (by rw [hw1]; exact ((Below.refl _ _).alloc (Nat.le_refl _) _).alloc (by simp) _)
  have HX : Hid (w1.heap[w.heap.size]? = some (.cells #[Value.bool b, Value.slice ua un uc, Value.slice da dn dc] 24 (0, 0))) := Lib.hid (by rw [hw1]; exact heap_alloc2_old w _ _)
  have HR : Hid (w1.heap[w.heap.size + 1]? = some (.cells #[Value.bool false, Value.slice none 0 0, Value.slice none 0 0] 24 (0, 0))) := Lib.hid (by rw [hw1]; exact heap_alloc2_new w _ _)
  have HW1 := Lib.hid hw1.symm
  clear hw1
  have RX := Lib.hid (cells_later HX.out)
  have R0 : Hid (∀ o v, (#[Value.bool false, Value.slice none 0 0, Value.slice none 0 0] : Array Value)[o]? = some v → ∀ w', Below w1.heap.size w1 w' → w'.cell? ⟨w.heap.size + 1, o, none⟩ = some v ∧ w'.frozen? ⟨w.heap.size + 1, o, none⟩ = false) :=
    Lib.hid (fun o v h w' hb => ⟨cells_later HR.out o v h w' hb, frozen_of_row _ _ o _ _ ((hb.block _ (lt_of_block HR.out)).trans HR.out)⟩)
  have K1 := Lib.hid (fun w' (hb : Below w1.heap.size w1 w') => rwords_w (w := w') (HU.out.below (below_trans HB1.out hb)) hl)
  have K2 := Lib.hid (fun w' (hb : Below w1.heap.size w1 w') => rwords_w (w := w') (HD.out.below (below_trans HB1.out hb)) hm)
  clear hl hm
  have hz1 := Below.refl w1.heap.size w1
  have hz0 : Below w1.heap.size w1 w1.drew := below_drewN hz1 1
  have x0 := RX.out 0 _ rfl _ hz1
  have x1 := RX.out 1 _ rfl _ hz1
  have x2 := RX.out 2 _ rfl _ hz1
  go_enter Try.func13, Try.ntmps13
  go_wp2_with fail
  rw [HW1.out]
  go_region_held3 (fun w' => w'.cell? ⟨w.heap.size, 0, none⟩ = some (.bool b) ∧ w'.cell? ⟨w.heap.size, 1, none⟩ = some (.slice ua un uc) ∧ w'.cell? ⟨w.heap.size, 2, none⟩ = some (.slice da dn dc))
    (((try dsimp only); refine ⟨?_, ?_, ?_⟩ <;> (first | exact RX.out _ _ rfl _ (by assumption) | (rw [World.cell?_setCell_far _ _ _ _ (by dsimp only; omega), World.cell?_setCell_far _ _ _ _ (by dsimp only; omega), World.cell?_setCell_far _ _ _ _ (by dsimp only; omega)]; exact RX.out _ _ rfl _ (by assumption)) | go_keep)))
    (first | (go_at_call_of 57 (Value.slice ua un uc); refine (K1.out _ hz0).mono ?_; rintro en4 w4 ⟨⟨r4, rfl, hr4, ho4⟩, hb4⟩; obtain ⟨a4, n4, c4, he4⟩ := hr4.form; subst he4; have hz4 := below_trans hz0 hb4) | (go_at_call 57; refine (K2.out _ hz4).mono ?_; rintro en5 w5 ⟨⟨r5, rfl, hr5, ho5⟩, hb5⟩; obtain ⟨a5, n5, c5, he5⟩ := hr5.form; subst he5; have hz5 := below_trans hz4 hb5; have r0 := (R0.out 0 _ rfl _ hz5).1; have r1 := (R0.out 1 _ rfl _ hz5).1; have r2 := (R0.out 2 _ rfl _ hz5).1; have f0 := (R0.out 0 _ rfl _ hz5).2; have f1 := (R0.out 1 _ rfl _ hz5).2; have f2 := (R0.out 2 _ rfl _ hz5).2))
  have HR5 : Hid (w5.heap[w.heap.size + 1]? = some (.cells #[Value.bool false, Value.slice none 0 0, Value.slice none 0 0] 24 (0, 0))) := Lib.hid ((hz5.block _ (lt_of_block HR.out)).trans HR.out)
  have H4 := Lib.hid (hr4.below hb5)
  have H5 := Lib.hid hr5
  have HB5 := Lib.hid (below_trans HB1.out hz5)
  have HO4 : Hid (∀ x, (Value.slice a4 n4 c4).ownBlock = some x → w.heap.size ≤ x) := Lib.hid (fun x hx => by have h1 := ho4 x hx; have h2 := HB1.out.size; have h3 : w1.drew.heap.size = w1.heap.size := rfl; omega)
  have HO5 : Hid (∀ x, (Value.slice a5 n5 c5).ownBlock = some x → w.heap.size ≤ x) := Lib.hid (fun x hx => by have h1 := ho5 x hx; have h2 := HB1.out.size; have h3 := hz4.size; omega)
  clear r0 r1 r2 f0 f1 f2 hr4 hr5 ho4 ho5 hb4 hb5 hz0 hz1 hz4 hz5 x0 x1 x2
  go_wp2_with fail
  exact bodyPost_ret (results_cell_row rfl _ _ (w.heap.size + 1) _ _ _ _ rfl (frac3_heap HR5.out) Try.underlying24 rfl ifrac) rfl ⟨⟨_, rfl, ⟨_, _, rfl, H4.out.other HR5.out zero_frac_cells (frac3_only _ _ _ _ _), H5.out.other HR5.out zero_frac_cells (frac3_only _ _ _ _ _)⟩, ⟨_, _, _, rfl, HO4.out, HO5.out⟩⟩, below_only HB5.out (frac3_only _ _ _ _ _) (by omega)⟩


theorem IsW.keep {w w' : World} {v : Value} {l : List Nat} (h : IsW w v l) (hs : w.heap.size ≤ w'.heap.size) (hb : l ≠ [] → ∀ b, v.ownBlock = some b → w'.heap[b]? = w.heap[b]?) : IsW w' v l := by
  by_cases hl : l = []
  · subst hl; exact h.empty
  have hb := hb hl
  obtain ⟨a, cap, rfl, h1, h2, h3, h4, h5⟩ := h
  refine ⟨a, cap, rfl, h1, h2, h3, h4.of_blocks hs ?_, fun hne x hx => Nat.lt_of_lt_of_le (h5 hne x hx) hs⟩
  rintro x rfl
  exact hb _ (by simp [Value.ownBlock])
theorem IsW.ne0 {w : World} {a : Option Addr} {n c : Nat} {l : List Nat} (h : IsW w (.slice a n c) l) : l ≠ [] ↔ n ≠ 0 := by
  obtain ⟨a', c', hv, -⟩ := h
  simp only [Value.slice.injEq] at hv
  obtain ⟨-, rfl, -⟩ := hv
  simp
theorem FewF.keep {N : Nat} {w w' : World} {b : Bool} {a1 a2 : Option Addr} {n1 c1 n2 c2 : Nat} {q : Rat} (h : FewF N w (.agg #[.bool b, .slice a1 n1 c1, .slice a2 n2 c2]) q) (hs : w.heap.size ≤ w'.heap.size)
    (h1 : n1 ≠ 0 → ∀ x, (Value.slice a1 n1 c1).ownBlock = some x → w'.heap[x]? = w.heap[x]?) (h2 : n2 ≠ 0 → ∀ x, (Value.slice a2 n2 c2).ownBlock = some x → w'.heap[x]? = w.heap[x]?) : FewF N w' (.agg #[.bool b, .slice a1 n1 c1, .slice a2 n2 c2]) q := by
  obtain ⟨b', l, m, ⟨u, d, he, hu, hd⟩, hq, hl, hm⟩ := h
  simp only [Value.agg.injEq, Array.mk.injEq, List.cons.injEq, and_true] at he
  obtain ⟨hb, rfl, rfl⟩ := he
  exact ⟨b', l, m, ⟨_, _, by rw [hb], hu.keep hs (fun e => h1 (hu.ne0.1 e)), hd.keep hs (fun e => h2 (hd.ne0.1 e))⟩, hq, hl, hm⟩
theorem FewF.own {N : Nat} {w : World} {b : Bool} {a1 a2 : Option Addr} {n1 c1 n2 c2 : Nat} {q : Rat} (h : FewF N w (.agg #[.bool b, .slice a1 n1 c1, .slice a2 n2 c2]) q) : (n1 ≠ 0 → ∀ x, (Value.slice a1 n1 c1).ownBlock = some x → x < w.heap.size) ∧ (n2 ≠ 0 → ∀ x, (Value.slice a2 n2 c2).ownBlock = some x → x < w.heap.size) := by
  obtain ⟨b', l, m, ⟨u, d, he, hu, hd⟩, -, -, -⟩ := h
  simp only [Value.agg.injEq, Array.mk.injEq, List.cons.injEq, and_true] at he
  obtain ⟨-, rfl, rfl⟩ := he
  exact ⟨fun e => hu.own_lt (hu.ne0.2 e), fun e => hd.own_lt (hd.ne0.2 e)⟩

/-- A list of fractions of the call's own, its words in other blocks than the list. -/
def OFs (N : Nat) (w : World) (base : Nat) (v : Value) (qs : List Rat) : Prop :=
  ∃ xs, w.ownsRow base 24 3 v qs.length xs ∧ ∀ j q, qs[j]? = some q → ∃ b a1 n1 c1 a2 n2 c2, xs[j * 3]? = some (.bool b) ∧ xs[j * 3 + 1]? = some (.slice a1 n1 c1) ∧ xs[j * 3 + 2]? = some (.slice a2 n2 c2) ∧
    FewF N w (.agg #[.bool b, .slice a1 n1 c1, .slice a2 n2 c2]) q ∧ (n1 ≠ 0 → ∀ x, (Value.slice a1 n1 c1).ownBlock = some x → v.ownBlock ≠ some x) ∧ (n2 ≠ 0 → ∀ x, (Value.slice a2 n2 c2).ownBlock = some x → v.ownBlock ≠ some x)
theorem OFs.below {N : Nat} {w w' : World} {base : Nat} {v : Value} {qs : List Rat} (h : OFs N w base v qs) (hb : Below w.heap.size w w') : OFs N w' base v qs := by
  obtain ⟨xs, ho, he⟩ := h
  refine ⟨xs, World.ownsRow.kept (row := none) ho ⟨hb.os, hb.tape, hb.output, hb.size, fun k hk _ => hb.block k hk⟩ (by cases hv : v.ownBlock <;> simp), fun j q hq => ?_⟩
  obtain ⟨b, a1, n1, c1, a2, n2, c2, h0, h1, h2, hf, g1, g2⟩ := he j q hq
  exact ⟨b, a1, n1, c1, a2, n2, c2, h0, h1, h2, hf.below hb, g1, g2⟩
theorem OFs.nil (N : Nat) (w : World) (base : Nat) : OFs N w base (.slice none 0 0) [] := ⟨[], World.ownsRow_nil w base _ 3, fun j q h => by simp at h⟩
theorem OFs.list {N : Nat} {w : World} {base : Nat} {v : Value} {qs : List Rat} (h : OFs N w base v qs) : ListF N w v qs := by
  obtain ⟨xs, ho, he⟩ := h
  have hcells := fun g hg => World.ownsRow.cells ho (g := g) hg
  rcases ho.2 with ⟨rfl, h0⟩ | ⟨g, cap, cur, rfl, _, _, _, _, _, _⟩
  · refine ⟨none, 0, by rw [h0], fun i q hq => ?_⟩
    have := List.eq_nil_of_length_eq_zero h0
    subst this
    simp at hq
  · refine ⟨_, cap, rfl, fun i q hq => ?_⟩
    obtain ⟨b, a1, n1, c1, a2, n2, c2, h0, h1, h2, hf, -, -⟩ := he i q hq
    have k0 := hcells g rfl _ _ h0
    have k1 := hcells g rfl _ _ h1
    have k2 := hcells g rfl _ _ h2
    rw [Addr.add_lit] at k0 k1 k2
    exact ⟨g, 0, b, a1, n1, c1, a2, n2, c2, rfl, k0, by rw [Nat.add_assoc]; exact k1, by rw [Nat.add_assoc]; exact k2, hf⟩
theorem OFs.form {N : Nat} {w : World} {base : Nat} {v : Value} {qs : List Rat} (h : OFs N w base v qs) : ∃ a n c, v = .slice a n c := by
  obtain ⟨xs, ho, -⟩ := h
  rcases ho.2 with ⟨rfl, -⟩ | ⟨g, cap, cur, rfl, -⟩
  · exact ⟨_, _, _, rfl⟩
  · exact ⟨_, _, _, rfl⟩
theorem info_frac : (Try.prog.info? 24).map (fun i => (i.zero, i.size, i.bytes)) = some (some (.agg #[Value.bool false, Value.slice none 0 0, Value.slice none 0 0]), 3, 56) := by kernel_rfl
/-- One more. -/
theorem OFs.push {N : Nat} {w w' : World} {base : Nat} {v v' : Value} {qs : List Rat} {q : Rat} {xs : List Value} {b : Bool} {a1 a2 : Option Addr} {n1 c1 n2 c2 : Nat}
    (he : ∀ j q, qs[j]? = some q → ∃ b a1 n1 c1 a2 n2 c2, xs[j * 3]? = some (.bool b) ∧ xs[j * 3 + 1]? = some (.slice a1 n1 c1) ∧ xs[j * 3 + 2]? = some (.slice a2 n2 c2) ∧
      FewF N w (.agg #[.bool b, .slice a1 n1 c1, .slice a2 n2 c2]) q ∧ (n1 ≠ 0 → ∀ x, (Value.slice a1 n1 c1).ownBlock = some x → v.ownBlock ≠ some x) ∧ (n2 ≠ 0 → ∀ x, (Value.slice a2 n2 c2).ownBlock = some x → v.ownBlock ≠ some x))
    (hxl : xs.length = qs.length * 3) (hf : FewF N w (.agg #[.bool b, .slice a1 n1 c1, .slice a2 n2 c2]) q) (g1 : n1 ≠ 0 → ∀ x, (Value.slice a1 n1 c1).ownBlock = some x → v.ownBlock ≠ some x) (g2 : n2 ≠ 0 → ∀ x, (Value.slice a2 n2 c2).ownBlock = some x → v.ownBlock ≠ some x)
    (hg : w.grownBy w' v.ownBlock) (hv : v'.ownBlock = v.ownBlock ∨ v'.ownBlock = some w.heap.size) (ho : w'.ownsRow base 24 3 v' (qs.length + 1) (xs ++ [.bool b, .slice a1 n1 c1, .slice a2 n2 c2])) : OFs N w' base v' (qs ++ [q]) := by
  have keep : ∀ {b : Bool} {a1 a2 : Option Addr} {n1 c1 n2 c2 : Nat} {q : Rat}, FewF N w (.agg #[.bool b, .slice a1 n1 c1, .slice a2 n2 c2]) q → (n1 ≠ 0 → ∀ x, (Value.slice a1 n1 c1).ownBlock = some x → v.ownBlock ≠ some x) → (n2 ≠ 0 → ∀ x, (Value.slice a2 n2 c2).ownBlock = some x → v.ownBlock ≠ some x) →
      FewF N w' (.agg #[.bool b, .slice a1 n1 c1, .slice a2 n2 c2]) q ∧ (n1 ≠ 0 → ∀ x, (Value.slice a1 n1 c1).ownBlock = some x → v'.ownBlock ≠ some x) ∧ (n2 ≠ 0 → ∀ x, (Value.slice a2 n2 c2).ownBlock = some x → v'.ownBlock ≠ some x) := by
    intro b a1 a2 n1 c1 n2 c2 q hf g1 g2
    have hl := hf.own
    refine ⟨hf.keep hg.size (fun hn x hx => hg.block x (hl.1 hn x hx) (fun e => g1 hn x hx e.symm)) (fun hn x hx => hg.block x (hl.2 hn x hx) (fun e => g2 hn x hx e.symm)), fun hn x hx e => ?_, fun hn x hx e => ?_⟩
    · rcases hv with h | h
      · exact g1 hn x hx (by rw [← h]; exact e)
      · rw [h] at e; have := hl.1 hn x hx; simp at e; omega
    · rcases hv with h | h
      · exact g2 hn x hx (by rw [← h]; exact e)
      · rw [h] at e; have := hl.2 hn x hx; simp at e; omega
  refine ⟨xs ++ [.bool b, .slice a1 n1 c1, .slice a2 n2 c2], by simpa using ho, fun j r hr => ?_⟩
  by_cases hj : j < qs.length
  · rw [List.getElem?_append_left hj] at hr
    obtain ⟨b', a1', n1', c1', a2', n2', c2', h0, h1, h2, hf', k1, k2⟩ := he j r hr
    obtain ⟨m1, m2, m3⟩ := keep hf' k1 k2
    exact ⟨b', a1', n1', c1', a2', n2', c2', by rw [List.getElem?_append_left (by omega)]; exact h0, by rw [List.getElem?_append_left (by omega)]; exact h1, by rw [List.getElem?_append_left (by omega)]; exact h2, m1, m2, m3⟩
  · have hjl : j = qs.length := by
      have h9 := (List.getElem?_eq_some_iff.1 hr).1
      simp at h9; omega
    subst hjl
    simp at hr
    subst hr
    obtain ⟨m1, m2, m3⟩ := keep hf g1 g2
    refine ⟨b, a1, n1, c1, a2, n2, c2, ?_, ?_, ?_, m1, m2, m3⟩
    · rw [List.getElem?_append_right (by omega), hxl]; simp
    · rw [List.getElem?_append_right (by omega), hxl, show qs.length * 3 + 1 - qs.length * 3 = 1 by omega]; rfl
    · rw [List.getElem?_append_right (by omega), hxl, show qs.length * 3 + 2 - qs.length * 3 = 2 by omega]; rfl

set_option maxRecDepth 8000 in
set_option maxHeartbeats 4000000 in
theorem rcopies_w {N : Nat} {w : World} {v : Value} {qs : List Rat} (hl : ListF N w v qs) (hN : N ≤ 50) (hn : qs.length ≤ 20) :
    Calls Try.prog 43 #[v] w fun e w' => (∃ r, e = .returned r ∧ ListF N w' r qs) ∧ Below w.heap.size w w' := by
  obtain ⟨a, c, rfl, -⟩ := id hl
  obtain ⟨n, hnn⟩ : ∃ n, n = qs.length := ⟨_, rfl⟩
  rw [← hnn] at hl hn ⊢
  have HL := Lib.hid hl
  have HN := Lib.hid hnn
  obtain ⟨i0, hi0', hz0', hz1', hz2'⟩ := info_parts info_frac
  have HI0 := Lib.hid (And.intro hi0' (And.intro hz0' (And.intro hz1' hz2')))
  clear hl hnn hi0' hz0' hz1' hz2'
  go_enter Try.func43, Try.ntmps43
  go_wp2_with fail
  go_loopw [3, 4] (fun ov iv wr => ∃ (i : Nat) (oa : Option Addr) (on oc : Nat), i ≤ n ∧ iv = .int .i64 i ∧ ov = .slice oa on oc ∧ Hid (OFs N wr w.heap.size (.slice oa on oc) (qs.take i)) ∧ Hid (Below w.heap.size w wr)) (fun _ iv _ => n - (intOf iv).toNat)
  case atStart => exact ⟨0, none, 0, 0, Nat.zero_le _, rfl, rfl, Lib.hid (OFs.nil _ _ _), Lib.hid (Below.refl _ _)⟩
  case round =>
    obtain ⟨i, oa, on, oc, hi, rfl, rfl, hO, hB⟩ := hrel
    obtain ⟨wo, rfl⟩ : ∃ wo : World, wo = wr := ⟨_, rfl⟩
    by_cases hin : i < n
    · have t0 : decide ((i : Int) < (n : Int)) = true := by simp; omega
      obtain ⟨q, B, off, b, a1, n1, c1, a2, n2, c2, hq, ha, hc, hf⟩ := HL.out.at hin
      subst ha
      obtain ⟨x0, x1, x2⟩ := hc wo hB.out
      have HTK : Hid (qs.take i ++ [q] = qs.take (i + 1) ∧ (qs.take i).length = i) := Lib.hid (by
        have h9 : i < qs.length := by have := HN.out; omega
        have h8 := List.getElem?_eq_getElem h9
        rw [h8] at hq
        simp only [Option.some.injEq] at hq
        exact ⟨by rw [List.take_succ_eq_append_getElem h9, hq], by rw [List.length_take]; omega⟩)
      obtain ⟨b', l', m', hr', hq', hl', hm'⟩ := hf
      have K := Lib.hid (rcopy_o (hr'.below hB.out) (by omega) (by omega))
      have HQ' : Hid (q = fixR b' l' m' ∧ l'.length ≤ N ∧ m'.length ≤ N) := Lib.hid ⟨hq', hl', hm'⟩
      clear hc hr' hq' hl' hm' hq
      go_wp2_with fail
      refine K.out.mono ?_
      rintro en5 w5 ⟨⟨v5, rfl, f5, g5⟩, hb5⟩
      obtain ⟨a5, n5, c5, i5, j5, k5, hq5⟩ := raw_form f5
      subst hq5
      have HB5 := Lib.hid hb5
      have HF5 : Hid (FewF N w5 (.agg #[Value.bool b', Value.slice a5 n5 c5, Value.slice i5 j5 k5]) q) := Lib.hid ⟨b', l', m', f5, HQ'.out.1, HQ'.out.2.1, HQ'.out.2.2⟩
      have HG5 : Hid ((∀ x, (Value.slice a5 n5 c5).ownBlock = some x → wo.heap.size ≤ x) ∧ (∀ x, (Value.slice i5 j5 k5).ownBlock = some x → wo.heap.size ≤ x)) := Lib.hid (by
        obtain ⟨bb, u, d, he, h1, h2⟩ := g5
        simp only [Value.agg.injEq, Array.mk.injEq, List.cons.injEq, and_true] at he
        obtain ⟨-, rfl, rfl⟩ := he
        exact ⟨h1, h2⟩)
      clear f5 g5 hb5 x0 x1 x2
      obtain ⟨w6, hw6⟩ : ∃ w6, w6 = w5.alloc (Obj.cells #[Value.bool b', Value.slice a5 n5 c5, Value.slice i5 j5 k5] 24) := ⟨_, rfl⟩
      have HB6 : Hid (Below w5.heap.size w5 w6) := Lib.hid (by rw [hw6]; exact (Below.refl _ _).alloc (Nat.le_refl _) _)
      have HR6 : Hid (w6.heap[w5.heap.size]? = some (.cells #[Value.bool b', Value.slice a5 n5 c5, Value.slice i5 j5 k5] 24 (0, 0))) := Lib.hid (by rw [hw6]; exact heap_alloc_new w5 _)
      have HO6 := Lib.hid (hO.out.below (below_trans HB5.out HB6.out))
      obtain ⟨xs, hxs, hel⟩ := HO6.out
      have HXS := Lib.hid hxs
      have HEL := Lib.hid hel
      have HF6 := Lib.hid (HF5.out.below HB6.out)
      have hsz6 : Hid (w.heap.size ≤ w6.heap.size) := Lib.hid (by have h1 := hB.out.size; have h2 := HB5.out.size; have h3 := HB6.out.size; omega)
      have HV : Hid (∀ g, (Value.slice oa on oc).ownBlock = some g → w.heap.size ≤ g ∧ g < wo.heap.size) := Lib.hid (fun g hg => by
        obtain ⟨ys, hys, -⟩ := hO.out
        exact World.ownsRow.lt hys g hg)
      have HLEN : Hid ((qs.take i).length = i) := Lib.hid HTK.out.2
      clear hxs hel
      go_wp2_with (at_builtin; rw [← hw6]; refine wpList_append_own_at _ rfl _ _ _ rfl w.heap.size 24 i0 (.agg #[Value.bool false, Value.slice none 0 0, Value.slice none 0 0]) 3 56 Try.underlying26 HI0.out.1 HI0.out.2.1 HI0.out.2.2.1 HI0.out.2.2.2 rfl (by decide) (Value.slice oa on oc) _ xs rfl HXS.out ⟨w5.heap.size, 0, none⟩ 1 1 [Value.bool b', Value.slice a5 n5 c5, Value.slice i5 j5 k5] rfl rfl ?c1 ?c2 ?c3 ?c4 ?c5 ?_)
      case c1 =>
        intro j9 u9 hu9
        rw [Addr.add_lit, cell_of_row _ _ _ _ _ _ HR6.out]
        simpa using hu9
      case c2 => intro u9 hu9; simp at hu9; rcases hu9 with rfl | rfl | rfl <;> rfl
      case c3 => have := HLEN.out; unfold maxLen; omega
      case c4 => have := HLEN.out; omega
      case c5 => exact hsz6.out
      intro v7 w7 hown7 hgrow7 _ hat7
      have hgrow8 : w6.grownBy w7 (Value.slice oa on oc).ownBlock := by rw [hw6]; exact hgrow7
      have hat8 : v7.ownBlock = (Value.slice oa on oc).ownBlock ∨ v7.ownBlock = some w6.heap.size := by rw [hw6]; first | exact hat7 | simpa using hat7
      have HO7 : Hid (OFs N w7 w.heap.size v7 (qs.take (i + 1))) := Lib.hid (by
        rw [← HTK.out.1]
        refine OFs.push HEL.out HXS.out.1 HF6.out (fun _ x hx e => ?_) (fun _ x hx e => ?_) hgrow8 hat8 (by rw [List.length_take]; exact hown7)
        · have h1 := HG5.out.1 x hx; have h2 := (HV.out x e).2; omega
        · have h1 := HG5.out.2 x hx; have h2 := (HV.out x e).2; omega)
      have HB7 : Hid (Below w.heap.size w w7) := Lib.hid ((below_trans hB.out (below_trans HB5.out HB6.out)).grown hgrow8 hsz6.out (fun k hk => (HV.out k hk).1))
      obtain ⟨ga, gn, gc, hgv⟩ := HO7.out.form
      subst hgv
      clear hown7 hgrow7 hat7 hgrow8 hat8 hw6
      go_wp2_with fail
      go_roundw
      case rel => exact ⟨i + 1, _, _, _, by omega, by go_num, rfl, HO7, HB7⟩
      case measure => simp [intOf]; omega
    · have t0 : decide ((i : Int) < (n : Int)) = false := by simp; omega
      have HE : Hid (ListF N wo (.slice oa on oc) qs) := Lib.hid (by
        have h9 := hO.out.list
        rwa [List.take_of_length_le (by have := HN.out; omega)] at h9)
      go_wp2_with fail
      go_ret
      exact ⟨⟨_, rfl, HE.out⟩, hB.out⟩
end Go.Proofs.Ytebgkfcglmjokaa

/- Arguments that are lists of fractions, as they come in. -/
namespace Go.Proofs.Ytebgkfcglmjokaa
open Go.ChangeShapes Go.WideShapes Go.ChangeAt Go.RowKit

theorem spot_none {w : World} {b o : Nat} {sp : Option Nat} {v : Value} (h : w.cell? ⟨b, o, sp⟩ = some v) : sp = none := by
  cases sp with
  | none => rfl
  | some x =>
    unfold World.cell? at h
    split at h <;> simp at h
theorem add_flat (b o k : Nat) : (⟨b, o, none⟩ : Addr).add k = ⟨b, o + k, none⟩ := by unfold Addr.add; split <;> simp_all
theorem spot_here {w : World} {a : Addr} {v : Value} (h : w.cell? a = some v) : ∃ b o, a = ⟨b, o, none⟩ ∧ b < w.heap.size := by
  obtain ⟨b, o, sp⟩ := a
  obtain rfl := spot_none h
  refine ⟨b, o, rfl, ?_⟩
  by_cases hb : b < w.heap.size
  · exact hb
  · have : w.heap[b]? = none := by simp; omega
    simp [World.cell?, this] at h

set_option maxRecDepth 8000 in
theorem words_trod {H : Type} {enc : TypeId × Value → H} {W : World} {v : Value} {base fuel : Nat} {x : DataW H × List MemPlace}
    (h : DataW.trod enc Try.prog W base (fun _ => true) true fuel 22 [v] = some x) : ∃ a n c, v = .slice a n c ∧ MayW W v n := by
  rcases open_ints Try.underlying22 Try.underlying40 cells_u32 h with ⟨hcs, _⟩ | ⟨y, len, cap, zs, hcs, _, hl, hm, hz, _, hcell, hw⟩
  · simp at hcs
    subst hcs
    exact ⟨none, 0, 0, rfl, fun _ => ⟨[], rfl, IsW.nil W⟩⟩
  · simp at hcs
    subst hcs
    refine ⟨some y, len, cap, rfl, fun hn => ?_⟩
    by_cases h0 : len = 0
    · subst h0
      exact ⟨[], rfl, some y, cap, rfl, Nat.zero_le _, Nat.zero_le _, ws_nil, Cells.nil _ _, fun h => absurd rfl h⟩
    have hz' : zs.length = cap := by simpa using hz
    have hcell0 : W.cell? y = _ := hcell 0 (by omega)
    obtain ⟨b, off, rfl, hlt⟩ := spot_here hcell0
    have hlen : ((zs.take len).map Int.toNat).length = len := by simp; omega
    have hws : ∀ z ∈ zs, 0 ≤ z ∧ z ≤ 4294967295 := by
      intro z hzm
      have := hw z hzm
      have m1 : IntKind.u32.min = 0 := by decide
      have m2 : IntKind.u32.max = 4294967295 := by decide
      simp only [Lit.wf, m1, m2, Bool.and_eq_true, decide_eq_true_eq] at this
      exact this
    refine ⟨(zs.take len).map Int.toNat, hlen, _, cap, by rw [hlen], by rw [hlen]; exact hl, by rw [hlen]; exact hn, ?_, ?_, ?_⟩
    · intro z hzm
      obtain ⟨z', hz1, rfl⟩ := List.mem_map.1 hzm
      have := hws z' (List.mem_of_mem_take hz1)
      omega
    · intro _
      refine ⟨b, off, rfl, hlt, fun j hj => ?_⟩
      have hj' : j < len := by simp at hj; omega
      have hj2 : j < zs.length := by omega
      have hc := hcell j hj2
      have e : (zs.getD j 0) = zs[j] := by simp [List.getD, hj2]
      have e2 := hws zs[j] (List.getElem_mem hj2)
      have e3 : ((zs[j].toNat : Nat) : Int) = zs[j] := by omega
      have hc' : W.cell? ⟨b, off + j, none⟩ = some (.int .u32 (zs.getD j 0)) := by rw [← add_flat]; exact hc
      rw [hc', e]
      simp [U, e3]
    · intro _ x hx
      cases hx
      exact hlt

set_option maxRecDepth 8000 in
/-- A fraction in memory. -/
theorem frac_trod {H : Type} {enc : TypeId × Value → H} {W : World} {cs : List Value} {base fuel : Nat} {x : DataW H × List MemPlace}
    (h : DataW.trod enc Try.prog W base (fun _ => true) true fuel 24 cs = some x) :
    ∃ b a1 n1 c1 a2 n2 c2, cs = [.bool b, .slice a1 n1 c1, .slice a2 n2 c2] ∧ FracI W (.agg #[.bool b, .slice a1 n1 c1, .slice a2 n2 c2]) b a1 n1 c1 a2 n2 c2 := by
  obtain ⟨xs, n, _, rfl, hl, hlen, hf⟩ := DataW.trod_struct Try.underlying24 h
  rw [cells_frac] at hl
  obtain ⟨v0, v1, v2, rfl⟩ : ∃ v0 v1 v2, cs = [v0, v1, v2] := by
    match cs, hl with
    | [c0, c1, c2], _ => exact ⟨c0, c1, c2, rfl⟩
  obtain ⟨y0, y1, y2, rfl⟩ : ∃ y0 y1 y2, xs = [y0, y1, y2] := by
    match xs, hlen with
    | [c0, c1, c2], _ => exact ⟨c0, c1, c2, rfl⟩
  have h0 := hf 0 _ rfl
  have h1 := hf 1 _ rfl
  have h2 := hf 2 _ rfl
  have h0' : DataW.trod enc Try.prog W base (fun _ => true) true n 4 [v0] = some y0 := h0
  have h1' : DataW.trod enc Try.prog W base (fun _ => true) true n 22 [v1] = some y1 := h1
  have h2' : DataW.trod enc Try.prog W base (fun _ => true) true n 22 [v2] = some y2 := h2
  obtain ⟨b, hb, _⟩ := DataW.trod_bool Try.underlying4 h0'
  obtain ⟨a1, n1, c1, rfl, k1⟩ := words_trod h1'
  obtain ⟨a2, n2, c2, rfl, k2⟩ := words_trod h2'
  simp at hb
  subst hb
  exact ⟨b, a1, n1, c1, a2, n2, c2, rfl, rfl, k1, k2⟩

/-- What is known of a list of fractions that came in. -/
def ListI (w : World) (v : Value) (a : Option Addr) (n c : Nat) : Prop :=
  v = .slice a n c ∧ ∀ i, i < n → ∃ B off b a1 n1 c1 a2 n2 c2, a = some ⟨B, off, none⟩ ∧ w.cell? ⟨B, off + i * 3, none⟩ = some (.bool b) ∧ w.cell? ⟨B, off + i * 3 + 1, none⟩ = some (.slice a1 n1 c1) ∧ w.cell? ⟨B, off + i * 3 + 2, none⟩ = some (.slice a2 n2 c2) ∧
    FracI w (.agg #[.bool b, .slice a1 n1 c1, .slice a2 n2 c2]) b a1 n1 c1 a2 n2 c2
set_option maxRecDepth 8000 in
theorem list_in {H : Type} {enc : TypeId × Value → H} {W : World} {v : Value} {d : DataW H} {p : List MemPlace}
    (h : DataW.Trod enc Try.prog W 0 (fun _ => true) true 26 v d p) (hv : ∃ a n c, v = .slice a n c) : ∃ a n c, ListI W v a n c := by
  obtain ⟨a, n, c, rfl⟩ := hv
  refine ⟨a, n, c, rfl, fun i hi => ?_⟩
  obtain ⟨fuel, hf⟩ := h
  rcases DataW.trod_slice Try.underlying26 hf with ⟨h0, _⟩ | ⟨a', len, cap, elems, rest, m, _, hcs, _, _, hl, hm, hlen, hel, _, _⟩
  · simp [Value.cells] at h0
    omega
  · simp [Value.cells] at hcs
    obtain ⟨rfl, rfl, rfl⟩ := hcs
    have hsp : ∃ B off, a' = ⟨B, off, none⟩ := by
      have h1 := hel 0 (by omega)
      rw [cells_frac, List.getElem?_eq_getElem (by omega), Option.bind_eq_some_iff] at h1
      obtain ⟨cs, hc1, hc2⟩ := h1
      obtain ⟨b, a1, n1, c1, a2, n2, c2, rfl, -⟩ := frac_trod hc2
      obtain ⟨-, -, hcell⟩ := World.cells?_some hc1
      have e0 := hcell 0 (by omega)
      rw [Nat.zero_mul] at e0
      have e0' : W.cell? a' = _ := e0
      obtain ⟨B, off, h, -⟩ := spot_here e0'
      exact ⟨B, off, h⟩
    obtain ⟨B, off, rfl⟩ := hsp
    have h1 := hel i hi
    rw [cells_frac, List.getElem?_eq_getElem (by omega), Option.bind_eq_some_iff] at h1
    obtain ⟨cs, hc1, hc2⟩ := h1
    obtain ⟨b, a1, n1, c1, a2, n2, c2, rfl, hF⟩ := frac_trod hc2
    obtain ⟨-, -, hcell⟩ := World.cells?_some hc1
    have e0 := hcell 0 (by omega)
    have e1 := hcell 1 (by omega)
    have e2 := hcell 2 (by omega)
    simp only [add_flat, Nat.add_zero] at e0 e1 e2
    exact ⟨B, off, b, a1, n1, c1, a2, n2, c2, rfl, e0, e1, e2, hF⟩
end Go.Proofs.Ytebgkfcglmjokaa

/- FracLists answers true at every input, and what it is handed reads behind the call as it read before: the sum, the dot product, the least and the most of any lists are told as the reference tells them. No conditions. -/
namespace Go.Proofs.Ytebgkfcglmjokaa
open Go.RowKit
attribute [local go_sem ↓] Go.wp_at_zero Go.wp_at_succ

/-- How many words a fraction of a list has above (k = 1) or below (k = 2). -/
def cellLen (w : World) (a : Option Addr) (k i : Nat) : Nat :=
  match a with
  | none => 0
  | some x => match w.cell? ⟨x.block, x.off + i * 3 + k, none⟩ with
    | some (.slice _ n _) => n
    | _ => 0
theorem ListI.cells {w : World} {v : Value} {a : Option Addr} {n c : Nat} (h : ListI w v a n c) {i : Nat} (hi : i < n) :
    ∃ B off b a1 c1 a2 c2, a = some ⟨B, off, none⟩ ∧ w.cell? ⟨B, off + i * 3, none⟩ = some (.bool b) ∧ w.cell? ⟨B, off + i * 3 + 1, none⟩ = some (.slice a1 (cellLen w a 1 i) c1) ∧ w.cell? ⟨B, off + i * 3 + 2, none⟩ = some (.slice a2 (cellLen w a 2 i) c2) ∧
      FracI w (.agg #[.bool b, .slice a1 (cellLen w a 1 i) c1, .slice a2 (cellLen w a 2 i) c2]) b a1 (cellLen w a 1 i) c1 a2 (cellLen w a 2 i) c2 := by
  obtain ⟨B, off, b, a1, n1, c1, a2, n2, c2, rfl, h0, h1, h2, hF⟩ := h.2 i hi
  have e1 : cellLen w (some ⟨B, off, none⟩) 1 i = n1 := by simp only [cellLen, h1]
  have e2 : cellLen w (some ⟨B, off, none⟩) 2 i = n2 := by simp only [cellLen, h2]
  rw [e1, e2]
  exact ⟨B, off, b, a1, c1, a2, c2, rfl, h0, h1, h2, hF⟩
theorem ListI.fews {w : World} {v : Value} {a : Option Addr} {n c N : Nat} (h : ListI w v a n c) (hn : n ≤ 1000) :
    Calls Try.prog 12 #[.int .i64 N, .slice a n c] w fun e w' => e = .returned (.bool (fewB N n (cellLen w a 1) (cellLen w a 2))) ∧ w = w' := by
  refine few_w hn fun h0 => ?_
  obtain ⟨B, off, -, -, -, -, -, ha, -⟩ := h.cells h0
  refine ⟨B, off, ha, fun i hi => ?_⟩
  obtain ⟨B', off', b, a1, c1, a2, c2, ha', -, h1, h2, -⟩ := h.cells hi
  rw [ha] at ha'
  simp only [Option.some.injEq, Addr.mk.injEq, and_true] at ha'
  obtain ⟨rfl, rfl⟩ := ha'
  exact ⟨a1, c1, a2, c2, h1, h2⟩
theorem ListI.listF {w : World} {v : Value} {a : Option Addr} {n c N : Nat} (h : ListI w v a n c) (hN : N ≤ 1073741824) (hf : fewB N n (cellLen w a 1) (cellLen w a 2) = true) :
    ∃ qs, n = qs.length ∧ ListF N w (.slice a n c) qs := by
  have hf' : ∀ i, i < n → cellLen w a 1 i ≤ N ∧ cellLen w a 2 i ≤ N := by simpa [fewB] using hf
  have build : ∀ k, k ≤ n → ∃ qs : List Rat, qs.length = k ∧ ∀ i q, qs[i]? = some q → ∃ B off b a1 n1 c1 a2 n2 c2, a = some ⟨B, off, none⟩ ∧ w.cell? ⟨B, off + i * 3, none⟩ = some (.bool b) ∧ w.cell? ⟨B, off + i * 3 + 1, none⟩ = some (.slice a1 n1 c1) ∧ w.cell? ⟨B, off + i * 3 + 2, none⟩ = some (.slice a2 n2 c2) ∧ FewF N w (.agg #[.bool b, .slice a1 n1 c1, .slice a2 n2 c2]) q := by
    intro k
    induction k with
    | zero => intro _; exact ⟨[], rfl, fun i q hq => by simp at hq⟩
    | succ k ih =>
      intro hk
      obtain ⟨qs, hl, hqs⟩ := ih (by omega)
      obtain ⟨B, off, b, a1, c1, a2, c2, ha, h0, h1, h2, hF⟩ := h.cells (i := k) (by omega)
      obtain ⟨q, hq⟩ := hF.few hN (hf' k (by omega)).1 (hf' k (by omega)).2
      refine ⟨qs ++ [q], by simp [hl], fun i r hr => ?_⟩
      by_cases hi : i < qs.length
      · rw [List.getElem?_append_left hi] at hr
        exact hqs i r hr
      · have hik : i = k := by
          have h9 := (List.getElem?_eq_some_iff.1 hr).1
          simp at h9; omega
        subst hik
        rw [← hl] at hr
        simp at hr
        subst hr
        exact ⟨B, off, b, a1, _, c1, a2, _, c2, ha, h0, h1, h2, hq⟩
  obtain ⟨qs, hl, hqs⟩ := build n (Nat.le_refl _)
  exact ⟨qs, hl.symm, a, c, by rw [hl], hqs⟩
theorem ListF.form9 {N : Nat} {w : World} {v : Value} {qs : List Rat} (h : ListF N w v qs) : ∃ a n c, v = .slice a n c := by
  obtain ⟨a, c, rfl, -⟩ := h
  exact ⟨_, _, _, rfl⟩

/-- How long the sums are. -/
theorem sz_nth {N : Nat} {w : World} {v : Value} {qs : List Rat} (h : ListF N w v qs) {i : Nat} (hi : i < qs.length) : szQ N 1 (nthQ qs i) := by
  obtain ⟨a, c, rfl, h⟩ := h
  obtain ⟨B, off, b, a1, n1, c1, a2, n2, c2, -, -, -, -, hf⟩ := h i _ (List.getElem?_eq_getElem hi)
  rw [nthQ_of (List.getElem?_eq_getElem hi)]
  exact few_sz hf
theorem len_sums {N : Nat} {w : World} {v : Value} {qs : List Rat} (h : ListF N w v qs) (hN : N ≤ 50) (hn : qs.length ≤ 20) : lenQ (sumR (nthQ qs) 0 qs.length) ≤ 4096 := by
  have h1 := sz_len (sz_sum (g := nthQ qs) (lo := 0) (n := qs.length) fun i _ hi => sz_nth h (i := i) (by omega)) (by omega)
  have h2 : N * qs.length ≤ 50 * 20 := Nat.mul_le_mul hN hn
  omega
theorem len_dots {N : Nat} {w : World} {v v' : Value} {qs ps : List Rat} (h : ListF N w v qs) (h' : ListF N w v' ps) (hN : N ≤ 50) (hn : qs.length ≤ 20) : lenQ (sumR (fun i => nthQ qs i * nthQ ps i) 0 (min qs.length ps.length)) ≤ 4096 := by
  have h1 := sz_len (sz_sum (g := fun i => nthQ qs i * nthQ ps i) (lo := 0) (n := min qs.length ps.length) fun i _ hi => sz_mul (sz_nth h (i := i) (by omega)) (sz_nth h' (i := i) (by omega))) (by omega)
  have h2 : (2 * N) * min qs.length ps.length ≤ 100 * 20 := Nat.mul_le_mul (by omega) (by omega)
  omega

set_option maxRecDepth 100000 in
set_option maxHeartbeats 4000000 in
theorem lists_walk {w : World} {x y : Value} {a a' : Option Addr} {n c n' c' : Nat} (hx : ListI w x a n c) (hy : ListI w y a' n' c') :
    Calls Try.prog 10 #[x, y] w fun e w' => e = .returned (.bool true) ∧ Below w.heap.size w w' := by
  have HX := Lib.hid hx
  have HY := Lib.hid hy
  obtain ⟨rfl, -⟩ := hx
  obtain ⟨rfl, -⟩ := hy
  by_cases h1 : 12 < n
  · have t1 : decide ((12 : Int) < (n : Int)) = true := by simp; omega
    have t1' : decide ((n : Int) > (12 : Int)) = true := by simp; omega
    go_enter Try.func10, Try.ntmps10
    go_wp2_with fail
    go_ret
    exact ⟨rfl, Below.refl _ _⟩
  have t1 : decide ((12 : Int) < (n : Int)) = false := by simp; omega
  have u1 : n ≤ 12 := by omega
  by_cases h2 : 12 < n'
  · have t2 : decide ((12 : Int) < (n' : Int)) = true := by simp; omega
    go_enter Try.func10, Try.ntmps10
    go_wp2_with fail
    go_ret
    exact ⟨rfl, Below.refl _ _⟩
  have t2 : decide ((12 : Int) < (n' : Int)) = false := by simp; omega
  have u2 : n' ≤ 12 := by omega
  have KX : Hid (Calls Try.prog 12 #[.int .i64 6, .slice a n c] w fun e w' => e = .returned (.bool (fewB 6 n (cellLen w a 1) (cellLen w a 2))) ∧ w = w') := Lib.hid (HX.out.fews (N := 6) (by omega))
  have KY : Hid (Calls Try.prog 12 #[.int .i64 6, .slice a' n' c'] w fun e w' => e = .returned (.bool (fewB 6 n' (cellLen w a' 1) (cellLen w a' 2))) ∧ w = w') := Lib.hid (HY.out.fews (N := 6) (by omega))
  by_cases h3' : fewB 6 n (cellLen w a 1) (cellLen w a 2) = false
  · rw [h3'] at KX
    clear h3'
    go_enter Try.func10, Try.ntmps10
    go_wp2_with fail
    refine KX.out.mono ?_
    rintro en0 w0 ⟨rfl, rfl⟩
    go_wp2_with fail
    go_ret
    exact ⟨rfl, Below.refl _ _⟩
  have h3 : fewB 6 n (cellLen w a 1) (cellLen w a 2) = true := by simpa using h3'
  clear h3'
  by_cases h4' : fewB 6 n' (cellLen w a' 1) (cellLen w a' 2) = false
  · rw [h3] at KX
    rw [h4'] at KY
    clear h3 h4'
    go_enter Try.func10, Try.ntmps10
    go_wp2_with fail
    refine KX.out.mono ?_
    rintro en0 w0 ⟨rfl, rfl⟩
    go_wp2_with fail
    refine KY.out.mono ?_
    rintro en1 w1 ⟨rfl, rfl⟩
    go_wp2_with fail
    go_ret
    exact ⟨rfl, Below.refl _ _⟩
  have h4 : fewB 6 n' (cellLen w a' 1) (cellLen w a' 2) = true := by simpa using h4'
  clear h4'
  rw [h3] at KX
  rw [h4] at KY
  obtain ⟨qs, hq, hQ⟩ := HX.out.listF (by omega) h3
  obtain ⟨ps, hp, hP⟩ := HY.out.listF (by omega) h4
  have HQ := Lib.hid hQ
  have HP := Lib.hid hP
  have HQL : Hid (qs.length ≤ 12) := Lib.hid (by omega)
  have HPL : Hid (ps.length ≤ 12) := Lib.hid (by omega)
  have LS := Lib.hid (len_sums hQ (by omega) (by have := HQL.out; omega))
  have LD := Lib.hid (len_dots hQ hP (by omega) (by have := HQL.out; omega))
  obtain ⟨S, hS⟩ : ∃ S, S = sumR (nthQ qs) 0 qs.length := ⟨_, rfl⟩
  obtain ⟨D, hD⟩ : ∃ D, D = sumR (fun i => nthQ qs i * nthQ ps i) 0 (min qs.length ps.length) := ⟨_, rfl⟩
  obtain ⟨le, hle⟩ : ∃ le, le = bstI (-1) qs qs.length := ⟨_, rfl⟩
  obtain ⟨mo, hmo⟩ : ∃ mo, mo = bstI (1) qs qs.length := ⟨_, rfl⟩
  rw [← hS] at LS
  rw [← hD] at LD
  have KS : Hid (∀ (w' : World) (v : Value), ListF 6 w' v qs → Calls Try.prog 44 #[v] w' (RTell w' S)) := Lib.hid (fun w' v h => by rw [hS]; exact sum_w h (by omega) (by have := HQL.out; omega))
  have KS2 : Hid (∀ (w' : World), Below w.heap.size w w' → Calls Try.prog 45 #[.slice a n c] w' (RTell w' S)) := Lib.hid (fun w' hb => by rw [hS]; exact rsums_w (HQ.out.below hb) (by omega) (by have := HQL.out; omega))
  have KD : Hid (∀ (w' : World) (v v' : Value), ListF 6 w' v qs → ListF 6 w' v' ps → Calls Try.prog 46 #[v, v'] w' (RTell w' D)) := Lib.hid (fun w' v v' h h' => by rw [hD]; exact dot_w h h' (by omega) (by have := HQL.out; omega) (by have := HPL.out; omega))
  have KD2 : Hid (∀ (w' : World), Below w.heap.size w w' → Calls Try.prog 47 #[.slice a n c, .slice a' n' c'] w' (RTell w' D)) := Lib.hid (fun w' hb => by rw [hD]; exact rdot_w (HQ.out.below hb) (HP.out.below hb) (by omega) (by have := HQL.out; omega) (by have := HPL.out; omega))
  have KL : Hid (∀ (w' : World) (v : Value), ListF 6 w' v qs → Calls Try.prog 48 #[v] w' fun e w'' => e = .returned (.int .i64 le) ∧ Below w'.heap.size w' w'') := Lib.hid (fun w' v h => by rw [hle]; exact least_w h (by omega) (by have := HQL.out; omega))
  have KL2 : Hid (∀ (w' : World), Below w.heap.size w w' → Calls Try.prog 49 #[.slice a n c] w' fun e w'' => e = .returned (.int .i64 le) ∧ Below w'.heap.size w' w'') := Lib.hid (fun w' hb => by rw [hle]; exact rleast_w (HQ.out.below hb) (by omega) (by have := HQL.out; omega))
  have KM : Hid (∀ (w' : World) (v : Value), ListF 6 w' v qs → Calls Try.prog 50 #[v] w' fun e w'' => e = .returned (.int .i64 mo) ∧ Below w'.heap.size w' w'') := Lib.hid (fun w' v h => by rw [hmo]; exact most_w h (by omega) (by have := HQL.out; omega))
  have KM2 : Hid (∀ (w' : World), Below w.heap.size w w' → Calls Try.prog 51 #[.slice a n c] w' fun e w'' => e = .returned (.int .i64 mo) ∧ Below w'.heap.size w' w'') := Lib.hid (fun w' hb => by rw [hmo]; exact rmost_w (HQ.out.below hb) (by omega) (by have := HQL.out; omega))
  have KC1 : Hid (Calls Try.prog 43 #[.slice a n c] w fun e w' => (∃ r, e = .returned r ∧ ListF 6 w' r qs) ∧ Below w.heap.size w w') := Lib.hid (rcopies_w HQ.out (by omega) (by have := HQL.out; omega))
  have KC2 : Hid (∀ (w' : World), Below w.heap.size w w' → Calls Try.prog 43 #[.slice a' n' c'] w' fun e w'' => (∃ r, e = .returned r ∧ ListF 6 w'' r ps) ∧ Below w'.heap.size w' w'') := Lib.hid (fun w' hb => rcopies_w (HP.out.below hb) (by omega) (by have := HPL.out; omega))
  clear hS hD hle hmo hQ hP hq hp h3 h4
  go_enter Try.func10, Try.ntmps10
  go_wp2_with fail
  refine KX.out.mono ?_
  rintro en0 w0 ⟨rfl, rfl⟩
  go_wp2_with fail
  refine KY.out.mono ?_
  rintro en1 w1 ⟨rfl, rfl⟩
  go_wp2_with fail
  refine KC1.out.mono ?_
  rintro en2 w2 ⟨⟨v2, rfl, f2⟩, hb2⟩
  obtain ⟨a2, n2, c2, hq2⟩ := f2.form9
  subst hq2
  have HF2 := Lib.hid f2
  clear f2
  go_wp2_with fail
  refine (KC2.out _ hb2).mono ?_
  rintro en3 w3 ⟨⟨v3, rfl, f3⟩, hb3⟩
  obtain ⟨a3, n3, c3, hq3⟩ := f3.form9
  subst hq3
  have HF3 := Lib.hid f3
  have HF2' := Lib.hid (HF2.out.below hb3)
  have hz3 := below_trans hb2 hb3
  clear f3
  go_wp2_with fail
  refine (KS.out _ _ HF2'.out).mono ?_
  rintro en4 w4 ⟨⟨v4, rfl, f4⟩, hb4⟩
  obtain ⟨a4, n4, c4, i4, j4, k4, hq4⟩ := frac_form f4
  subst hq4
  have hz4 := below_trans hz3 hb4
  have HF4 := Lib.hid f4
  clear f4
  go_wp2_with fail
  refine (KS2.out _ hz4).mono ?_
  rintro en5 w5 ⟨⟨v5, rfl, f5⟩, hb5⟩
  obtain ⟨a5, n5, c5, i5, j5, k5, hq5⟩ := frac_form f5
  subst hq5
  have hz5 := below_trans hz4 hb5
  have HF5 := Lib.hid f5
  clear f5
  go_wp2_with fail
  refine (same_w (HF4.out.below hb5) HF5.out LS.out).mono ?_
  rintro en6 w6 ⟨rfl, hb6⟩
  have hz6 := below_trans hz5 hb6
  have hy6 := below_trans hb4 (below_trans hb5 hb6)
  go_wp2_with fail
  refine (KD.out _ _ _ (HF2'.out.below hy6) (HF3.out.below hy6)).mono ?_
  rintro en7 w7 ⟨⟨v7, rfl, f7⟩, hb7⟩
  obtain ⟨a7, n7, c7, i7, j7, k7, hq7⟩ := frac_form f7
  subst hq7
  have hz7 := below_trans hz6 hb7
  have HF7 := Lib.hid f7
  clear f7
  go_wp2_with fail
  refine (KD2.out _ hz7).mono ?_
  rintro en8 w8 ⟨⟨v8, rfl, f8⟩, hb8⟩
  obtain ⟨a8, n8, c8, i8, j8, k8, hq8⟩ := frac_form f8
  subst hq8
  have hz8 := below_trans hz7 hb8
  have HF8 := Lib.hid f8
  clear f8
  go_wp2_with fail
  refine (same_w (HF7.out.below hb8) HF8.out LD.out).mono ?_
  rintro en9 w9 ⟨rfl, hb9⟩
  have hz9 := below_trans hz8 hb9
  have hy9 := below_trans hy6 (below_trans hb7 (below_trans hb8 hb9))
  go_wp2_with fail
  refine (KL.out _ _ (HF2'.out.below hy9)).mono ?_
  rintro en10 w10 ⟨rfl, hb10⟩
  have hz10 := below_trans hz9 hb10
  go_wp2_with fail
  refine (KL2.out _ hz10).mono ?_
  rintro en11 w11 ⟨rfl, hb11⟩
  have hz11 := below_trans hz10 hb11
  have hy11 := below_trans hy9 (below_trans hb10 hb11)
  go_wp2_with fail
  refine (KM.out _ _ (HF2'.out.below hy11)).mono ?_
  rintro en12 w12 ⟨rfl, hb12⟩
  have hz12 := below_trans hz11 hb12
  go_wp2_with fail
  refine (KM2.out _ hz12).mono ?_
  rintro en13 w13 ⟨rfl, hb13⟩
  have hz13 := below_trans hz12 hb13
  go_wp2_with fail
  refine half_w.mono ?_
  rintro en14 w14 ⟨rfl, hb14⟩
  go_wp2_with fail
  go_ret
  exact ⟨rfl, below_trans hz13 hb14⟩
end Go.Proofs.Ytebgkfcglmjokaa

/- FracLists answers true at every input, and what it is handed reads behind the call as it read before: the sum, the dot product, the least and the most of any lists are told as the reference tells them. No conditions. -/
namespace Go.Proofs.Ytebgkfcglmjokaa
open Go.ChangeShapes Go.WideShapes Go.ChangeAt Go.RowKit


set_option maxRecDepth 100000 in
theorem lists_lifted (os : Os) (started : os.Started) (H : Type) (enc : TypeId × Value → H) :
    ReturnsInHanded {} Try.checked os 10 .any (Rows.fracListsSpec.pre6 enc Try.prog Try.f10 Rows.fracListsRow.domain false) (Rows.fracListsSpec.post enc Try.prog Try.f10 false true false false) := by
  refine returnsInHanded_of_change (C := Try.checked) own_knob started (by kernel_rfl) Try.func10
    (ChangeSpec.witness6 (enc := enc) (C := Try.checked) false ⟨#[], #[.slice none 0 0, .slice none 0 0], []⟩ 8 (by kernel_rfl) (by kernel_rfl) (by kernel_rfl) (by kernel_rfl)) ?_
  intro W base args ds gs before hval0 hW hcnd _
  have hval : ∀ (j : Nat) t v, Try.f10.params[j]? = some t → args[j]? = some v → Value.okWide Try.prog W .any base t v := hval0
  have hW' := hW
  obtain ⟨p, q, hA0, hV, rfl, hfz, hnd⟩ := hW
  have hA : DataW.TrodAll enc Try.prog W 0 (fun _ => true) true Try.f10.params.toList args.toList ds p := hA0
  rw [Try.params10] at hA hval
  obtain ⟨v0, vs0, d0, ds0, p0, q0, hargs, rfl, rfl, h0, r0⟩ := trodAll_cons hA
  obtain ⟨v1, vs1, d1, ds1, p1, q1, rfl, rfl, rfl, h1, r1⟩ := trodAll_cons r0
  obtain ⟨rfl, rfl, rfl⟩ := trodAll_nil r1
  obtain rfl : args = #[v0, v1] := by cases args; simp_all
  obtain ⟨rfl, rfl⟩ := trodVars_none hV
  have k0 := h0
  have k1 := h1
  have lt0 : ∀ x ∈ p0, x.block < W.heap.size := by obtain ⟨m, hm⟩ := k0; exact DataW.trod_lt m _ _ _ hm
  have lt1 : ∀ x ∈ p1, x.block < W.heap.size := by obtain ⟨m, hm⟩ := k1; exact DataW.trod_lt m _ _ _ hm
  obtain ⟨a0, n0, c0, hx⟩ := list_in h0 (okWide_slice Try.underlying26 (hval 0 26 v0 rfl rfl))
  obtain ⟨a1, n1, c1, hy⟩ := list_in h1 (okWide_slice Try.underlying26 (hval 1 26 v1 rfl rfl))
  clear hA0 hval0
  refine (lists_walk hx hy).mono fun e W' ⟨he, bel⟩ => ?_
  subst he
  exact ⟨_, rfl, _, _, _, [], _, [], hW', trodAll_mk1 (shut_bool Try.underlying4 _), (trodAll_cons_mk (Below.trod laid_out (by kernel_rfl) (of_decide_eq_true (by kernel_rfl)) k0 bel lt0) (trodAll_cons_mk (Below.trod laid_out (by kernel_rfl) (of_decide_eq_true (by kernel_rfl)) k1 bel lt1) trodAll_mk0)), rfl, bel.frame _, fun h => by cases h⟩

theorem lists_holds : Rows.FracListsSaid :=
  OpenClaim.holds_of_wide 10 Try.f10 rfl rfl rfl rfl rfl rfl rfl ⟨rfl, rfl, rfl, rfl, rfl⟩ rfl rfl rfl rfl rfl (by kernel_rfl) Try.func10 (by kernel_rfl)
    (of_decide_eq_true (by kernel_rfl)) (by unfold Func.isWrapper; first | (rw [if_pos (by decide +kernel)]; kernel_rfl) | (rw [if_neg (by decide +kernel)]; exact ⟨rfl, rfl⟩))
    (fun os started H enc _ => lists_lifted os started H enc)
end Go.Proofs.Ytebgkfcglmjokaa
