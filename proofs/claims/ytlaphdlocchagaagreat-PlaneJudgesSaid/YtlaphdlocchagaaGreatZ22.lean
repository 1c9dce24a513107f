/- Several texts in one: F1, F2, F4, F5, F3. -/
import Derived.Test.YtlaphdlocchagaaGreatZ21
import Derived.Deep.DrawnRows
/- Lists of fractions: sums, and how long they can be. -/
namespace Go.Proofs.YtlaphdlocchagaaGreat
open Go.RowKit

/-- A number as long as a sum of k fractions of m words each can be. -/
def szQ (m k : Nat) (q : Rat) : Prop := q.den ≤ (4294967296 ^ m) ^ k ∧ q.num.natAbs ≤ k * (4294967296 ^ m) ^ k
theorem sz_zero (m : Nat) : szQ m 0 0 := ⟨by simp, by simp⟩
theorem mk_le {z : Int} {y : Nat} (hy : y ≠ 0) : (mkRat z y).num.natAbs ≤ z.natAbs ∧ (mkRat z y).den ≤ y := by
  obtain ⟨h1, h2, -⟩ := low_facts (z := z) hy
  exact ⟨by rw [h1]; exact Nat.div_le_self _ _, by rw [h2]; exact Nat.div_le_self _ _⟩
theorem sz_add {m k j : Nat} {q p : Rat} (h1 : szQ m k q) (h2 : szQ m j p) : szQ m (k + j) (q + p) := by
  unfold szQ at *
  generalize 4294967296 ^ m = B at *
  obtain ⟨a1, a2⟩ := h1
  obtain ⟨b1, b2⟩ := h2
  have h3 := mk_le (z := q.num * p.den + p.num * q.den) (y := q.den * p.den) (Nat.mul_ne_zero q.den_nz p.den_nz)
  rw [← Rat.add_def'] at h3
  have e : B ^ (k + j) = B ^ k * B ^ j := Nat.pow_add _ _ _
  refine ⟨Nat.le_trans h3.2 (by rw [e]; exact Nat.mul_le_mul a1 b1), Nat.le_trans h3.1 ?_⟩
  refine Nat.le_trans (Int.natAbs_add_le _ _) ?_
  rw [Int.natAbs_mul, Int.natAbs_mul, Int.natAbs_natCast, Int.natAbs_natCast, Nat.add_mul, e]
  refine Nat.add_le_add ?_ ?_
  · rw [← Nat.mul_assoc]
    exact Nat.mul_le_mul a2 b1
  · rw [Nat.mul_comm (B ^ k), ← Nat.mul_assoc]
    exact Nat.mul_le_mul b2 a1
theorem sz_len {m k : Nat} {q : Rat} (h : szQ m k q) (hk : k < 4294967296) : lenQ q ≤ 2 * (m * k) + 2 := by
  obtain ⟨h1, h2⟩ := h
  have e : ((4294967296 : Nat) ^ m) ^ k = 4294967296 ^ (m * k) := (Nat.pow_mul _ _ _).symm
  rw [e] at h1 h2
  have hp : 0 < (4294967296 : Nat) ^ (m * k) := Nat.pow_pos (by omega)
  have e2 : (4294967296 : Nat) ^ (m * k + 1) = 4294967296 ^ (m * k) * 4294967296 := Nat.pow_succ _ _
  generalize hG : (4294967296 : Nat) ^ (m * k) = G at *
  have l1 : (digs q.den).length ≤ m * k + 1 := len_digs_le.2 (by rw [e2]; omega)
  have l2 : (digs q.num.natAbs).length ≤ m * k + 1 := len_digs_le.2 (by
    rw [e2]
    refine Nat.lt_of_le_of_lt h2 ?_
    rw [Nat.mul_comm]
    exact Nat.mul_lt_mul_of_pos_left hk hp)
  unfold lenQ; omega
theorem few_sz {n : Nat} {w : World} {v : Value} {q : Rat} (h : FewF n w v q) : szQ n 1 q := by
  obtain ⟨b, l, m, hr, rfl, hl, hm⟩ := h
  obtain ⟨u, d, -, hu, hd⟩ := hr
  unfold szQ
  rw [Nat.pow_one, Nat.one_mul]
  cases hR : rightB b l m with
  | true =>
    obtain ⟨e1, e2, -, -⟩ := right_rat hu.ws hd.ws hR
    have f1 := val_digs (fixR b l m).num.natAbs
    rw [← e1] at f1
    have f2 := val_digs (fixR b l m).den
    rw [← e2] at f2
    have g1 := val_lt hu.ws
    have g2 := val_lt hd.ws
    have k1 := Nat.pow_le_pow_right (n := 4294967296) (by omega) hl
    have k2 := Nat.pow_le_pow_right (n := 4294967296) (by omega) hm
    exact ⟨by omega, by omega⟩
  | false =>
    have e : fixR b l m = 0 := by unfold fixR; rw [hR]; rfl
    rw [e]
    exact ⟨Nat.pow_pos (by omega), by simp⟩
theorem sz_mul {m : Nat} {q p : Rat} (h1 : szQ m 1 q) (h2 : szQ m 1 p) : szQ (2 * m) 1 (q * p) := by
  unfold szQ at *
  rw [Nat.pow_one, Nat.one_mul] at *
  have e : (4294967296 : Nat) ^ (2 * m) = 4294967296 ^ m * 4294967296 ^ m := by rw [Nat.two_mul, Nat.pow_add]
  rw [e]
  generalize 4294967296 ^ m = B at *
  have h3 := mk_le (z := q.num * p.num) (y := q.den * p.den) (Nat.mul_ne_zero q.den_nz p.den_nz)
  rw [← Rat.mul_def'] at h3
  exact ⟨Nat.le_trans h3.2 (Nat.mul_le_mul h1.1 h2.1), Nat.le_trans h3.1 (by rw [Int.natAbs_mul]; exact Nat.mul_le_mul h1.2 h2.2)⟩

/-- The sum of n terms from one place on. -/
def sumR (g : Nat → Rat) (lo : Nat) : Nat → Rat
  | 0 => 0
  | n + 1 => sumR g lo n + g (lo + n)
theorem sumR_split (g : Nat → Rat) (lo a : Nat) : ∀ b, sumR g lo (a + b) = sumR g lo a + sumR g (lo + a) b
  | 0 => by rw [Nat.add_zero]; show _ = sumR g lo a + 0; rw [Rat.add_zero]
  | b + 1 => by
    show sumR g lo (a + b) + g (lo + (a + b)) = _
    rw [sumR_split g lo a b]
    show _ = sumR g lo a + (sumR g (lo + a) b + g (lo + a + b))
    rw [Rat.add_assoc, Nat.add_assoc]
theorem sz_sum {m : Nat} {g : Nat → Rat} {lo : Nat} : ∀ {n : Nat}, (∀ i, lo ≤ i → i < lo + n → szQ m 1 (g i)) → szQ m n (sumR g lo n)
  | 0, _ => sz_zero m
  | n + 1, h => sz_add (sz_sum fun i h1 h2 => h i h1 (by omega)) (h (lo + n) (by omega) (by omega))
theorem sumR_one (g : Nat → Rat) (lo : Nat) : sumR g lo 1 = g lo := by
  show 0 + g (lo + 0) = _
  rw [Rat.zero_add, Nat.add_zero]

/-- A list of fractions of at most N words each. -/
def ListF (N : Nat) (w : World) (v : Value) (qs : List Rat) : Prop :=
  ∃ a c, v = .slice a qs.length c ∧ ∀ i q, qs[i]? = some q → ∃ B off b a1 n1 c1 a2 n2 c2, a = some ⟨B, off, none⟩ ∧ w.cell? ⟨B, off + i * 3, none⟩ = some (.bool b) ∧ w.cell? ⟨B, off + i * 3 + 1, none⟩ = some (.slice a1 n1 c1) ∧ w.cell? ⟨B, off + i * 3 + 2, none⟩ = some (.slice a2 n2 c2) ∧ FewF N w (.agg #[.bool b, .slice a1 n1 c1, .slice a2 n2 c2]) q
theorem ListF.below {N : Nat} {w w' : World} {v : Value} {qs : List Rat} (h : ListF N w v qs) (hb : Below w.heap.size w w') : ListF N w' v qs := by
  obtain ⟨a, c, hv, h⟩ := h
  refine ⟨a, c, hv, fun i q hi => ?_⟩
  obtain ⟨B, off, b, a1, n1, c1, a2, n2, c2, ha, h0, h1, h2, hf⟩ := h i q hi
  exact ⟨B, off, b, a1, n1, c1, a2, n2, c2, ha, cell_below hb h0, cell_below hb h1, cell_below hb h2, hf.below hb⟩
/-- An element of a list, as the walk reads it. -/
theorem ListF.at {N : Nat} {w : World} {a : Option Addr} {n c : Nat} {qs : List Rat} (h : ListF N w (.slice a n c) qs) {i : Nat} (hi : i < n) :
    ∃ q B off b a1 n1 c1 a2 n2 c2, qs[i]? = some q ∧ a = some ⟨B, off, none⟩ ∧ (∀ w', Below w.heap.size w w' → w'.cell? ⟨B, off + i * 3, none⟩ = some (.bool b) ∧ w'.cell? ⟨B, off + i * 3 + 1, none⟩ = some (.slice a1 n1 c1) ∧ w'.cell? ⟨B, off + i * 3 + 2, none⟩ = some (.slice a2 n2 c2)) ∧ FewF N w (.agg #[.bool b, .slice a1 n1 c1, .slice a2 n2 c2]) q := by
  obtain ⟨a', c', hv, h⟩ := h
  simp only [Value.slice.injEq] at hv
  obtain ⟨rfl, rfl, rfl⟩ := hv
  obtain ⟨B, off, b, a1, n1, c1, a2, n2, c2, ha, h0, h1, h2, hf⟩ := h i (qs[i]'hi) (List.getElem?_eq_getElem hi)
  exact ⟨qs[i], B, off, b, a1, n1, c1, a2, n2, c2, List.getElem?_eq_getElem hi, ha, fun w' hb => ⟨cell_below hb h0, cell_below hb h1, cell_below hb h2⟩, hf⟩
theorem ListF.len {N : Nat} {w : World} {a : Option Addr} {n c : Nat} {qs : List Rat} (h : ListF N w (.slice a n c) qs) : n = qs.length := by
  obtain ⟨a', c', hv, -⟩ := h
  simp only [Value.slice.injEq] at hv
  exact hv.2.1
def nthQ (qs : List Rat) (i : Nat) : Rat := (qs[i]?).getD 0
theorem nthQ_of {qs : List Rat} {i : Nat} {q : Rat} (h : qs[i]? = some q) : nthQ qs i = q := by unfold nthQ; rw [h]; rfl
end Go.Proofs.YtlaphdlocchagaaGreat

/- Lists of fractions: the terms added up by halves. -/
namespace Go.Proofs.YtlaphdlocchagaaGreat
open Go.RowKit
attribute [local go_sem ↓] Go.wp_at_zero Go.wp_at_succ

set_option maxRecDepth 8000 in
set_option maxHeartbeats 2000000 in
theorem total_sum {w0 : World} {g : Nat → Rat} {m Lo Hi : Nat} {p : Nat} (hm : m ≤ 100) (hHi : Hi ≤ 1000) (hsz : ∀ i, Lo ≤ i → i < Hi → szQ m 1 (g i))
    (Hf : ∀ i w', Lo ≤ i → i < Hi → Below w0.heap.size w0 w' → Calls Tryz.prog 109 #[.int .i64 (i : Nat), .pointer (some ⟨p, 0, none⟩)] w' fun e w'' => (∃ r, e = .returned r ∧ RatQ w'' r (g i)) ∧ Below w'.heap.size w' w'') :
    ∀ (n lo hi : Nat) (w : World), lo + n = hi → Lo ≤ lo → hi ≤ Hi → Below w0.heap.size w0 w →
    Calls Tryz.prog 108 #[.int .i64 (lo : Nat), .int .i64 (hi : Nat), .func (.func 109) #[] #[.pointer (some ⟨p, 0, none⟩)]] w fun e w' => (∃ r, e = .returned r ∧ RatQ w' r (sumR g lo n)) ∧ Below w.heap.size w w' := by
  have HF := Lib.hid Hf
  have HSZ := Lib.hid hsz
  clear Hf hsz
  intro n
  induction n using Nat.strongRecOn with
  | _ n IH =>
    intro lo hi w hn hlo hhi hb
    have HIH := Lib.hid IH
    clear IH
    have HB := Lib.hid hb
    have hd0 : (hi : Int) - (lo : Int) = (n : Int) := by omega
    obtain ⟨w1, hw1⟩ : ∃ w1, w1 = w.alloc (Obj.cells #[Value.slice none 0 0, Value.bool false, Value.slice none 0 0] 93) := ⟨_, rfl⟩
    have HB1 : Hid (Below w.heap.size w w1) := Lib.hid (by rw [hw1]; exact (Below.refl _ _).alloc (Nat.le_refl _) _)
    have HR : Hid (w1.heap[w.heap.size]? = some (.cells #[Value.slice none 0 0, Value.bool false, Value.slice none 0 0] 93 (0, 0))) := Lib.hid (by rw [hw1]; exact heap_alloc_new w _)
    have HW1 := Lib.hid hw1.symm
    have hz1 := below_trans hb HB1.out
    have HZ1 := Lib.hid hz1
    clear hw1 hb hz1
    have hn9 : n ≤ 1000 := by omega
    have hhi9 : hi ≤ 1000 := by omega
    by_cases h0 : n = 0
    · have t0 : ((n : Int) == 0) = true := by simp; omega
      have HS : Hid (sumR g lo n = 0) := Lib.hid (by rw [h0]; rfl)
      rw [HS.out]
      clear h0
      go_enter Tryz.func108, Tryz.ntmps108
      go_wp2_with fail
      rw [HW1.out]
      refine zero_w.mono ?_
      rintro en2 w2 ⟨⟨v2, rfl, u2, d2, rfl, hu2, hd2⟩, hb2⟩
      obtain ⟨a2, n2, c2, he2⟩ := hu2.form
      subst he2
      obtain ⟨i2, j2, k2, hf2⟩ := hd2.form
      subst hf2
      have HR2 : Hid (w2.heap[w.heap.size]? = some (.cells #[Value.slice none 0 0, Value.bool false, Value.slice none 0 0] 93 (0, 0))) := Lib.hid ((hb2.block _ (lt_of_block HR.out)).trans HR.out)
      have HB2 := Lib.hid (below_trans HB1.out hb2)
      have HU2 := Lib.hid hu2
      have HD2 := Lib.hid hd2
      have r0 := cells_later HR2.out 0 _ rfl _ (Below.refl _ _)
      have r1 := cells_later HR2.out 1 _ rfl _ (Below.refl _ _)
      have r2 := cells_later HR2.out 2 _ rfl _ (Below.refl _ _)
      have f0 := frozen_of_row _ _ 0 _ _ HR2.out
      have f1 := frozen_of_row _ _ 1 _ _ HR2.out
      have f2 := frozen_of_row _ _ 2 _ _ HR2.out
      clear hu2 hd2 hb2
      go_wp2_with fail
      exact bodyPost_ret (results_cell_row rfl _ _ w.heap.size _ _ _ _ rfl (rat3_heap HR2.out) Tryz.underlying93 rfl irat) rfl ⟨⟨_, rfl, rat3_q (q := 0) HR2.out HU2.out HD2.out⟩, below_only HB2.out (rat3_only _ _ _ _ _) (by omega)⟩
    · have t0 : ((n : Int) == 0) = false := by simp; omega
      by_cases h1 : n = 1
      · have t1 : ((n : Int) == 1) = true := by simp; omega
        have HS : Hid (sumR g lo n = g lo) := Lib.hid (by rw [h1]; exact sumR_one g lo)
        rw [HS.out]
        have K := Lib.hid (HF.out lo w1 hlo (by omega) HZ1.out)
        obtain ⟨q, hq⟩ : ∃ q, q = g lo := ⟨_, rfl⟩
        rw [← hq] at K ⊢
        clear h0 h1 hq
        go_enter Tryz.func108, Tryz.ntmps108
        go_wp2_with fail
        rw [HW1.out]
        refine K.out.mono ?_
        rintro en2 w2 ⟨⟨v2, rfl, h2⟩, hb2⟩
        obtain ⟨u2, d2, rfl, hu2, hd2⟩ := h2
        obtain ⟨a2, n2, c2, he2⟩ := hu2.form
        subst he2
        obtain ⟨i2, j2, k2, hf2⟩ := hd2.form
        subst hf2
        have HR2 : Hid (w2.heap[w.heap.size]? = some (.cells #[Value.slice none 0 0, Value.bool false, Value.slice none 0 0] 93 (0, 0))) := Lib.hid ((hb2.block _ (lt_of_block HR.out)).trans HR.out)
        have HB2 := Lib.hid (below_trans HB1.out hb2)
        have HU2 := Lib.hid hu2
        have HD2 := Lib.hid hd2
        have r0 := cells_later HR2.out 0 _ rfl _ (Below.refl _ _)
        have r1 := cells_later HR2.out 1 _ rfl _ (Below.refl _ _)
        have r2 := cells_later HR2.out 2 _ rfl _ (Below.refl _ _)
        have f0 := frozen_of_row _ _ 0 _ _ HR2.out
        have f1 := frozen_of_row _ _ 1 _ _ HR2.out
        have f2 := frozen_of_row _ _ 2 _ _ HR2.out
        clear hu2 hd2 hb2
        go_wp2_with fail
        exact bodyPost_ret (results_cell_row rfl _ _ w.heap.size _ _ _ _ rfl (rat3_heap HR2.out) Tryz.underlying93 rfl irat) rfl ⟨⟨_, rfl, rat3_q HR2.out HU2.out HD2.out⟩, below_only HB2.out (rat3_only _ _ _ _ _) (by omega)⟩
      · have t1 : ((n : Int) == 1) = false := by simp; omega
        obtain ⟨k, hk⟩ : ∃ k, k = n / 2 := ⟨_, rfl⟩
        obtain ⟨mid, hmid⟩ : ∃ x, x = lo + k := ⟨_, rfl⟩
        have e1 : (n : Int) / 2 = (k : Int) := by omega
        have e1' : Int.tdiv (n : Int) 2 = (k : Int) := by rw [Int.tdiv_eq_ediv_of_nonneg (by omega)]; omega
        have e2 : (lo : Int) + (k : Int) = (mid : Int) := by omega
        have hmid9 : mid ≤ 1000 := by omega
        have HSP : Hid (sumR g lo n = sumR g lo k + sumR g mid (n - k)) := Lib.hid (by
          have h9 := sumR_split g lo k (n - k)
          rw [show k + (n - k) = n by omega, ← hmid] at h9
          exact h9)
        have K1 := Lib.hid (HIH.out k (by omega) lo mid w1 hmid.symm hlo (by omega) HZ1.out)
        have K2 := Lib.hid (fun w' (hb : Below w0.heap.size w0 w') => HIH.out (n - k) (by omega) mid hi w' (by omega) (by omega) hhi hb)
        have L1 := Lib.hid (sz_len (m := m) (k := k) (sz_sum (g := g) (lo := lo) fun i h1 h2 => HSZ.out i (by omega) (by omega)) (by omega))
        have L2 := Lib.hid (sz_len (m := m) (k := n - k) (sz_sum (g := g) (lo := mid) fun i h1 h2 => HSZ.out i (by omega) (by omega)) (by omega))
        have HMK : Hid (m * k ≤ 100000 ∧ m * (n - k) ≤ 100000) := Lib.hid ⟨Nat.le_trans (Nat.mul_le_mul hm (show k ≤ 1000 by omega)) (by omega), Nat.le_trans (Nat.mul_le_mul hm (show n - k ≤ 1000 by omega)) (by omega)⟩
        obtain ⟨P, hP⟩ : ∃ P, P = sumR g lo k := ⟨_, rfl⟩
        obtain ⟨S, hS⟩ : ∃ S, S = sumR g mid (n - k) := ⟨_, rfl⟩
        rw [← hP] at K1 L1 HSP
        rw [← hS] at K2 L2 HSP
        rw [HSP.out]
        have K3 := Lib.hid (fun w' x y (h : RatQ w' x P) (k' : RatQ w' y S) => rplus_q (w := w') h k' (by have := L1.out; have := L2.out; have := HMK.out.1; have := HMK.out.2; omega))
        obtain ⟨Q, hQ⟩ : ∃ Q, Q = P + S := ⟨_, rfl⟩
        rw [← hQ] at K3 ⊢
        have hdd : (n : Int) = (hi : Int) - (lo : Int) := by omega
        clear h0 h1 hk hmid hP hS hQ HIH hdd
        go_enter Tryz.func108, Tryz.ntmps108
        go_wp2_with fail
        rw [HW1.out]
        refine K1.out.mono ?_
        rintro en2 w2 ⟨⟨v2, rfl, h2⟩, hb2⟩
        go_wp2_with fail
        refine (K2.out _ (below_trans HZ1.out hb2)).mono ?_
        rintro en3 w3 ⟨⟨v3, rfl, h3⟩, hb3⟩
        go_wp2_with fail
        refine (K3.out _ _ _ (h2.below hb3) h3).mono ?_
        rintro en4 w4 ⟨⟨v4, rfl, h4⟩, hb4⟩
        obtain ⟨u4, d4, rfl, hu4, hd4⟩ := h4
        obtain ⟨a4, n4, c4, he4⟩ := hu4.form
        subst he4
        obtain ⟨i4, j4, k4, hf4⟩ := hd4.form
        subst hf4
        have hz4 := below_trans hb2 (below_trans hb3 hb4)
        have HR4 : Hid (w4.heap[w.heap.size]? = some (.cells #[Value.slice none 0 0, Value.bool false, Value.slice none 0 0] 93 (0, 0))) := Lib.hid ((hz4.block _ (lt_of_block HR.out)).trans HR.out)
        have HB4 := Lib.hid (below_trans HB1.out hz4)
        have HU4 := Lib.hid hu4
        have HD4 := Lib.hid hd4
        have r0 := cells_later HR4.out 0 _ rfl _ (Below.refl _ _)
        have r1 := cells_later HR4.out 1 _ rfl _ (Below.refl _ _)
        have r2 := cells_later HR4.out 2 _ rfl _ (Below.refl _ _)
        have f0 := frozen_of_row _ _ 0 _ _ HR4.out
        have f1 := frozen_of_row _ _ 1 _ _ HR4.out
        have f2 := frozen_of_row _ _ 2 _ _ HR4.out
        clear hu4 hd4 hb2 hb3 hb4 hz4 h2 h3
        go_wp2_with fail
        exact bodyPost_ret (results_cell_row rfl _ _ w.heap.size _ _ _ _ rfl (rat3_heap HR4.out) Tryz.underlying93 rfl irat) rfl ⟨⟨_, rfl, rat3_q HR4.out HU4.out HD4.out⟩, below_only HB4.out (rat3_only _ _ _ _ _) (by omega)⟩
end Go.Proofs.YtlaphdlocchagaaGreat

/- Lists of fractions: one term. -/
namespace Go.Proofs.YtlaphdlocchagaaGreat
open Go.RowKit
attribute [local go_sem ↓] Go.wp_at_zero Go.wp_at_succ

set_option maxRecDepth 8000 in
set_option maxHeartbeats 2000000 in
theorem sum1_w {N : Nat} {w : World} {p : Nat} {a : Option Addr} {n c i : Nat} {qs : List Rat} (hp : w.cell? ⟨p, 0, none⟩ = some (.slice a n c)) (hl : ListF N w (.slice a n c) qs) (hi : i < n) (_hn : n ≤ 1000) :
    Calls Tryz.prog 109 #[.int .i64 (i : Nat), .pointer (some ⟨p, 0, none⟩)] w fun e w' => (∃ r, e = .returned r ∧ RatQ w' r (nthQ qs i)) ∧ Below w.heap.size w w' := by
  obtain ⟨q, B, off, b, a1, n1, c1, a2, n2, c2, hq, rfl, hc, hf⟩ := hl.at hi
  rw [nthQ_of hq]
  obtain ⟨w1, hw1⟩ : ∃ w1, w1 = w.alloc (Obj.cells #[Value.slice none 0 0, Value.bool false, Value.slice none 0 0] 93) := ⟨_, rfl⟩
  have HB1 : Hid (Below w.heap.size w w1) := Lib.hid (by rw [hw1]; exact (Below.refl _ _).alloc (Nat.le_refl _) _)
  have HR : Hid (w1.heap[w.heap.size]? = some (.cells #[Value.slice none 0 0, Value.bool false, Value.slice none 0 0] 93 (0, 0))) := Lib.hid (by rw [hw1]; exact heap_alloc_new w _)
  have HW1 := Lib.hid hw1.symm
  have hp1 : w1.cell? ⟨p, 0, none⟩ = some (.slice (some ⟨B, off, none⟩) n c) := cell_below HB1.out hp
  obtain ⟨x0, x1, x2⟩ := hc w1 HB1.out
  obtain ⟨b', l', m', hr', hq', -, -⟩ := hf
  have K := Lib.hid (read_w (hr'.below HB1.out))
  rw [← hq'] at K
  clear hw1 hc hl hp hr' hq' hq
  go_enter Tryz.func109, Tryz.ntmps109
  go_upto_region 1 with fail
  rw [HW1.out]
  go_wp2_with fail
  refine K.out.mono ?_
  rintro en2 w2 ⟨⟨v2, rfl, h2⟩, hb2⟩
  obtain ⟨u2, d2, rfl, hu2, hd2⟩ := h2
  obtain ⟨a2, n2, c2, he2⟩ := hu2.form
  subst he2
  obtain ⟨i2, j2, k2, hf2⟩ := hd2.form
  subst hf2
  have HR2 : Hid (w2.heap[w.heap.size]? = some (.cells #[Value.slice none 0 0, Value.bool false, Value.slice none 0 0] 93 (0, 0))) := Lib.hid ((hb2.block _ (lt_of_block HR.out)).trans HR.out)
  have HB2 := Lib.hid (below_trans HB1.out hb2)
  have HU2 := Lib.hid hu2
  have HD2 := Lib.hid hd2
  have r0 := cells_later HR2.out 0 _ rfl _ (Below.refl _ _)
  have r1 := cells_later HR2.out 1 _ rfl _ (Below.refl _ _)
  have r2 := cells_later HR2.out 2 _ rfl _ (Below.refl _ _)
  have f0 := frozen_of_row _ _ 0 _ _ HR2.out
  have f1 := frozen_of_row _ _ 1 _ _ HR2.out
  have f2 := frozen_of_row _ _ 2 _ _ HR2.out
  clear hu2 hd2 hb2
  go_wp2_with fail
  exact bodyPost_ret (results_cell_row rfl _ _ w.heap.size _ _ _ _ rfl (rat3_heap HR2.out) Tryz.underlying93 rfl irat) rfl ⟨⟨_, rfl, rat3_q HR2.out HU2.out HD2.out⟩, below_only HB2.out (rat3_only _ _ _ _ _) (by omega)⟩
end Go.Proofs.YtlaphdlocchagaaGreat

/- Lists of fractions: sums. -/
namespace Go.Proofs.YtlaphdlocchagaaGreat
open Go.RowKit
attribute [local go_sem ↓] Go.wp_at_zero Go.wp_at_succ

set_option maxRecDepth 8000 in
set_option maxHeartbeats 2000000 in
theorem sum_wG {N : Nat} {w : World} {v : Value} {qs : List Rat} (hl : ListF N w v qs) (hN : N ≤ 50) (hn : qs.length ≤ 100) (hNn : N * qs.length ≤ 1000) :
    Calls Tryz.prog 72 #[v] w (RTell w (sumR (nthQ qs) 0 qs.length)) := by
  obtain ⟨a, c, rfl, -⟩ := id hl
  obtain ⟨n, hnn⟩ : ∃ n, n = qs.length := ⟨_, rfl⟩
  rw [← hnn] at hl hn hNn ⊢
  obtain ⟨w1, hw1⟩ : ∃ w1, w1 = (w.alloc (Obj.cells #[Value.slice a n c] 23)).alloc (Obj.cells #[Value.bool false, Value.slice none 0 0, Value.slice none 0 0] 47) := ⟨_, rfl⟩
  have HB1 : Hid (Below w.heap.size w w1) := Lib.hid (by rw [hw1]; exact ((Below.refl _ _).alloc (Nat.le_refl _) _).alloc (by simp) _)
  have HX : Hid (w1.heap[w.heap.size]? = some (.cells #[Value.slice a n c] 23 (0, 0))) := Lib.hid (by rw [hw1]; exact heap_alloc2_old w _ _)
  have HR : Hid (w1.heap[w.heap.size + 1]? = some (.cells #[Value.bool false, Value.slice none 0 0, Value.slice none 0 0] 47 (0, 0))) := Lib.hid (by rw [hw1]; exact heap_alloc2_new w _ _)
  have HW1 := Lib.hid hw1.symm
  have HL := Lib.hid (hl.below HB1.out)
  have RX := Lib.hid (cells_later HX.out)
  have hsz : ∀ i, 0 ≤ i → i < n → szQ N 1 (nthQ qs i) := fun i _ hi => by
    obtain ⟨q, B, off, b, a1, n1, c1, a2, n2, c2, hq, -, -, hf⟩ := hl.at hi
    rw [nthQ_of hq]; exact few_sz hf
  have K1 := Lib.hid (total_sum (w0 := w1) (g := nthQ qs) (m := N) (Lo := 0) (Hi := n) (p := w.heap.size) (by omega) (by omega) hsz (fun i w' _ hi hb => sum1_w (RX.out 0 _ rfl _ hb) (HL.out.below hb) hi (by omega)) n 0 n w1 (by omega) (by omega) (Nat.le_refl _) (Below.refl _ _))
  have HS := Lib.hid (sz_len (sz_sum (g := nthQ qs) (lo := 0) (n := n) fun i h1 h2 => hsz i h1 (by omega)) (by omega))
  have HNN : Hid (N * n ≤ 1000) := Lib.hid hNn
  obtain ⟨Q, hQ⟩ : ∃ Q, Q = sumR (nthQ qs) 0 n := ⟨_, rfl⟩
  rw [← hQ] at K1 HS ⊢
  have K2 := Lib.hid (fun w' x (h : RatQ w' x Q) => tell_w (w := w') h (by have := HS.out; have := HNN.out; omega))
  rw [cut_id (by have := HS.out; have := HNN.out; omega)] at K2
  have hz1 := Below.refl w1.heap.size w1
  have x0 := RX.out 0 _ rfl _ hz1
  have hmf : ∀ (fn : Fn) (first cap : Array Value) (w : World), (Instr.makeFunc fn first cap).run Tryz.prog w = .ok (.func fn first cap) w := fun _ _ _ _ => rfl
  clear hw1 hl hsz hQ hnn hNn
  go_enter Tryz.func72, Tryz.ntmps72
  go_upto_region 1 with fail
  rw [HW1.out]
  go_wp2_with fail
  refine K1.out.mono ?_
  rintro en2 w2 ⟨⟨v2, rfl, h2⟩, hb2⟩
  go_wp2_with fail
  refine (K2.out _ _ h2).mono ?_
  rintro en3 w3 ⟨⟨v3, rfl, f3, -⟩, hb3⟩
  obtain ⟨a3, n3, c3, i3, j3, k3, hq3⟩ := frac_form f3
  subst hq3
  have hz3 := below_trans hb2 hb3
  have HRk : Hid (w3.heap[w.heap.size + 1]? = some (.cells #[Value.bool false, Value.slice none 0 0, Value.slice none 0 0] 47 (0, 0))) := Lib.hid ((hz3.block _ (lt_of_block HR.out)).trans HR.out)
  have HFk := Lib.hid (f3.other HRk.out (frac3_only _ _ (decide (Q.num < 0)) (Value.slice a3 n3 c3) (Value.slice i3 j3 k3)))
  have HBk := Lib.hid (below_trans HB1.out hz3)
  have r0 := cells_later HRk.out 0 _ rfl _ (Below.refl _ _)
  have r1 := cells_later HRk.out 1 _ rfl _ (Below.refl _ _)
  have r2 := cells_later HRk.out 2 _ rfl _ (Below.refl _ _)
  have f0 := frozen_of_row _ _ 0 _ _ HRk.out
  have f1 := frozen_of_row _ _ 1 _ _ HRk.out
  have f2 := frozen_of_row _ _ 2 _ _ HRk.out
  clear f3
  go_wp2_with fail
  exact bodyPost_ret (results_cell_row rfl _ _ (w.heap.size + 1) _ _ _ _ rfl (frac3_heap HRk.out) Tryz.underlying47 rfl ifrac) rfl ⟨⟨_, rfl, HFk.out⟩, below_only HBk.out (frac3_only _ _ _ _ _) (by omega)⟩
theorem sum_w {N : Nat} {w : World} {v : Value} {qs : List Rat} (hl : ListF N w v qs) (hN : N ≤ 50) (hn : qs.length ≤ 20) :
    Calls Tryz.prog 72 #[v] w (RTell w (sumR (nthQ qs) 0 qs.length)) :=
  sum_wG hl hN (by omega) (Nat.le_trans (Nat.mul_le_mul hN hn) (by omega))
end Go.Proofs.YtlaphdlocchagaaGreat

/- Lists of fractions: the terms of products added up by halves. -/
namespace Go.Proofs.YtlaphdlocchagaaGreat
open Go.RowKit
attribute [local go_sem ↓] Go.wp_at_zero Go.wp_at_succ

set_option maxRecDepth 8000 in
set_option maxHeartbeats 2000000 in
theorem total_dot {w0 : World} {g : Nat → Rat} {m Lo Hi : Nat} {p p2 : Nat} (hm : m ≤ 100) (hHi : Hi ≤ 1000) (hsz : ∀ i, Lo ≤ i → i < Hi → szQ m 1 (g i))
    (Hf : ∀ i w', Lo ≤ i → i < Hi → Below w0.heap.size w0 w' → Calls Tryz.prog 106 #[.int .i64 (i : Nat), .pointer (some ⟨p, 0, none⟩), .pointer (some ⟨p2, 0, none⟩)] w' fun e w'' => (∃ r, e = .returned r ∧ RatQ w'' r (g i)) ∧ Below w'.heap.size w' w'') :
    ∀ (n lo hi : Nat) (w : World), lo + n = hi → Lo ≤ lo → hi ≤ Hi → Below w0.heap.size w0 w →
    Calls Tryz.prog 108 #[.int .i64 (lo : Nat), .int .i64 (hi : Nat), .func (.func 106) #[] #[.pointer (some ⟨p, 0, none⟩), .pointer (some ⟨p2, 0, none⟩)]] w fun e w' => (∃ r, e = .returned r ∧ RatQ w' r (sumR g lo n)) ∧ Below w.heap.size w w' := by
  have HF := Lib.hid Hf
  have HSZ := Lib.hid hsz
  clear Hf hsz
  intro n
  induction n using Nat.strongRecOn with
  | _ n IH =>
    intro lo hi w hn hlo hhi hb
    have HIH := Lib.hid IH
    clear IH
    have HB := Lib.hid hb
    have hd0 : (hi : Int) - (lo : Int) = (n : Int) := by omega
    obtain ⟨w1, hw1⟩ : ∃ w1, w1 = w.alloc (Obj.cells #[Value.slice none 0 0, Value.bool false, Value.slice none 0 0] 93) := ⟨_, rfl⟩
    have HB1 : Hid (Below w.heap.size w w1) := Lib.hid (by rw [hw1]; exact (Below.refl _ _).alloc (Nat.le_refl _) _)
    have HR : Hid (w1.heap[w.heap.size]? = some (.cells #[Value.slice none 0 0, Value.bool false, Value.slice none 0 0] 93 (0, 0))) := Lib.hid (by rw [hw1]; exact heap_alloc_new w _)
    have HW1 := Lib.hid hw1.symm
    have hz1 := below_trans hb HB1.out
    have HZ1 := Lib.hid hz1
    clear hw1 hb hz1
    have hn9 : n ≤ 1000 := by omega
    have hhi9 : hi ≤ 1000 := by omega
    by_cases h0 : n = 0
    · have t0 : ((n : Int) == 0) = true := by simp; omega
      have HS : Hid (sumR g lo n = 0) := Lib.hid (by rw [h0]; rfl)
      rw [HS.out]
      clear h0
      go_enter Tryz.func108, Tryz.ntmps108
      go_wp2_with fail
      rw [HW1.out]
      refine zero_w.mono ?_
      rintro en2 w2 ⟨⟨v2, rfl, u2, d2, rfl, hu2, hd2⟩, hb2⟩
      obtain ⟨a2, n2, c2, he2⟩ := hu2.form
      subst he2
      obtain ⟨i2, j2, k2, hf2⟩ := hd2.form
      subst hf2
      have HR2 : Hid (w2.heap[w.heap.size]? = some (.cells #[Value.slice none 0 0, Value.bool false, Value.slice none 0 0] 93 (0, 0))) := Lib.hid ((hb2.block _ (lt_of_block HR.out)).trans HR.out)
      have HB2 := Lib.hid (below_trans HB1.out hb2)
      have HU2 := Lib.hid hu2
      have HD2 := Lib.hid hd2
      have r0 := cells_later HR2.out 0 _ rfl _ (Below.refl _ _)
      have r1 := cells_later HR2.out 1 _ rfl _ (Below.refl _ _)
      have r2 := cells_later HR2.out 2 _ rfl _ (Below.refl _ _)
      have f0 := frozen_of_row _ _ 0 _ _ HR2.out
      have f1 := frozen_of_row _ _ 1 _ _ HR2.out
      have f2 := frozen_of_row _ _ 2 _ _ HR2.out
      clear hu2 hd2 hb2
      go_wp2_with fail
      exact bodyPost_ret (results_cell_row rfl _ _ w.heap.size _ _ _ _ rfl (rat3_heap HR2.out) Tryz.underlying93 rfl irat) rfl ⟨⟨_, rfl, rat3_q (q := 0) HR2.out HU2.out HD2.out⟩, below_only HB2.out (rat3_only _ _ _ _ _) (by omega)⟩
    · have t0 : ((n : Int) == 0) = false := by simp; omega
      by_cases h1 : n = 1
      · have t1 : ((n : Int) == 1) = true := by simp; omega
        have HS : Hid (sumR g lo n = g lo) := Lib.hid (by rw [h1]; exact sumR_one g lo)
        rw [HS.out]
        have K := Lib.hid (HF.out lo w1 hlo (by omega) HZ1.out)
        obtain ⟨q, hq⟩ : ∃ q, q = g lo := ⟨_, rfl⟩
        rw [← hq] at K ⊢
        clear h0 h1 hq
        go_enter Tryz.func108, Tryz.ntmps108
        go_wp2_with fail
        rw [HW1.out]
        refine K.out.mono ?_
        rintro en2 w2 ⟨⟨v2, rfl, h2⟩, hb2⟩
        obtain ⟨u2, d2, rfl, hu2, hd2⟩ := h2
        obtain ⟨a2, n2, c2, he2⟩ := hu2.form
        subst he2
        obtain ⟨i2, j2, k2, hf2⟩ := hd2.form
        subst hf2
        have HR2 : Hid (w2.heap[w.heap.size]? = some (.cells #[Value.slice none 0 0, Value.bool false, Value.slice none 0 0] 93 (0, 0))) := Lib.hid ((hb2.block _ (lt_of_block HR.out)).trans HR.out)
        have HB2 := Lib.hid (below_trans HB1.out hb2)
        have HU2 := Lib.hid hu2
        have HD2 := Lib.hid hd2
        have r0 := cells_later HR2.out 0 _ rfl _ (Below.refl _ _)
        have r1 := cells_later HR2.out 1 _ rfl _ (Below.refl _ _)
        have r2 := cells_later HR2.out 2 _ rfl _ (Below.refl _ _)
        have f0 := frozen_of_row _ _ 0 _ _ HR2.out
        have f1 := frozen_of_row _ _ 1 _ _ HR2.out
        have f2 := frozen_of_row _ _ 2 _ _ HR2.out
        clear hu2 hd2 hb2
        go_wp2_with fail
        exact bodyPost_ret (results_cell_row rfl _ _ w.heap.size _ _ _ _ rfl (rat3_heap HR2.out) Tryz.underlying93 rfl irat) rfl ⟨⟨_, rfl, rat3_q HR2.out HU2.out HD2.out⟩, below_only HB2.out (rat3_only _ _ _ _ _) (by omega)⟩
      · have t1 : ((n : Int) == 1) = false := by simp; omega
        obtain ⟨k, hk⟩ : ∃ k, k = n / 2 := ⟨_, rfl⟩
        obtain ⟨mid, hmid⟩ : ∃ x, x = lo + k := ⟨_, rfl⟩
        have e1 : (n : Int) / 2 = (k : Int) := by omega
        have e1' : Int.tdiv (n : Int) 2 = (k : Int) := by rw [Int.tdiv_eq_ediv_of_nonneg (by omega)]; omega
        have e2 : (lo : Int) + (k : Int) = (mid : Int) := by omega
        have hmid9 : mid ≤ 1000 := by omega
        have HSP : Hid (sumR g lo n = sumR g lo k + sumR g mid (n - k)) := Lib.hid (by
          have h9 := sumR_split g lo k (n - k)
          rw [show k + (n - k) = n by omega, ← hmid] at h9
          exact h9)
        have K1 := Lib.hid (HIH.out k (by omega) lo mid w1 hmid.symm hlo (by omega) HZ1.out)
        have K2 := Lib.hid (fun w' (hb : Below w0.heap.size w0 w') => HIH.out (n - k) (by omega) mid hi w' (by omega) (by omega) hhi hb)
        have L1 := Lib.hid (sz_len (m := m) (k := k) (sz_sum (g := g) (lo := lo) fun i h1 h2 => HSZ.out i (by omega) (by omega)) (by omega))
        have L2 := Lib.hid (sz_len (m := m) (k := n - k) (sz_sum (g := g) (lo := mid) fun i h1 h2 => HSZ.out i (by omega) (by omega)) (by omega))
        have HMK : Hid (m * k ≤ 100000 ∧ m * (n - k) ≤ 100000) := Lib.hid ⟨Nat.le_trans (Nat.mul_le_mul hm (show k ≤ 1000 by omega)) (by omega), Nat.le_trans (Nat.mul_le_mul hm (show n - k ≤ 1000 by omega)) (by omega)⟩
        obtain ⟨P, hP⟩ : ∃ P, P = sumR g lo k := ⟨_, rfl⟩
        obtain ⟨S, hS⟩ : ∃ S, S = sumR g mid (n - k) := ⟨_, rfl⟩
        rw [← hP] at K1 L1 HSP
        rw [← hS] at K2 L2 HSP
        rw [HSP.out]
        have K3 := Lib.hid (fun w' x y (h : RatQ w' x P) (k' : RatQ w' y S) => rplus_q (w := w') h k' (by have := L1.out; have := L2.out; have := HMK.out.1; have := HMK.out.2; omega))
        obtain ⟨Q, hQ⟩ : ∃ Q, Q = P + S := ⟨_, rfl⟩
        rw [← hQ] at K3 ⊢
        have hdd : (n : Int) = (hi : Int) - (lo : Int) := by omega
        clear h0 h1 hk hmid hP hS hQ HIH hdd
        go_enter Tryz.func108, Tryz.ntmps108
        go_wp2_with fail
        rw [HW1.out]
        refine K1.out.mono ?_
        rintro en2 w2 ⟨⟨v2, rfl, h2⟩, hb2⟩
        go_wp2_with fail
        refine (K2.out _ (below_trans HZ1.out hb2)).mono ?_
        rintro en3 w3 ⟨⟨v3, rfl, h3⟩, hb3⟩
        go_wp2_with fail
        refine (K3.out _ _ _ (h2.below hb3) h3).mono ?_
        rintro en4 w4 ⟨⟨v4, rfl, h4⟩, hb4⟩
        obtain ⟨u4, d4, rfl, hu4, hd4⟩ := h4
        obtain ⟨a4, n4, c4, he4⟩ := hu4.form
        subst he4
        obtain ⟨i4, j4, k4, hf4⟩ := hd4.form
        subst hf4
        have hz4 := below_trans hb2 (below_trans hb3 hb4)
        have HR4 : Hid (w4.heap[w.heap.size]? = some (.cells #[Value.slice none 0 0, Value.bool false, Value.slice none 0 0] 93 (0, 0))) := Lib.hid ((hz4.block _ (lt_of_block HR.out)).trans HR.out)
        have HB4 := Lib.hid (below_trans HB1.out hz4)
        have HU4 := Lib.hid hu4
        have HD4 := Lib.hid hd4
        have r0 := cells_later HR4.out 0 _ rfl _ (Below.refl _ _)
        have r1 := cells_later HR4.out 1 _ rfl _ (Below.refl _ _)
        have r2 := cells_later HR4.out 2 _ rfl _ (Below.refl _ _)
        have f0 := frozen_of_row _ _ 0 _ _ HR4.out
        have f1 := frozen_of_row _ _ 1 _ _ HR4.out
        have f2 := frozen_of_row _ _ 2 _ _ HR4.out
        clear hu4 hd4 hb2 hb3 hb4 hz4 h2 h3
        go_wp2_with fail
        exact bodyPost_ret (results_cell_row rfl _ _ w.heap.size _ _ _ _ rfl (rat3_heap HR4.out) Tryz.underlying93 rfl irat) rfl ⟨⟨_, rfl, rat3_q HR4.out HU4.out HD4.out⟩, below_only HB4.out (rat3_only _ _ _ _ _) (by omega)⟩
end Go.Proofs.YtlaphdlocchagaaGreat
