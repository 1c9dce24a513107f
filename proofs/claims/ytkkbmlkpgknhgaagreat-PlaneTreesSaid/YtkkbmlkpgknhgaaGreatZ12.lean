import Derived.Test.YtkkbmlkpgknhgaaGreatZ11
import Derived.Deep.DrawnRows
import Derived.Deep.DeepCutAuto
import Derived.Deep.AppendLies
import Derived.Test.YtkkbmlkpgknhgaaGreatZ7
set_option maxRecDepth 100000
set_option maxHeartbeats 16000000
namespace Go.Proofs.YtkkbmlkpgknhgaaGreat
open Go.RowKit
variable {Hii Lo N c c1 c2 i j k m n n1 n2 p p2 : Nat} {a a1 a2 : Option Addr} {b : Bool} {l : List Nat} {ps qs : List Rat} {q : Rat} {v v' : Value} {w w' w0 : World}
def szQ (m k : Nat) (q : Rat) : Prop := q.den ≤ (4294967296 ^ m) ^ k ∧ q.num.natAbs ≤ k * (4294967296 ^ m) ^ k
theorem g4x (m : Nat) : szQ m 0 0 := ⟨by simp, by simp⟩
theorem x9x {z : Int} {y : Nat} (hy : y ≠ 0) : (mkRat z y).num.natAbs ≤ z.natAbs ∧ (mkRat z y).den ≤ y := by
 obtain ⟨h1, h2, -⟩ := y1z (z := z) hy
 exact ⟨by rw [h1]; exact Nat.div_le_self _ _, by rw [h2]; exact Nat.div_le_self _ _⟩
theorem k0y {p : Rat} (h1 : szQ m k q) (h2 : szQ m j p) : szQ m (k + j) (q + p) := by
 unfold szQ at *
 generalize 4294967296 ^ m = B at *
 obtain ⟨a1, a2⟩ := h1
 obtain ⟨b1, b2⟩ := h2
 have h3 := x9x (z := q.num * p.den + p.num * q.den) (y := q.den * p.den) (Nat.mul_ne_zero q.den_nz p.den_nz)
 rw [← Rat.add_def'] at h3
 have e : B ^ (k + j) = B ^ k * B ^ j := Nat.pow_add _ _ _
 refine ⟨Nat.le_trans h3.2 (by rw [e]; exact Nat.mul_le_mul a1 b1), Nat.le_trans h3.1 ?_⟩
 refine Nat.le_trans (Int.natAbs_add_le _ _) ?_
 rw [Int.natAbs_mul, Int.natAbs_mul, Int.natAbs_natCast, Int.natAbs_natCast, Nat.add_mul, e]
 refine Nat.add_le_add ?_ ?_
 ·
  rw [← Nat.mul_assoc]
  exact Nat.mul_le_mul a2 b1
 ·
  rw [Nat.mul_comm (B ^ k), ← Nat.mul_assoc]
  exact Nat.mul_le_mul b2 a1
theorem o3q (h : szQ m k q) (hk : k < 4294967296) : j5q q ≤ 2 * (m * k) + 2 := by
 obtain ⟨h1, h2⟩ := h
 have e : ((4294967296 : Nat) ^ m) ^ k = 4294967296 ^ (m * k) := (Nat.pow_mul _ _ _).symm
 rw [e] at h1 h2
 have hp : 0 < (4294967296 : Nat) ^ (m * k) := Nat.pow_pos (by omega)
 have e2 : (4294967296 : Nat) ^ (m * k + 1) = 4294967296 ^ (m * k) * 4294967296 := Nat.pow_succ _ _
 generalize hG : (4294967296 : Nat) ^ (m * k) = G at *
 have l1 : (q2q q.den).length ≤ m * k + 1 := x0q.2 (by rw [e2]; omega)
 have l2 : (q2q q.num.natAbs).length ≤ m * k + 1 := x0q.2 (by
  rw [e2]
  refine Nat.lt_of_le_of_lt h2 ?_
  rw [Nat.mul_comm]
  exact Nat.mul_lt_mul_of_pos_left hk hp)
 unfold j5q; omega
theorem q5w (h : v6q n w v q) : szQ n 1 q := by
 obtain ⟨b, l, m, hr, rfl, hl, hm⟩ := h
 obtain ⟨u, d, -, hu, hd⟩ := hr
 unfold szQ
 rw [Nat.pow_one, Nat.one_mul]
 cases hR : v4q b l m with
 | true =>
  obtain ⟨e1, e2, -, -⟩ := i0q hu.ws hd.ws hR
  have f1 := j6q (v1q b l m).num.natAbs
  rw [← e1] at f1
  have f2 := j6q (v1q b l m).den
  rw [← e2] at f2
  have g1 := m0q hu.ws
  have g2 := m0q hd.ws
  have k1 := Nat.pow_le_pow_right (n := 4294967296) (by omega) hl
  have k2 := Nat.pow_le_pow_right (n := 4294967296) (by omega) hm
  exact ⟨by omega, by omega⟩
 | false =>
  have e : v1q b l m = 0 := by unfold v1q; rw [hR]; rfl
  rw [e]
  exact ⟨Nat.pow_pos (by omega), by simp⟩
theorem q7j {p : Rat} (h1 : szQ m 1 q) (h2 : szQ m 1 p) : szQ (2 * m) 1 (q * p) := by
 unfold szQ at *
 rw [Nat.pow_one, Nat.one_mul] at *
 have e : (4294967296 : Nat) ^ (2 * m) = 4294967296 ^ m * 4294967296 ^ m := by rw [Nat.two_mul, Nat.pow_add]
 rw [e]
 generalize 4294967296 ^ m = B at *
 have h3 := x9x (z := q.num * p.num) (y := q.den * p.den) (Nat.mul_ne_zero q.den_nz p.den_nz)
 rw [← Rat.mul_def'] at h3
 exact ⟨Nat.le_trans h3.2 (Nat.mul_le_mul h1.1 h2.1), Nat.le_trans h3.1 (by rw [Int.natAbs_mul]; exact Nat.mul_le_mul h1.2 h2.2)⟩

def j8q (g : Nat → Rat) (lo : Nat) : Nat → Rat
 | 0 => 0
 | n + 1 => j8q g lo n + g (lo + n)
theorem j4h (g : Nat → Rat) (lo a : Nat) : ∀ b, j8q g lo (a + b) = j8q g lo a + j8q g (lo + a) b
 | 0 => by rw [Nat.add_zero]; show _ = j8q g lo a + 0; rw [Rat.add_zero]
 | b + 1 => by
  show j8q g lo (a + b) + g (lo + (a + b)) = _
  rw [j4h g lo a b]
  show _ = j8q g lo a + (j8q g (lo + a) b + g (lo + a + b))
  rw [Rat.add_assoc, Nat.add_assoc]
theorem e1q {g : Nat → Rat} {lo : Nat} : ∀ {n : Nat}, (∀ i, lo ≤ i → i < lo + n → szQ m 1 (g i)) → szQ m n (j8q g lo n)
 | 0, _ => g4x m
 | n + 1, h => k0y (e1q fun i h1 h2 => h i h1 (by omega)) (h (lo + n) (by omega) (by omega))
theorem v0w (g : Nat → Rat) (lo : Nat) : j8q g lo 1 = g lo := by
 show 0 + g (lo + 0) = _
 rw [Rat.zero_add, Nat.add_zero]

def z1q (N : Nat) (w : World) (v : Value) (qs : List Rat) : Prop :=
 ∃ a c, v = .slice a qs.length c ∧ ∀ i q, qs[i]? = some q → ∃ B off b a1 n1 c1 a2 n2 c2, a = some ⟨B, off, none⟩ ∧ w.cell? ⟨B, off + i * 3, none⟩ = some (.bool b) ∧ w.cell? ⟨B, off + i * 3 + 1, none⟩ = some (.slice a1 n1 c1) ∧ w.cell? ⟨B, off + i * 3 + 2, none⟩ = some (.slice a2 n2 c2) ∧ v6q N w (.agg #[.bool b, .slice a1 n1 c1, .slice a2 n2 c2]) q
theorem z1q.below (h : z1q N w v qs) (hb : Below w.heap.size w w') : z1q N w' v qs := by
 obtain ⟨a, c, hv, h⟩ := h
 refine ⟨a, c, hv, fun i q hi => ?_⟩
 obtain ⟨B, off, b, a1, n1, c1, a2, n2, c2, ha, h0, h1, h2, hf⟩ := h i q hi
 exact ⟨B, off, b, a1, n1, c1, a2, n2, c2, ha, q3q hb h0, q3q hb h1, q3q hb h2, hf.below hb⟩
theorem z1q.at (h : z1q N w (.slice a n c) qs) {i : Nat} (hi : i < n) :
  ∃ q B off b a1 n1 c1 a2 n2 c2, qs[i]? = some q ∧ a = some ⟨B, off, none⟩ ∧ (∀ w', Below w.heap.size w w' → w'.cell? ⟨B, off + i * 3, none⟩ = some (.bool b) ∧ w'.cell? ⟨B, off + i * 3 + 1, none⟩ = some (.slice a1 n1 c1) ∧ w'.cell? ⟨B, off + i * 3 + 2, none⟩ = some (.slice a2 n2 c2)) ∧ v6q N w (.agg #[.bool b, .slice a1 n1 c1, .slice a2 n2 c2]) q := by
 obtain ⟨a', c', hv, h⟩ := h
 simp only [Value.slice.injEq] at hv
 obtain ⟨rfl, rfl, rfl⟩ := hv
 obtain ⟨B, off, b, a1, n1, c1, a2, n2, c2, ha, h0, h1, h2, hf⟩ := h i (qs[i]'hi) (List.getElem?_eq_getElem hi)
 exact ⟨qs[i], B, off, b, a1, n1, c1, a2, n2, c2, List.getElem?_eq_getElem hi, ha, fun w' hb => ⟨q3q hb h0, q3q hb h1, q3q hb h2⟩, hf⟩
theorem z1q.len (h : z1q N w (.slice a n c) qs) : n = qs.length := by
 obtain ⟨a', c', hv, -⟩ := h
 simp only [Value.slice.injEq] at hv
 exact hv.2.1
def q9q (qs : List Rat) (i : Nat) : Rat := (qs[i]?).getD 0
theorem v9q (h : qs[i]? = some q) : q9q qs i = q := by unfold q9q; rw [h]; rfl
end Go.Proofs.YtkkbmlkpgknhgaaGreat
namespace Go.Proofs.YtkkbmlkpgknhgaaGreat
open Go.RowKit
attribute [local go_sem ↓] Go.wp_at_zero Go.wp_at_succ
variable {Hii Lo N c c1 c2 i j k m n n1 n2 p p2 : Nat} {a a1 a2 : Option Addr} {b : Bool} {l : List Nat} {ps qs : List Rat} {q : Rat} {v v' : Value} {w w' w0 : World}
theorem x1x {g : Nat → Rat} (hm : m ≤ 100) (hHi : Hii ≤ 1000) (hsz : ∀ i, Lo ≤ i → i < Hii → szQ m 1 (g i))
  (Hf : ∀ i w', Lo ≤ i → i < Hii → Below w0.heap.size w0 w' → Calls Tryz.prog 101 #[.int .i64 (i : Nat), .pointer (some ⟨p, 0, none⟩)] w' fun e w'' => (∃ r, e = .returned r ∧ g0q w'' r (g i)) ∧ Below w'.heap.size w' w'') :
  ∀ (n lo hi : Nat) (w : World), lo + n = hi → Lo ≤ lo → hi ≤ Hii → Below w0.heap.size w0 w →
  Calls Tryz.prog 100 #[.int .i64 (lo : Nat), .int .i64 (hi : Nat), .func (.func 101) #[] #[.pointer (some ⟨p, 0, none⟩)]] w fun e w' => (∃ r, e = .returned r ∧ g0q w' r (j8q g lo n)) ∧ Below w.heap.size w w' := by
 have HF := hdd Hf
 have HSZ := hdd hsz
 clear Hf hsz
 intro n
 induction n using Nat.strongRecOn with
 | _ n IH =>
  intro lo hi w hn hlo hhi hb
  have HIH := hdd IH
  clear IH
  have HB := hdd hb
  have hd0 : (hi : Int) - (lo : Int) = (n : Int) := by omega
  obtain ⟨w1, hw1, HB1, HR⟩ := al1 w #[.slice none 0 0, .bool false, .slice none 0 0] 89
  have HW1 := hdd hw1.symm
  have hz1 := q0q hb HB1.o
  have HZ1 := hdd hz1
  clear hw1 hb hz1
  have hn9 : n ≤ 1000 := by omega
  have hhi9 : hi ≤ 1000 := by omega
  by_cases h0 : n = 0
  ·
   have t0 : ((n : Int) == 0) = true := by simp; omega
   have HS : Hi (j8q g lo n = 0) := hdd (by rw [h0]; rfl)
   rw [HS.o]
   clear h0
   go_enter Tryz.func100, Tryz.ntmps100
   go_wp2_with fail
   rw [HW1.o]
   refine z7y.mono ?_
   rintro en2 w2 ⟨⟨v2, rfl, u2, d2, rfl, hu2, hd2⟩, hb2⟩
   obtain ⟨a2, n2, c2, he2⟩ := hu2.form
   subst he2
   obtain ⟨i2, j2, k2, hf2⟩ := hd2.form
   subst hf2
   have HR2 : Hi (w2.heap[w.heap.size]? = some (.cells #[.slice none 0 0, .bool false, .slice none 0 0] 89 (0, 0))) := hdd ((hb2.block _ (lt_of_block HR.o)).trans HR.o)
   have HB2 := hdd (q0q HB1.o hb2)
   have HU2 := hdd hu2
   have HD2 := hdd hd2
   have r0 := q1q HR2.o 0 _ rfl _ qb
   have r1 := q1q HR2.o 1 _ rfl _ qb
   have r2 := q1q HR2.o 2 _ rfl _ qb
   have f0 := frozen_of_row _ _ 0 _ _ HR2.o
   have f1 := frozen_of_row _ _ 1 _ _ HR2.o
   have f2 := frozen_of_row _ _ 2 _ _ HR2.o
   clear hu2 hd2 hb2
   go_wp2_with fail
   exact bodyPost_ret (results_cell_row rfl _ _ w.heap.size _ _ _ _ rfl (b0q HR2.o) Tryz.underlying89 rfl i8q) rfl ⟨⟨_, rfl, s2q (q := 0) HR2.o HU2.o HD2.o⟩, q4q HB2.o (g6q _ _ _ _ _) (by omega)⟩
  ·
   have t0 : ((n : Int) == 0) = false := by simp; omega
   by_cases h1 : n = 1
   ·
    have t1 : ((n : Int) == 1) = true := by simp; omega
    have HS : Hi (j8q g lo n = g lo) := hdd (by rw [h1]; exact v0w g lo)
    rw [HS.o]
    have K := hdd (HF.o lo w1 hlo (by omega) HZ1.o)
    obtain ⟨q, hq⟩ := qx (g lo)
    rw [← hq] at K ⊢
    clear h0 h1 hq
    go_enter Tryz.func100, Tryz.ntmps100
    go_wp2_with fail
    rw [HW1.o]
    refine K.o.mono ?_
    rintro en2 w2 ⟨⟨v2, rfl, h2⟩, hb2⟩
    obtain ⟨u2, d2, rfl, hu2, hd2⟩ := h2
    obtain ⟨a2, n2, c2, he2⟩ := hu2.form
    subst he2
    obtain ⟨i2, j2, k2, hf2⟩ := hd2.form
    subst hf2
    have HR2 : Hi (w2.heap[w.heap.size]? = some (.cells #[.slice none 0 0, .bool false, .slice none 0 0] 89 (0, 0))) := hdd ((hb2.block _ (lt_of_block HR.o)).trans HR.o)
    have HB2 := hdd (q0q HB1.o hb2)
    have HU2 := hdd hu2
    have HD2 := hdd hd2
    have r0 := q1q HR2.o 0 _ rfl _ qb
    have r1 := q1q HR2.o 1 _ rfl _ qb
    have r2 := q1q HR2.o 2 _ rfl _ qb
    have f0 := frozen_of_row _ _ 0 _ _ HR2.o
    have f1 := frozen_of_row _ _ 1 _ _ HR2.o
    have f2 := frozen_of_row _ _ 2 _ _ HR2.o
    clear hu2 hd2 hb2
    go_wp2_with fail
    exact bodyPost_ret (results_cell_row rfl _ _ w.heap.size _ _ _ _ rfl (b0q HR2.o) Tryz.underlying89 rfl i8q) rfl ⟨⟨_, rfl, s2q HR2.o HU2.o HD2.o⟩, q4q HB2.o (g6q _ _ _ _ _) (by omega)⟩
   ·
    have t1 : ((n : Int) == 1) = false := by simp; omega
    obtain ⟨k, hk⟩ := qx (n / 2)
    obtain ⟨mid, hmid⟩ := qx (lo + k)
    have e1 : (n : Int) / 2 = (k : Int) := by omega
    have e1' : Int.tdiv (n : Int) 2 = (k : Int) := by rw [Int.tdiv_eq_ediv_of_nonneg (by omega)]; omega
    have e2 : (lo : Int) + (k : Int) = (mid : Int) := by omega
    have hmid9 : mid ≤ 1000 := by omega
    have HSP : Hi (j8q g lo n = j8q g lo k + j8q g mid (n - k)) := hdd (by
     have h9 := j4h g lo k (n - k)
     rw [show k + (n - k) = n by omega, ← hmid] at h9
     exact h9)
    have K1 := hdd (HIH.o k (by omega) lo mid w1 hmid.symm hlo (by omega) HZ1.o)
    have K2 := hdd (fun w' (hb : Below w0.heap.size w0 w') => HIH.o (n - k) (by omega) mid hi w' (by omega) (by omega) hhi hb)
    have L1 := hdd (o3q (m := m) (k := k) (e1q (g := g) (lo := lo) fun i h1 h2 => HSZ.o i (by omega) (by omega)) (by omega))
    have L2 := hdd (o3q (m := m) (k := n - k) (e1q (g := g) (lo := mid) fun i h1 h2 => HSZ.o i (by omega) (by omega)) (by omega))
    have HMK : Hi (m * k ≤ 100000 ∧ m * (n - k) ≤ 100000) := hdd ⟨Nat.le_trans (Nat.mul_le_mul hm (show k ≤ 1000 by omega)) (by omega), Nat.le_trans (Nat.mul_le_mul hm (show n - k ≤ 1000 by omega)) (by omega)⟩
    obtain ⟨P, hP⟩ := qx (j8q g lo k)
    obtain ⟨S, hS⟩ := qx (j8q g mid (n - k))
    rw [← hP] at K1 L1 HSP
    rw [← hS] at K2 L2 HSP
    rw [HSP.o]
    have K3 := hdd (fun w' x y (h : g0q w' x P) (k' : g0q w' y S) => v7y (w := w') h k' (by have := L1.o; have := L2.o; have := HMK.o.1; have := HMK.o.2; omega))
    obtain ⟨Q, hQ⟩ := qx (P + S)
    rw [← hQ] at K3 ⊢
    have hd9d : (n : Int) = (hi : Int) - (lo : Int) := by omega
    clear h0 h1 hk hmid hP hS hQ HIH hd9d
    go_enter Tryz.func100, Tryz.ntmps100
    go_wp2_with fail
    rw [HW1.o]
    refine K1.o.mono ?_
    rintro en2 w2 ⟨⟨v2, rfl, h2⟩, hb2⟩
    go_wp2_with fail
    refine (K2.o _ (q0q HZ1.o hb2)).mono ?_
    rintro en3 w3 ⟨⟨v3, rfl, h3⟩, hb3⟩
    go_wp2_with fail
    refine (K3.o _ _ _ (h2.below hb3) h3).mono ?_
    rintro en4 w4 ⟨⟨v4, rfl, h4⟩, hb4⟩
    obtain ⟨u4, d4, rfl, hu4, hd4⟩ := h4
    obtain ⟨a4, n4, c4, he4⟩ := hu4.form
    subst he4
    obtain ⟨i4, j4, k4, hf4⟩ := hd4.form
    subst hf4
    have hz4 := q0q hb2 (q0q hb3 hb4)
    have HR4 : Hi (w4.heap[w.heap.size]? = some (.cells #[.slice none 0 0, .bool false, .slice none 0 0] 89 (0, 0))) := hdd ((hz4.block _ (lt_of_block HR.o)).trans HR.o)
    have HB4 := hdd (q0q HB1.o hz4)
    have HU4 := hdd hu4
    have HD4 := hdd hd4
    have r0 := q1q HR4.o 0 _ rfl _ qb
    have r1 := q1q HR4.o 1 _ rfl _ qb
    have r2 := q1q HR4.o 2 _ rfl _ qb
    have f0 := frozen_of_row _ _ 0 _ _ HR4.o
    have f1 := frozen_of_row _ _ 1 _ _ HR4.o
    have f2 := frozen_of_row _ _ 2 _ _ HR4.o
    clear hu4 hd4 hb2 hb3 hb4 hz4 h2 h3
    go_wp2_with fail
    exact bodyPost_ret (results_cell_row rfl _ _ w.heap.size _ _ _ _ rfl (b0q HR4.o) Tryz.underlying89 rfl i8q) rfl ⟨⟨_, rfl, s2q HR4.o HU4.o HD4.o⟩, q4q HB4.o (g6q _ _ _ _ _) (by omega)⟩
theorem k0j (hp : w.cell? ⟨p, 0, none⟩ = some (.slice a n c)) (hl : z1q N w (.slice a n c) qs) (hi : i < n) (_hn : n ≤ 1000) :
  Calls Tryz.prog 101 #[.int .i64 (i : Nat), .pointer (some ⟨p, 0, none⟩)] w fun e w' => (∃ r, e = .returned r ∧ g0q w' r (q9q qs i)) ∧ Below w.heap.size w w' := by
 obtain ⟨q, B, off, b, a1, n1, c1, a2, n2, c2, hq, rfl, hc, hf⟩ := hl.at hi
 rw [v9q hq]
 obtain ⟨w1, hw1, HB1, HR⟩ := al1 w #[.slice none 0 0, .bool false, .slice none 0 0] 89
 have HW1 := hdd hw1.symm
 have hp1 : w1.cell? ⟨p, 0, none⟩ = some (.slice (some ⟨B, off, none⟩) n c) := q3q HB1.o hp
 obtain ⟨x0, x1, x2⟩ := hc w1 HB1.o
 obtain ⟨b', l', m', hr', hq', -, -⟩ := hf
 have K := hdd (q6x (hr'.below HB1.o))
 rw [← hq'] at K
 clear hw1 hc hl hp hr' hq' hq
 go_enter Tryz.func101, Tryz.ntmps101
 go_upto_region 1 with fail
 rw [HW1.o]
 go_wp2_with fail
 refine K.o.mono ?_
 rintro en2 w2 ⟨⟨v2, rfl, h2⟩, hb2⟩
 obtain ⟨u2, d2, rfl, hu2, hd2⟩ := h2
 obtain ⟨a2, n2, c2, he2⟩ := hu2.form
 subst he2
 obtain ⟨i2, j2, k2, hf2⟩ := hd2.form
 subst hf2
 have HR2 : Hi (w2.heap[w.heap.size]? = some (.cells #[.slice none 0 0, .bool false, .slice none 0 0] 89 (0, 0))) := hdd ((hb2.block _ (lt_of_block HR.o)).trans HR.o)
 have HB2 := hdd (q0q HB1.o hb2)
 have HU2 := hdd hu2
 have HD2 := hdd hd2
 have r0 := q1q HR2.o 0 _ rfl _ qb
 have r1 := q1q HR2.o 1 _ rfl _ qb
 have r2 := q1q HR2.o 2 _ rfl _ qb
 have f0 := frozen_of_row _ _ 0 _ _ HR2.o
 have f1 := frozen_of_row _ _ 1 _ _ HR2.o
 have f2 := frozen_of_row _ _ 2 _ _ HR2.o
 clear hu2 hd2 hb2
 go_wp2_with fail
 exact bodyPost_ret (results_cell_row rfl _ _ w.heap.size _ _ _ _ rfl (b0q HR2.o) Tryz.underlying89 rfl i8q) rfl ⟨⟨_, rfl, s2q HR2.o HU2.o HD2.o⟩, q4q HB2.o (g6q _ _ _ _ _) (by omega)⟩
theorem x1j (hl : z1q N w v qs) (hN : N ≤ 50) (hn : qs.length ≤ 100) (hNn : N * qs.length ≤ 1000) :
  Calls Tryz.prog 69 #[v] w (h0q w (j8q (q9q qs) 0 qs.length)) := by
 obtain ⟨a, c, rfl, -⟩ := id hl
 obtain ⟨n, hnn⟩ := qx (qs.length)
 rw [← hnn] at hl hn hNn ⊢
 obtain ⟨w1, hw1, HB1, HX, HR⟩ := al2 w #[.slice a n c] 23 #[.bool false, .slice none 0 0, .slice none 0 0] 43
 have HW1 := hdd hw1.symm
 have HL := hdd (hl.below HB1.o)
 have RX := hdd (q1q HX.o)
 have hsz : ∀ i, 0 ≤ i → i < n → szQ N 1 (q9q qs i) := fun i _ hi => by
  obtain ⟨q, B, off, b, a1, n1, c1, a2, n2, c2, hq, -, -, hf⟩ := hl.at hi
  rw [v9q hq]; exact q5w hf
 have K1 := hdd (x1x (w0 := w1) (g := q9q qs) (m := N) (Lo := 0) (Hii := n) (p := w.heap.size) (by omega) (by omega) hsz (fun i w' _ hi hb => k0j (RX.o 0 _ rfl _ hb) (HL.o.below hb) hi (by omega)) n 0 n w1 (by omega) (by omega) qm qb)
 have HS := hdd (o3q (e1q (g := q9q qs) (lo := 0) (n := n) fun i h1 h2 => hsz i h1 (by omega)) (by omega))
 have HNN : Hi (N * n ≤ 1000) := hdd hNn
 obtain ⟨Q, hQ⟩ := qx (j8q (q9q qs) 0 n)
 rw [← hQ] at K1 HS ⊢
 have K2 := hdd (fun w' x (h : g0q w' x Q) => z6k (w := w') h (by have := HS.o; have := HNN.o; omega))
 rw [i7q (by have := HS.o; have := HNN.o; omega)] at K2
 have hz1 := Below.refl w1.heap.size w1
 have x0 := RX.o 0 _ rfl _ hz1
 have hmf : ∀ (fn : Fn) (first cap : Array Value) (w : World), (Instr.makeFunc fn first cap).run Tryz.prog w = .ok (.func fn first cap) w := fun _ _ _ _ => rfl
 clear hw1 hl hsz hQ hnn hNn
 go_enter Tryz.func69, Tryz.ntmps69
 go_upto_region 1 with fail
 rw [HW1.o]
 go_wp2_with fail
 refine K1.o.mono ?_
 rintro en2 w2 ⟨⟨v2, rfl, h2⟩, hb2⟩
 go_wp2_with fail
 refine (K2.o _ _ h2).mono ?_
 rintro en3 w3 ⟨⟨v3, rfl, f3, -⟩, hb3⟩
 obtain ⟨a3, n3, c3, i3, j3, k3, hq3⟩ := q8q f3
 subst hq3
 have hz3 := q0q hb2 hb3
 have HRk : Hi (w3.heap[w.heap.size + 1]? = some (.cells #[.bool false, .slice none 0 0, .slice none 0 0] 43 (0, 0))) := hdd ((hz3.block _ (lt_of_block HR.o)).trans HR.o)
 have HFk := hdd (f3.other HRk.o (q7q _ _ (decide (Q.num < 0)) (Value.slice a3 n3 c3) (Value.slice i3 j3 k3)))
 have HBk := hdd (q0q HB1.o hz3)
 have r0 := q1q HRk.o 0 _ rfl _ qb
 have r1 := q1q HRk.o 1 _ rfl _ qb
 have r2 := q1q HRk.o 2 _ rfl _ qb
 have f0 := frozen_of_row _ _ 0 _ _ HRk.o
 have f1 := frozen_of_row _ _ 1 _ _ HRk.o
 have f2 := frozen_of_row _ _ 2 _ _ HRk.o
 clear f3
 go_wp2_with fail
 exact bodyPost_ret (results_cell_row rfl _ _ (w.heap.size + 1) _ _ _ _ rfl (z5q HRk.o) Tryz.underlying43 rfl v0q) rfl ⟨⟨_, rfl, HFk.o⟩, q4q HBk.o (q7q _ _ _ _ _) (by omega)⟩
theorem x1v {g : Nat → Rat} (hm : m ≤ 100) (hHi : Hii ≤ 1000) (hsz : ∀ i, Lo ≤ i → i < Hii → szQ m 1 (g i))
  (Hf : ∀ i w', Lo ≤ i → i < Hii → Below w0.heap.size w0 w' → Calls Tryz.prog 132 #[.int .i64 (i : Nat), .pointer (some ⟨p, 0, none⟩), .pointer (some ⟨p2, 0, none⟩)] w' fun e w'' => (∃ r, e = .returned r ∧ g0q w'' r (g i)) ∧ Below w'.heap.size w' w'') :
  ∀ (n lo hi : Nat) (w : World), lo + n = hi → Lo ≤ lo → hi ≤ Hii → Below w0.heap.size w0 w →
  Calls Tryz.prog 100 #[.int .i64 (lo : Nat), .int .i64 (hi : Nat), .func (.func 132) #[] #[.pointer (some ⟨p, 0, none⟩), .pointer (some ⟨p2, 0, none⟩)]] w fun e w' => (∃ r, e = .returned r ∧ g0q w' r (j8q g lo n)) ∧ Below w.heap.size w w' := by
 have HF := hdd Hf
 have HSZ := hdd hsz
 clear Hf hsz
 intro n
 induction n using Nat.strongRecOn with
 | _ n IH =>
  intro lo hi w hn hlo hhi hb
  have HIH := hdd IH
  clear IH
  have HB := hdd hb
  have hd0 : (hi : Int) - (lo : Int) = (n : Int) := by omega
  obtain ⟨w1, hw1, HB1, HR⟩ := al1 w #[.slice none 0 0, .bool false, .slice none 0 0] 89
  have HW1 := hdd hw1.symm
  have hz1 := q0q hb HB1.o
  have HZ1 := hdd hz1
  clear hw1 hb hz1
  have hn9 : n ≤ 1000 := by omega
  have hhi9 : hi ≤ 1000 := by omega
  by_cases h0 : n = 0
  ·
   have t0 : ((n : Int) == 0) = true := by simp; omega
   have HS : Hi (j8q g lo n = 0) := hdd (by rw [h0]; rfl)
   rw [HS.o]
   clear h0
   go_enter Tryz.func100, Tryz.ntmps100
   go_wp2_with fail
   rw [HW1.o]
   refine z7y.mono ?_
   rintro en2 w2 ⟨⟨v2, rfl, u2, d2, rfl, hu2, hd2⟩, hb2⟩
   obtain ⟨a2, n2, c2, he2⟩ := hu2.form
   subst he2
   obtain ⟨i2, j2, k2, hf2⟩ := hd2.form
   subst hf2
   have HR2 : Hi (w2.heap[w.heap.size]? = some (.cells #[.slice none 0 0, .bool false, .slice none 0 0] 89 (0, 0))) := hdd ((hb2.block _ (lt_of_block HR.o)).trans HR.o)
   have HB2 := hdd (q0q HB1.o hb2)
   have HU2 := hdd hu2
   have HD2 := hdd hd2
   have r0 := q1q HR2.o 0 _ rfl _ qb
   have r1 := q1q HR2.o 1 _ rfl _ qb
   have r2 := q1q HR2.o 2 _ rfl _ qb
   have f0 := frozen_of_row _ _ 0 _ _ HR2.o
   have f1 := frozen_of_row _ _ 1 _ _ HR2.o
   have f2 := frozen_of_row _ _ 2 _ _ HR2.o
   clear hu2 hd2 hb2
   go_wp2_with fail
   exact bodyPost_ret (results_cell_row rfl _ _ w.heap.size _ _ _ _ rfl (b0q HR2.o) Tryz.underlying89 rfl i8q) rfl ⟨⟨_, rfl, s2q (q := 0) HR2.o HU2.o HD2.o⟩, q4q HB2.o (g6q _ _ _ _ _) (by omega)⟩
  ·
   have t0 : ((n : Int) == 0) = false := by simp; omega
   by_cases h1 : n = 1
   ·
    have t1 : ((n : Int) == 1) = true := by simp; omega
    have HS : Hi (j8q g lo n = g lo) := hdd (by rw [h1]; exact v0w g lo)
    rw [HS.o]
    have K := hdd (HF.o lo w1 hlo (by omega) HZ1.o)
    obtain ⟨q, hq⟩ := qx (g lo)
    rw [← hq] at K ⊢
    clear h0 h1 hq
    go_enter Tryz.func100, Tryz.ntmps100
    go_wp2_with fail
    rw [HW1.o]
    refine K.o.mono ?_
    rintro en2 w2 ⟨⟨v2, rfl, h2⟩, hb2⟩
    obtain ⟨u2, d2, rfl, hu2, hd2⟩ := h2
    obtain ⟨a2, n2, c2, he2⟩ := hu2.form
    subst he2
    obtain ⟨i2, j2, k2, hf2⟩ := hd2.form
    subst hf2
    have HR2 : Hi (w2.heap[w.heap.size]? = some (.cells #[.slice none 0 0, .bool false, .slice none 0 0] 89 (0, 0))) := hdd ((hb2.block _ (lt_of_block HR.o)).trans HR.o)
    have HB2 := hdd (q0q HB1.o hb2)
    have HU2 := hdd hu2
    have HD2 := hdd hd2
    have r0 := q1q HR2.o 0 _ rfl _ qb
    have r1 := q1q HR2.o 1 _ rfl _ qb
    have r2 := q1q HR2.o 2 _ rfl _ qb
    have f0 := frozen_of_row _ _ 0 _ _ HR2.o
    have f1 := frozen_of_row _ _ 1 _ _ HR2.o
    have f2 := frozen_of_row _ _ 2 _ _ HR2.o
    clear hu2 hd2 hb2
    go_wp2_with fail
    exact bodyPost_ret (results_cell_row rfl _ _ w.heap.size _ _ _ _ rfl (b0q HR2.o) Tryz.underlying89 rfl i8q) rfl ⟨⟨_, rfl, s2q HR2.o HU2.o HD2.o⟩, q4q HB2.o (g6q _ _ _ _ _) (by omega)⟩
   ·
    have t1 : ((n : Int) == 1) = false := by simp; omega
    obtain ⟨k, hk⟩ := qx (n / 2)
    obtain ⟨mid, hmid⟩ := qx (lo + k)
    have e1 : (n : Int) / 2 = (k : Int) := by omega
    have e1' : Int.tdiv (n : Int) 2 = (k : Int) := by rw [Int.tdiv_eq_ediv_of_nonneg (by omega)]; omega
    have e2 : (lo : Int) + (k : Int) = (mid : Int) := by omega
    have hmid9 : mid ≤ 1000 := by omega
    have HSP : Hi (j8q g lo n = j8q g lo k + j8q g mid (n - k)) := hdd (by
     have h9 := j4h g lo k (n - k)
     rw [show k + (n - k) = n by omega, ← hmid] at h9
     exact h9)
    have K1 := hdd (HIH.o k (by omega) lo mid w1 hmid.symm hlo (by omega) HZ1.o)
    have K2 := hdd (fun w' (hb : Below w0.heap.size w0 w') => HIH.o (n - k) (by omega) mid hi w' (by omega) (by omega) hhi hb)
    have L1 := hdd (o3q (m := m) (k := k) (e1q (g := g) (lo := lo) fun i h1 h2 => HSZ.o i (by omega) (by omega)) (by omega))
    have L2 := hdd (o3q (m := m) (k := n - k) (e1q (g := g) (lo := mid) fun i h1 h2 => HSZ.o i (by omega) (by omega)) (by omega))
    have HMK : Hi (m * k ≤ 100000 ∧ m * (n - k) ≤ 100000) := hdd ⟨Nat.le_trans (Nat.mul_le_mul hm (show k ≤ 1000 by omega)) (by omega), Nat.le_trans (Nat.mul_le_mul hm (show n - k ≤ 1000 by omega)) (by omega)⟩
    obtain ⟨P, hP⟩ := qx (j8q g lo k)
    obtain ⟨S, hS⟩ := qx (j8q g mid (n - k))
    rw [← hP] at K1 L1 HSP
    rw [← hS] at K2 L2 HSP
    rw [HSP.o]
    have K3 := hdd (fun w' x y (h : g0q w' x P) (k' : g0q w' y S) => v7y (w := w') h k' (by have := L1.o; have := L2.o; have := HMK.o.1; have := HMK.o.2; omega))
    obtain ⟨Q, hQ⟩ := qx (P + S)
    rw [← hQ] at K3 ⊢
    have hd9d : (n : Int) = (hi : Int) - (lo : Int) := by omega
    clear h0 h1 hk hmid hP hS hQ HIH hd9d
    go_enter Tryz.func100, Tryz.ntmps100
    go_wp2_with fail
    rw [HW1.o]
    refine K1.o.mono ?_
    rintro en2 w2 ⟨⟨v2, rfl, h2⟩, hb2⟩
    go_wp2_with fail
    refine (K2.o _ (q0q HZ1.o hb2)).mono ?_
    rintro en3 w3 ⟨⟨v3, rfl, h3⟩, hb3⟩
    go_wp2_with fail
    refine (K3.o _ _ _ (h2.below hb3) h3).mono ?_
    rintro en4 w4 ⟨⟨v4, rfl, h4⟩, hb4⟩
    obtain ⟨u4, d4, rfl, hu4, hd4⟩ := h4
    obtain ⟨a4, n4, c4, he4⟩ := hu4.form
    subst he4
    obtain ⟨i4, j4, k4, hf4⟩ := hd4.form
    subst hf4
    have hz4 := q0q hb2 (q0q hb3 hb4)
    have HR4 : Hi (w4.heap[w.heap.size]? = some (.cells #[.slice none 0 0, .bool false, .slice none 0 0] 89 (0, 0))) := hdd ((hz4.block _ (lt_of_block HR.o)).trans HR.o)
    have HB4 := hdd (q0q HB1.o hz4)
    have HU4 := hdd hu4
    have HD4 := hdd hd4
    have r0 := q1q HR4.o 0 _ rfl _ qb
    have r1 := q1q HR4.o 1 _ rfl _ qb
    have r2 := q1q HR4.o 2 _ rfl _ qb
    have f0 := frozen_of_row _ _ 0 _ _ HR4.o
    have f1 := frozen_of_row _ _ 1 _ _ HR4.o
    have f2 := frozen_of_row _ _ 2 _ _ HR4.o
    clear hu4 hd4 hb2 hb3 hb4 hz4 h2 h3
    go_wp2_with fail
    exact bodyPost_ret (results_cell_row rfl _ _ w.heap.size _ _ _ _ rfl (b0q HR4.o) Tryz.underlying89 rfl i8q) rfl ⟨⟨_, rfl, s2q HR4.o HU4.o HD4.o⟩, q4q HB4.o (g6q _ _ _ _ _) (by omega)⟩
theorem g9q {b o : Nat} (h : w.cell? ⟨b, o, none⟩ = some v) : b < w.heap.size := by
 by_cases hb : b < w.heap.size
 ·
  exact hb
 ·
  have : w.heap[b]? = none := by simp; omega
  simp [World.cell?, this] at h
theorem g6y {a' : Option Addr} {n' c' : Nat} (hp : w.cell? ⟨p, 0, none⟩ = some (.slice a n c)) (hp2 : w.cell? ⟨p2, 0, none⟩ = some (.slice a' n' c')) (hl : z1q N w (.slice a n c) qs) (hl2 : z1q N w (.slice a' n' c') ps) (hi : i < n) (hi2 : i < n') (_hn : n ≤ 1000) (_hn2 : n' ≤ 1000) (hN : N ≤ 1000) :
  Calls Tryz.prog 132 #[.int .i64 (i : Nat), .pointer (some ⟨p, 0, none⟩), .pointer (some ⟨p2, 0, none⟩)] w fun e w' => (∃ r, e = .returned r ∧ g0q w' r (q9q qs i * q9q ps i)) ∧ Below w.heap.size w w' := by
 obtain ⟨q, B, off, b, a1, n1, c1, a2, n2, c2, hq, rfl, hc, hf⟩ := hl.at hi
 obtain ⟨q', B', off', b', a3, n3, c3, a4, n4, c4, hq', rfl, hc', hf'⟩ := hl2.at hi2
 rw [v9q hq, v9q hq']
 obtain ⟨w1, hw1, HB1, HR⟩ := al1 w #[.slice none 0 0, .bool false, .slice none 0 0] 89
 have HW1 := hdd hw1.symm
 have RP : Hi (∀ w', Below w1.heap.size w1 w' → w'.cell? ⟨p, 0, none⟩ = some (.slice (some ⟨B, off, none⟩) n c) ∧ w'.cell? ⟨p2, 0, none⟩ = some (.slice (some ⟨B', off', none⟩) n' c')) := hdd (fun w' hb => ⟨q3q (q0q HB1.o hb) hp, q3q (q0q HB1.o hb) hp2⟩)
 have RC : Hi (∀ w', Below w1.heap.size w1 w' → (w'.cell? ⟨B, off + i * 3, none⟩ = some (.bool b) ∧ w'.cell? ⟨B, off + i * 3 + 1, none⟩ = some (.slice a1 n1 c1) ∧ w'.cell? ⟨B, off + i * 3 + 2, none⟩ = some (.slice a2 n2 c2)) ∧ (w'.cell? ⟨B', off' + i * 3, none⟩ = some (.bool b') ∧ w'.cell? ⟨B', off' + i * 3 + 1, none⟩ = some (.slice a3 n3 c3) ∧ w'.cell? ⟨B', off' + i * 3 + 2, none⟩ = some (.slice a4 n4 c4))) := hdd (fun w' hb => ⟨hc w' (q0q HB1.o hb), hc' w' (q0q HB1.o hb)⟩)
 have hlt1 := g9q hp
 have hlt2 := g9q hp2
 have hlt3 := g9q (hc w qb).1
 have hlt4 := g9q (hc' w qb).1
 have R0 : Hi (∀ o v, (#[Value.slice none 0 0, Value.bool false, Value.slice none 0 0] : Array Value)[o]? = some v → ∀ w', Below w1.heap.size w1 w' → w'.cell? ⟨w.heap.size, o, none⟩ = some v ∧ w'.frozen? ⟨w.heap.size, o, none⟩ = false) :=
  hdd (fun o v h w' hb => ⟨q1q HR.o o v h w' hb, frozen_of_row _ _ o _ _ ((hb.block _ (lt_of_block HR.o)).trans HR.o)⟩)
 have L1 := hdd hf.len
 have L2 := hdd hf'.len
 have K1 : Hi (∀ w', Below w1.heap.size w1 w' → Calls Tryz.prog 56 #[.agg #[.bool b, .slice a1 n1 c1, .slice a2 n2 c2]] w' fun e w'' => (∃ r, e = .returned r ∧ g0q w'' r q) ∧ Below w'.heap.size w' w'') := hdd (fun w' hb => by
  obtain ⟨bb, l', m', hr', hqq, -, -⟩ := hf
  rw [hqq]; exact q6x (hr'.below (q0q HB1.o hb)))
 have K2 : Hi (∀ w', Below w1.heap.size w1 w' → Calls Tryz.prog 56 #[.agg #[.bool b', .slice a3 n3 c3, .slice a4 n4 c4]] w' fun e w'' => (∃ r, e = .returned r ∧ g0q w'' r q') ∧ Below w'.heap.size w' w'') := hdd (fun w' hb => by
  obtain ⟨bb, l', m', hr', hqq, -, -⟩ := hf'
  rw [hqq]; exact q6x (hr'.below (q0q HB1.o hb)))
 have K3 := hdd (fun w' x y (h : g0q w' x q) (k : g0q w' y q') => x7z (w := w') h k (by have := L1.o; have := L2.o; omega))
 obtain ⟨Q, hQ⟩ := qx (q * q')
 rw [← hQ] at K3 ⊢
 clear hw1 hc hc' hl hl2 hp hp2 hf hf' hq hq' hQ
 have hz1 := Below.refl w1.heap.size w1
 obtain ⟨p0, pp0⟩ := RP.o _ hz1
 obtain ⟨⟨x0, x1, x2⟩, y0, y1, y2⟩ := RC.o _ hz1
 go_enter Tryz.func132, Tryz.ntmps132
 go_wp2_with fail
 rw [HW1.o]
 have hz0 : Below w1.heap.size w1 w1.drew := q5q hz1 1
 go_region_held3 (fun w' => w'.cell? ⟨p, 0, none⟩ = some (.slice (some ⟨B, off, none⟩) n c) ∧ w'.cell? ⟨p2, 0, none⟩ = some (.slice (some ⟨B', off', none⟩) n' c') ∧ w'.cell? ⟨B, off + i * 3, none⟩ = some (.bool b) ∧ w'.cell? ⟨B, off + i * 3 + 1, none⟩ = some (.slice a1 n1 c1) ∧ w'.cell? ⟨B, off + i * 3 + 2, none⟩ = some (.slice a2 n2 c2) ∧ w'.cell? ⟨B', off' + i * 3, none⟩ = some (.bool b') ∧ w'.cell? ⟨B', off' + i * 3 + 1, none⟩ = some (.slice a3 n3 c3) ∧ w'.cell? ⟨B', off' + i * 3 + 2, none⟩ = some (.slice a4 n4 c4))
  (((try dsimp only); refine ⟨?_, ?_, ?_, ?_, ?_, ?_, ?_, ?_⟩ <;> (first | exact (RP.o _ (by assumption)).1 | exact (RP.o _ (by assumption)).2 | exact (RC.o _ (by assumption)).1.1 | exact (RC.o _ (by assumption)).1.2.1 | exact (RC.o _ (by assumption)).1.2.2 | exact (RC.o _ (by assumption)).2.1 | exact (RC.o _ (by assumption)).2.2.1 | exact (RC.o _ (by assumption)).2.2.2 | (rw [World.cell?_setCell_far _ _ _ _ (by dsimp only; omega), World.cell?_setCell_far _ _ _ _ (by dsimp only; omega), World.cell?_setCell_far _ _ _ _ (by dsimp only; omega)]; first | exact (RP.o _ (by assumption)).1 | exact (RP.o _ (by assumption)).2 | exact (RC.o _ (by assumption)).1.1 | exact (RC.o _ (by assumption)).1.2.1 | exact (RC.o _ (by assumption)).1.2.2 | exact (RC.o _ (by assumption)).2.1 | exact (RC.o _ (by assumption)).2.2.1 | exact (RC.o _ (by assumption)).2.2.2) | go_keep)))
  (first | (go_at_call_of 56 (Value.slice a1 n1 c1); refine (K1.o _ hz0).mono ?_; rintro en4 w4 ⟨⟨r4, rfl, h4⟩, hb4⟩; have hz4 := q0q hz0 hb4) | (go_at_call 56; refine (K2.o _ hz4).mono ?_; rintro en5 w5 ⟨⟨r5, rfl, h5⟩, hb5⟩; have hz5 := q0q hz4 hb5) | (go_at_call 133; refine (K3.o _ _ _ (h4.below hb5) h5).mono ?_; rintro en6 w6 ⟨⟨r6, rfl, h6⟩, hb6⟩; obtain ⟨u6, d6, rfl, hu6, hd6⟩ := h6; obtain ⟨a6, n6, c6, he6⟩ := hu6.form; subst he6; obtain ⟨i6, j6, k6, hf6⟩ := hd6.form; subst hf6; have hz6 := q0q hz5 hb6; have r0 := (R0.o 0 _ rfl _ hz6).1; have r1 := (R0.o 1 _ rfl _ hz6).1; have r2 := (R0.o 2 _ rfl _ hz6).1; have f0 := (R0.o 0 _ rfl _ hz6).2; have f1 := (R0.o 1 _ rfl _ hz6).2; have f2 := (R0.o 2 _ rfl _ hz6).2))
 have HR6 : Hi (w6.heap[w.heap.size]? = some (.cells #[.slice none 0 0, .bool false, .slice none 0 0] 89 (0, 0))) := hdd ((hz6.block _ (lt_of_block HR.o)).trans HR.o)
 have HB6 := hdd (q0q HB1.o hz6)
 have HU6 := hdd hu6
 have HD6 := hdd hd6
 clear r0 r1 r2 f0 f1 f2
 have r0 := (R0.o 0 _ rfl _ hz6).1
 have r1 := (R0.o 1 _ rfl _ hz6).1
 have r2 := (R0.o 2 _ rfl _ hz6).1
 have f0 := (R0.o 0 _ rfl _ hz6).2
 have f1 := (R0.o 1 _ rfl _ hz6).2
 have f2 := (R0.o 2 _ rfl _ hz6).2
 go_wp2_with fail
 exact bodyPost_ret (results_cell_row rfl _ _ w.heap.size _ _ _ _ rfl (b0q HR6.o) Tryz.underlying89 rfl i8q) rfl ⟨⟨_, rfl, s2q HR6.o HU6.o HD6.o⟩, q4q HB6.o (g6q _ _ _ _ _) (by omega)⟩
theorem y5y (hl : z1q N w v qs) (hl2 : z1q N w v' ps) (hN : N ≤ 50) (hn : qs.length ≤ 100) (hn2 : ps.length ≤ 100) (hNn : N * qs.length ≤ 1000) :
  Calls Tryz.prog 102 #[v, v'] w (h0q w (j8q (fun i => q9q qs i * q9q ps i) 0 (min qs.length ps.length))) := by
 obtain ⟨a, c, rfl, -⟩ := id hl
 obtain ⟨a', c', rfl, -⟩ := id hl2
 obtain ⟨n, hnn⟩ := qx (qs.length)
 obtain ⟨n', hnn'⟩ : ∃ n, n = ps.length := ⟨_, rfl⟩
 rw [← hnn] at hl hn hNn ⊢
 rw [← hnn'] at hl2 hn2 ⊢
 obtain ⟨w1, hw1⟩ := qx (((w.alloc (Obj.cells #[.slice a n c] 23)).alloc (Obj.cells #[.slice a' n' c'] 23)).alloc (Obj.cells #[.bool false, .slice none 0 0, .slice none 0 0] 43))
 have HB1 : Hi (Below w.heap.size w w1) := hdd (by rw [hw1]; exact (((qb).alloc qm _).alloc (by simp) _).alloc (by simp; omega) _)
 have HX : Hi (w1.heap[w.heap.size]? = some (.cells #[.slice a n c] 23 (0, 0))) := hdd (by rw [hw1]; exact p8q w _ _ _)
 have HY : Hi (w1.heap[w.heap.size + 1]? = some (.cells #[.slice a' n' c'] 23 (0, 0))) := hdd (by rw [hw1]; exact p9q w _ _ _)
 have HR : Hi (w1.heap[w.heap.size + 2]? = some (.cells #[.bool false, .slice none 0 0, .slice none 0 0] 43 (0, 0))) := hdd (by rw [hw1]; exact h3q w _ _ _)
 have HW1 := hdd hw1.symm
 have HL := hdd (hl.below HB1.o)
 have HL2 := hdd (hl2.below HB1.o)
 have RX := hdd (q1q HX.o)
 have RY := hdd (q1q HY.o)
 obtain ⟨k, hk⟩ := qx (min n n')
 have hsz : ∀ i, 0 ≤ i → i < k → szQ (2 * N) 1 ((fun i => q9q qs i * q9q ps i) i) := fun i _ hi => by
  obtain ⟨q, B, off, b, a1, n1, c1, a2, n2, c2, hq, -, -, hf⟩ := hl.at (i := i) (by omega)
  obtain ⟨q', B', off', b', a3, n3, c3, a4, n4, c4, hq', -, -, hf'⟩ := hl2.at (i := i) (by omega)
  show szQ (2 * N) 1 (q9q qs i * q9q ps i)
  rw [v9q hq, v9q hq']
  exact q7j (q5w hf) (q5w hf')
 have K1 := hdd (x1v (w0 := w1) (g := fun i => q9q qs i * q9q ps i) (m := 2 * N) (Lo := 0) (Hii := k) (p := w.heap.size) (p2 := w.heap.size + 1) (by omega) (by omega) hsz (fun i w' _ hi hb => g6y (RX.o 0 _ rfl _ hb) (RY.o 0 _ rfl _ hb) (HL.o.below hb) (HL2.o.below hb) (by omega) (by omega) (by omega) (by omega) (by omega)) k 0 k w1 (by omega) (by omega) qm qb)
 have HS := hdd (o3q (e1q (g := fun i => q9q qs i * q9q ps i) (lo := 0) (n := k) fun i h1 h2 => hsz i h1 (by omega)) (by omega))
 have HNN : Hi (2 * N * k ≤ 2000) := hdd (Nat.le_trans (Nat.mul_le_mul_left (2 * N) (show k ≤ n by omega)) (by rw [Nat.mul_assoc]; omega))
 rw [← hk]
 obtain ⟨Q, hQ⟩ := qx (j8q (fun i => q9q qs i * q9q ps i) 0 k)
 rw [← hQ] at K1 HS ⊢
 have K2 := hdd (fun w' x (h : g0q w' x Q) => z6k (w := w') h (by have := HS.o; have := HNN.o; omega))
 rw [i7q (by have := HS.o; have := HNN.o; omega)] at K2
 have hz1 := Below.refl w1.heap.size w1
 have x0 := RX.o 0 _ rfl _ hz1
 have y0 := RY.o 0 _ rfl _ hz1
 have hmf : ∀ (fn : Fn) (first cap : Array Value) (w : World), (Instr.makeFunc fn first cap).run Tryz.prog w = .ok (.func fn first cap) w := fun _ _ _ _ => rfl
 clear hw1 hl hl2 hsz hQ hnn hnn' hNn
 by_cases hle : n ≤ n'
 ·
  have e9 : k = n := by omega
  subst e9
  clear hk
  go_enter Tryz.func102, Tryz.ntmps102
  go_upto_region 2 with fail
  rw [HW1.o]
  go_wp2_with fail
  refine K1.o.mono ?_
  rintro en2 w2 ⟨⟨v2, rfl, h2⟩, hb2⟩
  go_wp2_with fail
  refine (K2.o _ _ h2).mono ?_
  rintro en3 w3 ⟨⟨v3, rfl, f3, -⟩, hb3⟩
  obtain ⟨a3, n3, c3, i3, j3, k3, hq3⟩ := q8q f3
  subst hq3
  have hz3 := q0q hb2 hb3
  have HRk : Hi (w3.heap[w.heap.size + 2]? = some (.cells #[.bool false, .slice none 0 0, .slice none 0 0] 43 (0, 0))) := hdd ((hz3.block _ (lt_of_block HR.o)).trans HR.o)
  have HFk := hdd (f3.other HRk.o (q7q _ _ (decide (Q.num < 0)) (Value.slice a3 n3 c3) (Value.slice i3 j3 k3)))
  have HBk := hdd (q0q HB1.o hz3)
  have r0 := q1q HRk.o 0 _ rfl _ qb
  have r1 := q1q HRk.o 1 _ rfl _ qb
  have r2 := q1q HRk.o 2 _ rfl _ qb
  have f0 := frozen_of_row _ _ 0 _ _ HRk.o
  have f1 := frozen_of_row _ _ 1 _ _ HRk.o
  have f2 := frozen_of_row _ _ 2 _ _ HRk.o
  clear f3
  go_wp2_with fail
  exact bodyPost_ret (results_cell_row rfl _ _ (w.heap.size + 2) _ _ _ _ rfl (z5q HRk.o) Tryz.underlying43 rfl v0q) rfl ⟨⟨_, rfl, HFk.o⟩, q4q HBk.o (q7q _ _ _ _ _) (by omega)⟩
 ·
  have e9 : k = n' := by omega
  subst e9
  clear hk
  go_enter Tryz.func102, Tryz.ntmps102
  go_upto_region 2 with fail
  rw [HW1.o]
  go_wp2_with fail
  refine K1.o.mono ?_
  rintro en2 w2 ⟨⟨v2, rfl, h2⟩, hb2⟩
  go_wp2_with fail
  refine (K2.o _ _ h2).mono ?_
  rintro en3 w3 ⟨⟨v3, rfl, f3, -⟩, hb3⟩
  obtain ⟨a3, n3, c3, i3, j3, k3, hq3⟩ := q8q f3
  subst hq3
  have hz3 := q0q hb2 hb3
  have HRk : Hi (w3.heap[w.heap.size + 2]? = some (.cells #[.bool false, .slice none 0 0, .slice none 0 0] 43 (0, 0))) := hdd ((hz3.block _ (lt_of_block HR.o)).trans HR.o)
  have HFk := hdd (f3.other HRk.o (q7q _ _ (decide (Q.num < 0)) (Value.slice a3 n3 c3) (Value.slice i3 j3 k3)))
  have HBk := hdd (q0q HB1.o hz3)
  have r0 := q1q HRk.o 0 _ rfl _ qb
  have r1 := q1q HRk.o 1 _ rfl _ qb
  have r2 := q1q HRk.o 2 _ rfl _ qb
  have f0 := frozen_of_row _ _ 0 _ _ HRk.o
  have f1 := frozen_of_row _ _ 1 _ _ HRk.o
  have f2 := frozen_of_row _ _ 2 _ _ HRk.o
  clear f3
  go_wp2_with fail
  exact bodyPost_ret (results_cell_row rfl _ _ (w.heap.size + 2) _ _ _ _ rfl (z5q HRk.o) Tryz.underlying43 rfl v0q) rfl ⟨⟨_, rfl, HFk.o⟩, q4q HBk.o (q7q _ _ _ _ _) (by omega)⟩
theorem g0q.other {B : Nat} {t : TypeId} {fr : Nat × Nat} {i : Option Addr} (h : g0q w v q) (hB : w.heap[B]? = some (.cells #[.slice a n c, .bool b, .slice i j k] t fr)) (ho : z9q B w w') : g0q w' v q := by
 obtain ⟨u, d, rfl, hu, hd⟩ := h
 exact ⟨u, d, rfl, hu.other hB (q1h ⟨_, _, _, rfl⟩ ⟨_, _, _, rfl⟩) ho, hd.other hB (q1h ⟨_, _, _, rfl⟩ ⟨_, _, _, rfl⟩) ho⟩

theorem y7k {t : Value} {P S Q : Rat} (hv : j3q w v P) (ht : j3q w t S) (h1 : j5q P ≤ 4096) (h2 : j5q S ≤ 4096) (h3 : j5q Q ≤ 4096) (hQ : P + S = Q) :
  Calls Tryz.prog 108 #[v, t] w (h0q w Q) := by
 subst hQ
 have h := g8v hv.raw ht.raw h1 h2
 rw [t4q h1, t4q h2, i7q h3] at h
 exact h
theorem r9q (h : v6q N w (.agg #[.bool b, .slice a1 n1 c1, .slice a2 n2 c2]) q) (h0 : n1 = 0) : q = 0 := by
 obtain ⟨b', l, m, ⟨u, d, he, hu, hd⟩, hq, -, -⟩ := h
 simp only [Value.agg.injEq, Array.mk.injEq, List.cons.injEq, and_true] at he
 obtain ⟨-, rfl, rfl⟩ := he
 have hl : l = [] := List.eq_nil_of_length_eq_zero (by rw [← hu.lenE]; exact h0)
 rw [hq]
 cases hR : v4q b' l m with
 | false => unfold v1q; rw [hR]; rfl
 | true =>
  obtain ⟨e1, -, -, -⟩ := i0q hu.ws hd.ws hR
  rw [hl] at e1
  have h9 : (v1q b' [] m).num.natAbs = 0 := by
   rw [← hl]
   rcases Nat.eq_zero_or_pos (v1q b' l m).num.natAbs with h | h
   ·
    exact h
   ·
    rw [hl] at h
    rw [k1q (by omega)] at e1; simp at e1
  rw [hl]
  exact Rat.num_eq_zero.1 (by omega)
theorem i4q (g : Nat → Rat) (i : Nat) : j8q g 0 i + g i = j8q g 0 (i + 1) := by
 show _ = j8q g 0 i + g (0 + i)
 rw [Nat.zero_add]

theorem j9h (hl : z1q N w v qs) (hl2 : z1q N w v' ps) (hN : N ≤ 50) (hn : qs.length ≤ 100) (hn2 : ps.length ≤ 100) (hNn : N * qs.length ≤ 1000) :
  Calls Tryz.prog 80 #[v, v'] w (h0q w (j8q (fun i => q9q qs i * q9q ps i) 0 (min qs.length ps.length))) := by
 obtain ⟨a, c, rfl, -⟩ := id hl
 obtain ⟨a', c', rfl, -⟩ := id hl2
 obtain ⟨n, hnn⟩ := qx (qs.length)
 obtain ⟨n', hnn'⟩ : ∃ n, n = ps.length := ⟨_, rfl⟩
 rw [← hnn] at hl hn hNn ⊢
 rw [← hnn'] at hl2 hn2 ⊢
 obtain ⟨g, hg⟩ := qx (fun i => q9q qs i * q9q ps i)
 rw [← hg]
 have HGI : Hi (∀ i, g i = q9q qs i * q9q ps i) := hdd (fun i => by rw [hg])
 obtain ⟨w1, hw1, HB1, HR⟩ := al1 w #[.bool false, .slice none 0 0, .slice none 0 0] 43
 have HW1 := hdd hw1.symm
 have HL := hdd hl
 have HL2 := hdd hl2
 obtain ⟨k, hk⟩ := qx (min n n')
 rw [← hk]
 have HK : Hi (k ≤ n ∧ k ≤ n' ∧ (∀ i, i < n → i < n' → i < k) ∧ (∀ i, i ≤ k → (¬ i < n ∨ ¬ i < n') → i = k)) := hdd ⟨by omega, by omega, fun i h1 h2 => by omega, fun i h1 h2 => by omega⟩
 have HSZ : Hi (∀ i, i ≤ k → j5q (j8q g 0 i) ≤ 4096) := hdd (fun i hi => by
  have h := o3q (e1q (g := g) (lo := 0) (n := i) (m := 2 * N) fun j h1 h2 => by
   obtain ⟨q, B, off, b, a1, n1, c1, a2, n2, c2, hq, -, -, hf⟩ := hl.at (i := j) (by omega)
   obtain ⟨q', B', off', b', a3, n3, c3, a4, n4, c4, hq', -, -, hf'⟩ := hl2.at (i := j) (by omega)
   rw [HGI.o, v9q hq, v9q hq']; exact q7j (q5w hf) (q5w hf')) (by omega)
  have h9 : 2 * N * i ≤ 2 * (N * n) := Nat.le_trans (Nat.mul_le_mul_left (2 * N) (show i ≤ n by omega)) (Nat.le_of_eq (Nat.mul_assoc _ _ _))
  omega)
 clear hw1 hl hl2 hnn hnn' hg hk hNn
 go_enter Tryz.func80, Tryz.ntmps80
 go_wp2_with fail
 rw [HW1.o]
 refine z0j.mono ?_
 rintro en2 w2 ⟨⟨v2, rfl, f2⟩, hb2⟩
 obtain ⟨a2, n2, c2, i2, j2, k2, hq2⟩ := q8q f2
 subst hq2
 go_wp2_with ((with_reducible refine j9q ?_); refine q6q rfl _ _ _ rfl w2.heap.size rfl _ rfl _ _ (heap_alloc_new _ _) v0q rfl x3q ?_; intro w3 h3 hon3; refine y0q ?_)
 have hb3 : Below w2.heap.size w2 w3 := q4q ((qb).alloc qm _) hon3 qm
 obtain ⟨Ba, hBa⟩ := qx (w2.heap.size)
 have hBw : w.heap.size + 1 ≤ Ba := by have h8 := lt_of_block HR.o; have h9 := hb2.size; omega
 have hBw1 : w1.heap.size ≤ Ba := by have h9 := hb2.size; omega
 have HROW3 : Hi (w3.heap[Ba]? = some (.cells #[.bool (decide ((0 : Rat).num < 0)), .slice a2 n2 c2, .slice i2 j2 k2] 43 (0, 0))) := hdd (by rw [hBa]; exact h3)
 have HF3 := hdd (f2.below hb3)
 have HZ3 := hdd (q0q hb2 hb3)
 rw [← hBa]
 clear h3 hon3 hb3 hb2 f2 hBa
 refine z2q ?_
 go_wp2_with fail
 go_loopw [6] (fun iv wr => ∃ (i : Nat) (ra : Bool) (ab : Option Addr) (an ac : Nat) (ai : Option Addr) (aj ak : Nat), i ≤ k ∧ iv = .int .i64 i ∧ Hi (wr.heap[Ba]? = some (.cells #[.bool ra, .slice ab an ac, .slice ai aj ak] 43 (0, 0))) ∧ Hi (j3q wr (.agg #[Value.bool ra, Value.slice ab an ac, Value.slice ai aj ak]) (j8q g 0 i)) ∧ Hi (Below w1.heap.size w1 wr)) (fun iv _ => k - (intOf iv).toNat)
 case atStart => exact ⟨0, _, _, _, _, _, _, _, Nat.zero_le _, rfl, HROW3, HF3, HZ3⟩
 case round =>
  obtain ⟨i, ra, ab, an, ac, ai, aj, ak, hi, rfl, hrow, hfa, hZ⟩ := hrel
  obtain ⟨wo, rfl⟩ : ∃ wo : World, wo = wr := ⟨_, rfl⟩
  have hk9 : k ≤ 100 := by have := HK.o.1; omega
  by_cases hin : i < n
  ·
   have t0 : decide ((i : Int) < (n : Int)) = true := by simp; omega
   by_cases hin2 : i < n'
   ·
    have t1 : decide ((i : Int) < (n' : Int)) = true := by simp; omega
    have hik := HK.o.2.2.1 i hin hin2
    obtain ⟨q, B, off, b, a1, n1, c1, a2, n2, c2, hq, ha, hc, hf⟩ := HL.o.at hin
    subst ha
    obtain ⟨q', B', off', b', a3, n3, c3, a4, n4, c4, hq', ha', hc', hf'⟩ := HL2.o.at hin2
    subst ha'
    have HW := hdd (q0q HB1.o hZ.o)
    have RC : Hi (∀ w', Below wo.heap.size wo w' → (w'.cell? ⟨B, off + i * 3, none⟩ = some (.bool b) ∧ w'.cell? ⟨B, off + i * 3 + 1, none⟩ = some (.slice a1 n1 c1) ∧ w'.cell? ⟨B, off + i * 3 + 2, none⟩ = some (.slice a2 n2 c2)) ∧ (w'.cell? ⟨B', off' + i * 3, none⟩ = some (.bool b') ∧ w'.cell? ⟨B', off' + i * 3 + 1, none⟩ = some (.slice a3 n3 c3) ∧ w'.cell? ⟨B', off' + i * 3 + 2, none⟩ = some (.slice a4 n4 c4))) := hdd (fun w' h => ⟨hc w' (q0q HW.o h), hc' w' (q0q HW.o h)⟩)
    have RA := hdd (q1q hrow.o)
    have FA := hdd (s8q hrow.o)
    have HGQ : Hi (g i = q * q') := hdd (by rw [HGI.o, v9q hq, v9q hq'])
    have HNX : Hi (j8q g 0 i + g i = j8q g 0 (i + 1)) := hdd (i4q g i)
    have hw0 := Below.refl wo.heap.size wo
    obtain ⟨⟨x0, x1, x2⟩, y0, y1, y2⟩ := RC.o _ hw0
    have hln1 : n1 ≤ 1073741824 := by
     obtain ⟨_, _, _, ⟨_, _, he, hu, _⟩, _, _, _⟩ := hf
     simp only [Value.agg.injEq, Array.mk.injEq, List.cons.injEq, and_true] at he
     obtain ⟨-, rfl, -⟩ := he
     have := hu.lenE; have := hu.len; omega
    have hln3 : n3 ≤ 1073741824 := by
     obtain ⟨_, _, _, ⟨_, _, he, hu, _⟩, _, _, _⟩ := hf'
     simp only [Value.agg.injEq, Array.mk.injEq, List.cons.injEq, and_true] at he
     obtain ⟨-, rfl, -⟩ := he
     have := hu.lenE; have := hu.len; omega
    by_cases h1 : 0 < n1
    ·
     have u1 : decide ((0 : Int) < (n1 : Int)) = true := by simp; omega
     by_cases h3 : 0 < n3
     ·
      have u3 : decide ((0 : Int) < (n3 : Int)) = true := by simp; omega
      obtain ⟨Q, hQ⟩ := qx (j8q g 0 (i + 1))
      have HQ := hdd hQ
      have HLQ : Hi (j5q Q ≤ 4096) := hdd (by rw [hQ]; exact HSZ.o (i + 1) (by omega))
      obtain ⟨M, hM⟩ : ∃ M, q * q' = M := ⟨_, rfl⟩
      have HLM : Hi (j5q M ≤ 4096) := hdd (by rw [← hM]; have h9 := j1y q q'; have := hf.len; have := hf'.len; omega)
      have K1 := hdd (fun w' (hb : Below wo.heap.size wo w') => y8y (w := w') (hf.below (q0q HW.o hb)) (hf'.below (q0q HW.o hb)) (by omega) hM)
      have K2 := hdd (fun w' y (hb : Below wo.heap.size wo w') (hy : j3q w' y M) => y7k (w := w') (Q := Q) (hfa.o.below hb) hy (HSZ.o i hi) HLM.o HLQ.o (by rw [← hM, ← HGQ.o, HNX.o, hQ]))
      have s0 := RA.o 0 _ rfl _ hw0
      have s1 := RA.o 1 _ rfl _ hw0
      have s2 := RA.o 2 _ rfl _ hw0
      have hz0 : Below wo.heap.size wo wo.drew := q5q hw0 1
      clear hc hc' hf hf' hq hq' hQ hM
      go_wp2_with fail
      go_region_with (first | (go_at_call 109; refine (K1.o _ hz0).mono ?_; rintro en3 w3 ⟨⟨r3, rfl, f3⟩, hb3⟩; obtain ⟨a3', n3', c3', i3', j3', k3', hq3⟩ := q8q f3; subst hq3; have hz3 := q0q hz0 hb3; have s0 := RA.o 0 _ rfl _ hz3; have s1 := RA.o 1 _ rfl _ hz3; have s2 := RA.o 2 _ rfl _ hz3) | (go_at_call 108; refine (K2.o _ _ hz3 f3).mono ?_; rintro en4 w4 ⟨⟨r4, rfl, f4⟩, hb4⟩; obtain ⟨a4', n4', c4', i4', j4', k4', hq4⟩ := q8q f4; subst hq4; have hz4 := q0q hz3 hb4; have s0 := RA.o 0 _ rfl _ hz4; have s1 := RA.o 1 _ rfl _ hz4; have s2 := RA.o 2 _ rfl _ hz4; have g0 := FA.o 0 _ hz4; have g1 := FA.o 1 _ hz4; have g2 := FA.o 2 _ hz4))
      all_goals
       have HROW4 : Hi (w4.heap[Ba]? = some (.cells #[.bool ra, .slice ab an ac, .slice ai aj ak] 43 (0, 0))) := hdd ((hz4.block _ (lt_of_block hrow.o)).trans hrow.o)
       have HON : Hi (z9q Ba w4 (d7q w4 Ba (decide (Q.num < 0)) (Value.slice a4' n4' c4') (Value.slice i4' j4' k4'))) := hdd (q7q _ _ _ _ _)
       have HROW5 : Hi ((d7q w4 Ba (decide (Q.num < 0)) (Value.slice a4' n4' c4') (Value.slice i4' j4' k4')).heap[Ba]? = some (.cells #[.bool (decide (Q.num < 0)), .slice a4' n4' c4', .slice i4' j4' k4'] 43 (0, 0))) := hdd (q5h HROW4.o)
       have HF5 : Hi (j3q (d7q w4 Ba (decide (Q.num < 0)) (Value.slice a4' n4' c4') (Value.slice i4' j4' k4')) (.agg #[Value.bool (decide (Q.num < 0)), Value.slice a4' n4' c4', Value.slice i4' j4' k4']) (j8q g 0 (i + 1))) := hdd (by rw [← HQ.o]; exact f4.other HROW4.o HON.o)
       have HZ5 := hdd (q4q (q0q hZ.o hz4) HON.o hBw1)
       go_wp2_with fail
       go_roundw
      all_goals first
       | exact ⟨i + 1, _, _, _, _, _, _, _, by omega, by go_num, HROW5, HF5, HZ5⟩
       | (simp [intOf]; omega)
     ·
      have u3 : decide ((0 : Int) < (n3 : Int)) = false := by simp; omega
      have HSAME : Hi (j8q g 0 (i + 1) = j8q g 0 i) := hdd (by
       rw [← HNX.o, HGQ.o, r9q hf' (by omega), Rat.mul_zero, Rat.add_zero])
      clear hc hc' hf hf' hq hq'
      go_wp2_with fail
      go_roundw
      case rel => exact ⟨i + 1, _, _, _, _, _, _, _, by omega, by go_num, hrow, hdd (by rw [HSAME.o]; exact hfa.o), hZ⟩
      case measure => simp [intOf]; omega
    ·
     have u1 : decide ((0 : Int) < (n1 : Int)) = false := by simp; omega
     have HSAME : Hi (j8q g 0 (i + 1) = j8q g 0 i) := hdd (by
      rw [← HNX.o, HGQ.o, r9q hf (by omega), Rat.zero_mul, Rat.add_zero])
     clear hc hc' hf hf' hq hq'
     go_wp2_with fail
     go_roundw
     case rel => exact ⟨i + 1, _, _, _, _, _, _, _, by omega, by go_num, hrow, hdd (by rw [HSAME.o]; exact hfa.o), hZ⟩
     case measure => simp [intOf]; omega
   ·
    have t1 : decide ((i : Int) < (n' : Int)) = false := by simp; omega
    have he : i = k := HK.o.2.2.2 i hi (Or.inr hin2)
    subst he
    have HRe : Hi (wo.heap[w.heap.size]? = some (.cells #[.bool false, .slice none 0 0, .slice none 0 0] 43 (0, 0))) := hdd ((hZ.o.block _ (lt_of_block HR.o)).trans HR.o)
    have HF9 := hdd (hfa.o.other HRe.o (q7q _ _ ra (Value.slice ab an ac) (Value.slice ai aj ak)))
    have HB9 := hdd (q0q HB1.o hZ.o)
    have r0 := q1q HRe.o 0 _ rfl _ qb
    have r1 := q1q HRe.o 1 _ rfl _ qb
    have r2 := q1q HRe.o 2 _ rfl _ qb
    have f0 := frozen_of_row _ _ 0 _ _ HRe.o
    have f1 := frozen_of_row _ _ 1 _ _ HRe.o
    have f2 := frozen_of_row _ _ 2 _ _ HRe.o
    have s0 := q1q hrow.o 0 _ rfl _ qb
    have s1 := q1q hrow.o 1 _ rfl _ qb
    have s2 := q1q hrow.o 2 _ rfl _ qb
    go_wp2_with fail
    exact bodyPost_ret (results_cell_row rfl _ _ (w.heap.size) _ _ _ _ rfl (z5q HRe.o) Tryz.underlying43 rfl v0q) rfl ⟨⟨_, rfl, HF9.o⟩, q4q HB9.o (q7q _ _ _ _ _) (by omega)⟩
  ·
   have t0 : decide ((i : Int) < (n : Int)) = false := by simp; omega
   have he : i = k := HK.o.2.2.2 i hi (Or.inl hin)
   subst he
   have HRe : Hi (wo.heap[w.heap.size]? = some (.cells #[.bool false, .slice none 0 0, .slice none 0 0] 43 (0, 0))) := hdd ((hZ.o.block _ (lt_of_block HR.o)).trans HR.o)
   have HF9 := hdd (hfa.o.other HRe.o (q7q _ _ ra (Value.slice ab an ac) (Value.slice ai aj ak)))
   have HB9 := hdd (q0q HB1.o hZ.o)
   have r0 := q1q HRe.o 0 _ rfl _ qb
   have r1 := q1q HRe.o 1 _ rfl _ qb
   have r2 := q1q HRe.o 2 _ rfl _ qb
   have f0 := frozen_of_row _ _ 0 _ _ HRe.o
   have f1 := frozen_of_row _ _ 1 _ _ HRe.o
   have f2 := frozen_of_row _ _ 2 _ _ HRe.o
   have s0 := q1q hrow.o 0 _ rfl _ qb
   have s1 := q1q hrow.o 1 _ rfl _ qb
   have s2 := q1q hrow.o 2 _ rfl _ qb
   go_wp2_with fail
   exact bodyPost_ret (results_cell_row rfl _ _ (w.heap.size) _ _ _ _ rfl (z5q HRe.o) Tryz.underlying43 rfl v0q) rfl ⟨⟨_, rfl, HF9.o⟩, q4q HB9.o (q7q _ _ _ _ _) (by omega)⟩
theorem IsW.keep (h : IsW w v l) (hs : w.heap.size ≤ w'.heap.size) (hb : l ≠ [] → ∀ b, v.ownBlock = some b → w'.heap[b]? = w.heap[b]?) : IsW w' v l := by
 by_cases hl : l = []
 ·
  subst hl; exact h.empty
 have hb := hb hl
 obtain ⟨a, cap, rfl, h1, h2, h3, h4, h5⟩ := h
 refine ⟨a, cap, rfl, h1, h2, h3, h4.of_blocks hs ?_, fun hne x hx => Nat.lt_of_lt_of_le (h5 hne x hx) hs⟩
 rintro x rfl
 exact hb _ (by simp [Value.ownBlock])
theorem IsW.ne0 (h : IsW w (.slice a n c) l) : l ≠ [] ↔ n ≠ 0 := by
 obtain ⟨a', c', hv, -⟩ := h
 simp only [Value.slice.injEq] at hv
 obtain ⟨-, rfl, -⟩ := hv
 simp
theorem v6q.keep (h : v6q N w (.agg #[.bool b, .slice a1 n1 c1, .slice a2 n2 c2]) q) (hs : w.heap.size ≤ w'.heap.size)
  (h1 : n1 ≠ 0 → ∀ x, (Value.slice a1 n1 c1).ownBlock = some x → w'.heap[x]? = w.heap[x]?) (h2 : n2 ≠ 0 → ∀ x, (Value.slice a2 n2 c2).ownBlock = some x → w'.heap[x]? = w.heap[x]?) : v6q N w' (.agg #[.bool b, .slice a1 n1 c1, .slice a2 n2 c2]) q := by
 obtain ⟨b', l, m, ⟨u, d, he, hu, hd⟩, hq, hl, hm⟩ := h
 simp only [Value.agg.injEq, Array.mk.injEq, List.cons.injEq, and_true] at he
 obtain ⟨hb, rfl, rfl⟩ := he
 exact ⟨b', l, m, ⟨_, _, by rw [hb], hu.keep hs (fun e => h1 (hu.ne0.1 e)), hd.keep hs (fun e => h2 (hd.ne0.1 e))⟩, hq, hl, hm⟩
theorem v6q.own (h : v6q N w (.agg #[.bool b, .slice a1 n1 c1, .slice a2 n2 c2]) q) : (n1 ≠ 0 → ∀ x, (Value.slice a1 n1 c1).ownBlock = some x → x < w.heap.size) ∧ (n2 ≠ 0 → ∀ x, (Value.slice a2 n2 c2).ownBlock = some x → x < w.heap.size) := by
 obtain ⟨b', l, m, ⟨u, d, he, hu, hd⟩, -, -, -⟩ := h
 simp only [Value.agg.injEq, Array.mk.injEq, List.cons.injEq, and_true] at he
 obtain ⟨-, rfl, rfl⟩ := he
 exact ⟨fun e => hu.own_lt (hu.ne0.2 e), fun e => hd.own_lt (hd.ne0.2 e)⟩

theorem u7j : (Tryz.prog.info? 43).map (fun i => (i.zero, i.size, i.bytes)) = some (some (.agg #[Value.bool false, Value.slice none 0 0, Value.slice none 0 0]), 3, 56) := by kernel_rfl
def y3q (w : World) (a : Option Addr) (k i : Nat) : Nat :=
 match a with
 | none => 0
 | some x => match w.cell? ⟨x.block, x.off + i * 3 + k, none⟩ with
  | some (.slice _ n _) => n
  | _ => 0
theorem g1q.cells (h : g1q w v a n c) {i : Nat} (hi : i < n) :
  ∃ B off b a1 c1 a2 c2, a = some ⟨B, off, none⟩ ∧ w.cell? ⟨B, off + i * 3, none⟩ = some (.bool b) ∧ w.cell? ⟨B, off + i * 3 + 1, none⟩ = some (.slice a1 (y3q w a 1 i) c1) ∧ w.cell? ⟨B, off + i * 3 + 2, none⟩ = some (.slice a2 (y3q w a 2 i) c2) ∧
   q0x w (.agg #[.bool b, .slice a1 (y3q w a 1 i) c1, .slice a2 (y3q w a 2 i) c2]) b a1 (y3q w a 1 i) c1 a2 (y3q w a 2 i) c2 := by
 obtain ⟨B, off, b, a1, n1, c1, a2, n2, c2, rfl, h0, h1, h2, hF⟩ := h.2 i hi
 have e1 : y3q w (some ⟨B, off, none⟩) 1 i = n1 := by simp only [y3q, h1]
 have e2 : y3q w (some ⟨B, off, none⟩) 2 i = n2 := by simp only [y3q, h2]
 rw [e1, e2]
 exact ⟨B, off, b, a1, c1, a2, c2, rfl, h0, h1, h2, hF⟩
theorem g1q.listF (h : g1q w v a n c) (hN : N ≤ 1073741824) (hf : r8q N n (y3q w a 1) (y3q w a 2) = true) :
  ∃ qs, n = qs.length ∧ z1q N w (.slice a n c) qs := by
 have hf' : ∀ i, i < n → y3q w a 1 i ≤ N ∧ y3q w a 2 i ≤ N := by simpa [r8q] using hf
 have build : ∀ k, k ≤ n → ∃ qs : List Rat, qs.length = k ∧ ∀ i q, qs[i]? = some q → ∃ B off b a1 n1 c1 a2 n2 c2, a = some ⟨B, off, none⟩ ∧ w.cell? ⟨B, off + i * 3, none⟩ = some (.bool b) ∧ w.cell? ⟨B, off + i * 3 + 1, none⟩ = some (.slice a1 n1 c1) ∧ w.cell? ⟨B, off + i * 3 + 2, none⟩ = some (.slice a2 n2 c2) ∧ v6q N w (.agg #[.bool b, .slice a1 n1 c1, .slice a2 n2 c2]) q := by
  intro k
  induction k with
  | zero => intro _; exact ⟨[], rfl, fun i q hq => by simp at hq⟩
  | succ k ih =>
   intro hk
   obtain ⟨qs, hl, hqs⟩ := ih (by omega)
   obtain ⟨B, off, b, a1, c1, a2, c2, ha, h0, h1, h2, hF⟩ := h.cells (i := k) (by omega)
   obtain ⟨q, hq⟩ := hF.few hN (hf' k (by omega)).1 (hf' k (by omega)).2
   refine ⟨qs ++ [q], by simp [hl], fun i r hr => ?_⟩
   by_cases hi : i < qs.length
   ·
    rw [List.getElem?_append_left hi] at hr
    exact hqs i r hr
   ·
    have hik : i = k := by
     have h9 := (List.getElem?_eq_some_iff.1 hr).1
     simp at h9; omega
    subst hik
    rw [← hl] at hr
    simp at hr
    subst hr
    exact ⟨B, off, b, a1, _, c1, a2, _, c2, ha, h0, h1, h2, hq⟩
 obtain ⟨qs, hl, hqs⟩ := build n qm
 exact ⟨qs, hl.symm, a, c, by rw [hl], hqs⟩
theorem q7z (h : z1q N w v qs) {i : Nat} (hi : i < qs.length) : szQ N 1 (q9q qs i) := by
 obtain ⟨a, c, rfl, h⟩ := h
 obtain ⟨B, off, b, a1, n1, c1, a2, n2, c2, -, -, -, -, hf⟩ := h i _ (List.getElem?_eq_getElem hi)
 rw [v9q (List.getElem?_eq_getElem hi)]
 exact q5w hf
end Go.Proofs.YtkkbmlkpgknhgaaGreat
