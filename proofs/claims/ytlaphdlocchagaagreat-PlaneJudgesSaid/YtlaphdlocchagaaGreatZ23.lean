/- Several texts in one: F6, F7, F8, F9, G1, G2. -/
import Derived.Test.YtlaphdlocchagaaGreatZ22
import Derived.Deep.DrawnRows
import Derived.Deep.DeepCutAuto
/- Lists of fractions: one term of a sum of products. -/
namespace Go.Proofs.YtlaphdlocchagaaGreat
open Go.RowKit
attribute [local go_sem ↓] Go.wp_at_zero Go.wp_at_succ

theorem cell_lt {w : World} {b o : Nat} {v : Value} (h : w.cell? ⟨b, o, none⟩ = some v) : b < w.heap.size := by
  by_cases hb : b < w.heap.size
  · exact hb
  · have : w.heap[b]? = none := by simp; omega
    simp [World.cell?, this] at h
set_option maxRecDepth 8000 in
set_option maxHeartbeats 4000000 in
theorem dot1_w {N : Nat} {w : World} {p p2 : Nat} {a a' : Option Addr} {n c n' c' i : Nat} {qs ps : List Rat} (hp : w.cell? ⟨p, 0, none⟩ = some (.slice a n c)) (hp2 : w.cell? ⟨p2, 0, none⟩ = some (.slice a' n' c')) (hl : ListF N w (.slice a n c) qs) (hl2 : ListF N w (.slice a' n' c') ps) (hi : i < n) (hi2 : i < n') (_hn : n ≤ 1000) (_hn2 : n' ≤ 1000) (hN : N ≤ 1000) :
    Calls Tryz.prog 106 #[.int .i64 (i : Nat), .pointer (some ⟨p, 0, none⟩), .pointer (some ⟨p2, 0, none⟩)] w fun e w' => (∃ r, e = .returned r ∧ RatQ w' r (nthQ qs i * nthQ ps i)) ∧ Below w.heap.size w w' := by
  obtain ⟨q, B, off, b, a1, n1, c1, a2, n2, c2, hq, rfl, hc, hf⟩ := hl.at hi
  obtain ⟨q', B', off', b', a3, n3, c3, a4, n4, c4, hq', rfl, hc', hf'⟩ := hl2.at hi2
  rw [nthQ_of hq, nthQ_of hq']
  obtain ⟨w1, hw1⟩ : ∃ w1, w1 = w.alloc (Obj.cells #[Value.slice none 0 0, Value.bool false, Value.slice none 0 0] 93) := ⟨_, rfl⟩
  have HB1 : Hid (Below w.heap.size w w1) := Lib.hid (by rw [hw1]; exact (Below.refl _ _).alloc (Nat.le_refl _) _)
  have HR : Hid (w1.heap[w.heap.size]? = some (.cells #[Value.slice none 0 0, Value.bool false, Value.slice none 0 0] 93 (0, 0))) := Lib.hid (by rw [hw1]; exact heap_alloc_new w _)
  have HW1 := Lib.hid hw1.symm
  have RP : Hid (∀ w', Below w1.heap.size w1 w' → w'.cell? ⟨p, 0, none⟩ = some (.slice (some ⟨B, off, none⟩) n c) ∧ w'.cell? ⟨p2, 0, none⟩ = some (.slice (some ⟨B', off', none⟩) n' c')) := Lib.hid (fun w' hb => ⟨cell_below (below_trans HB1.out hb) hp, cell_below (below_trans HB1.out hb) hp2⟩)
  have RC : Hid (∀ w', Below w1.heap.size w1 w' → (w'.cell? ⟨B, off + i * 3, none⟩ = some (.bool b) ∧ w'.cell? ⟨B, off + i * 3 + 1, none⟩ = some (.slice a1 n1 c1) ∧ w'.cell? ⟨B, off + i * 3 + 2, none⟩ = some (.slice a2 n2 c2)) ∧ (w'.cell? ⟨B', off' + i * 3, none⟩ = some (.bool b') ∧ w'.cell? ⟨B', off' + i * 3 + 1, none⟩ = some (.slice a3 n3 c3) ∧ w'.cell? ⟨B', off' + i * 3 + 2, none⟩ = some (.slice a4 n4 c4))) := Lib.hid (fun w' hb => ⟨hc w' (below_trans HB1.out hb), hc' w' (below_trans HB1.out hb)⟩)
  have hlt1 := cell_lt hp
  have hlt2 := cell_lt hp2
  have hlt3 := cell_lt (hc w (Below.refl _ _)).1
  have hlt4 := cell_lt (hc' w (Below.refl _ _)).1
  have R0 : Hid (∀ o v, (#[Value.slice none 0 0, Value.bool false, Value.slice none 0 0] : Array Value)[o]? = some v → ∀ w', Below w1.heap.size w1 w' → w'.cell? ⟨w.heap.size, o, none⟩ = some v ∧ w'.frozen? ⟨w.heap.size, o, none⟩ = false) :=
    Lib.hid (fun o v h w' hb => ⟨cells_later HR.out o v h w' hb, frozen_of_row _ _ o _ _ ((hb.block _ (lt_of_block HR.out)).trans HR.out)⟩)
  have L1 := Lib.hid hf.len
  have L2 := Lib.hid hf'.len
  have K1 : Hid (∀ w', Below w1.heap.size w1 w' → Calls Tryz.prog 68 #[.agg #[.bool b, .slice a1 n1 c1, .slice a2 n2 c2]] w' fun e w'' => (∃ r, e = .returned r ∧ RatQ w'' r q) ∧ Below w'.heap.size w' w'') := Lib.hid (fun w' hb => by
    obtain ⟨bb, l', m', hr', hqq, -, -⟩ := hf
    rw [hqq]; exact read_w (hr'.below (below_trans HB1.out hb)))
  have K2 : Hid (∀ w', Below w1.heap.size w1 w' → Calls Tryz.prog 68 #[.agg #[.bool b', .slice a3 n3 c3, .slice a4 n4 c4]] w' fun e w'' => (∃ r, e = .returned r ∧ RatQ w'' r q') ∧ Below w'.heap.size w' w'') := Lib.hid (fun w' hb => by
    obtain ⟨bb, l', m', hr', hqq, -, -⟩ := hf'
    rw [hqq]; exact read_w (hr'.below (below_trans HB1.out hb)))
  have K3 := Lib.hid (fun w' x y (h : RatQ w' x q) (k : RatQ w' y q') => rtimes_q (w := w') h k (by have := L1.out; have := L2.out; omega))
  obtain ⟨Q, hQ⟩ : ∃ Q, Q = q * q' := ⟨_, rfl⟩
  rw [← hQ] at K3 ⊢
  clear hw1 hc hc' hl hl2 hp hp2 hf hf' hq hq' hQ
  have hz1 := Below.refl w1.heap.size w1
  obtain ⟨p0, pp0⟩ := RP.out _ hz1
  obtain ⟨⟨x0, x1, x2⟩, y0, y1, y2⟩ := RC.out _ hz1
  go_enter Tryz.func106, Tryz.ntmps106
  go_wp2_with fail
  rw [HW1.out]
  have hz0 : Below w1.heap.size w1 w1.drew := below_drewN hz1 1
  go_region_held3 (fun w' => w'.cell? ⟨p, 0, none⟩ = some (.slice (some ⟨B, off, none⟩) n c) ∧ w'.cell? ⟨p2, 0, none⟩ = some (.slice (some ⟨B', off', none⟩) n' c') ∧ w'.cell? ⟨B, off + i * 3, none⟩ = some (.bool b) ∧ w'.cell? ⟨B, off + i * 3 + 1, none⟩ = some (.slice a1 n1 c1) ∧ w'.cell? ⟨B, off + i * 3 + 2, none⟩ = some (.slice a2 n2 c2) ∧ w'.cell? ⟨B', off' + i * 3, none⟩ = some (.bool b') ∧ w'.cell? ⟨B', off' + i * 3 + 1, none⟩ = some (.slice a3 n3 c3) ∧ w'.cell? ⟨B', off' + i * 3 + 2, none⟩ = some (.slice a4 n4 c4))
    (((try dsimp only); refine ⟨?_, ?_, ?_, ?_, ?_, ?_, ?_, ?_⟩ <;> (first | exact (RP.out _ (by assumption)).1 | exact (RP.out _ (by assumption)).2 | exact (RC.out _ (by assumption)).1.1 | exact (RC.out _ (by assumption)).1.2.1 | exact (RC.out _ (by assumption)).1.2.2 | exact (RC.out _ (by assumption)).2.1 | exact (RC.out _ (by assumption)).2.2.1 | exact (RC.out _ (by assumption)).2.2.2 | (rw [World.cell?_setCell_far _ _ _ _ (by dsimp only; omega), World.cell?_setCell_far _ _ _ _ (by dsimp only; omega), World.cell?_setCell_far _ _ _ _ (by dsimp only; omega)]; first | exact (RP.out _ (by assumption)).1 | exact (RP.out _ (by assumption)).2 | exact (RC.out _ (by assumption)).1.1 | exact (RC.out _ (by assumption)).1.2.1 | exact (RC.out _ (by assumption)).1.2.2 | exact (RC.out _ (by assumption)).2.1 | exact (RC.out _ (by assumption)).2.2.1 | exact (RC.out _ (by assumption)).2.2.2) | go_keep)))
    (first | (go_at_call_of 68 (Value.slice a1 n1 c1); refine (K1.out _ hz0).mono ?_; rintro en4 w4 ⟨⟨r4, rfl, h4⟩, hb4⟩; have hz4 := below_trans hz0 hb4) | (go_at_call 68; refine (K2.out _ hz4).mono ?_; rintro en5 w5 ⟨⟨r5, rfl, h5⟩, hb5⟩; have hz5 := below_trans hz4 hb5) | (go_at_call 107; refine (K3.out _ _ _ (h4.below hb5) h5).mono ?_; rintro en6 w6 ⟨⟨r6, rfl, h6⟩, hb6⟩; obtain ⟨u6, d6, rfl, hu6, hd6⟩ := h6; obtain ⟨a6, n6, c6, he6⟩ := hu6.form; subst he6; obtain ⟨i6, j6, k6, hf6⟩ := hd6.form; subst hf6; have hz6 := below_trans hz5 hb6; have r0 := (R0.out 0 _ rfl _ hz6).1; have r1 := (R0.out 1 _ rfl _ hz6).1; have r2 := (R0.out 2 _ rfl _ hz6).1; have f0 := (R0.out 0 _ rfl _ hz6).2; have f1 := (R0.out 1 _ rfl _ hz6).2; have f2 := (R0.out 2 _ rfl _ hz6).2))
  have HR6 : Hid (w6.heap[w.heap.size]? = some (.cells #[Value.slice none 0 0, Value.bool false, Value.slice none 0 0] 93 (0, 0))) := Lib.hid ((hz6.block _ (lt_of_block HR.out)).trans HR.out)
  have HB6 := Lib.hid (below_trans HB1.out hz6)
  have HU6 := Lib.hid hu6
  have HD6 := Lib.hid hd6
  clear r0 r1 r2 f0 f1 f2
  have r0 := (R0.out 0 _ rfl _ hz6).1
  have r1 := (R0.out 1 _ rfl _ hz6).1
  have r2 := (R0.out 2 _ rfl _ hz6).1
  have f0 := (R0.out 0 _ rfl _ hz6).2
  have f1 := (R0.out 1 _ rfl _ hz6).2
  have f2 := (R0.out 2 _ rfl _ hz6).2
  go_wp2_with fail
  exact bodyPost_ret (results_cell_row rfl _ _ w.heap.size _ _ _ _ rfl (rat3_heap HR6.out) Tryz.underlying93 rfl irat) rfl ⟨⟨_, rfl, rat3_q HR6.out HU6.out HD6.out⟩, below_only HB6.out (rat3_only _ _ _ _ _) (by omega)⟩
end Go.Proofs.YtlaphdlocchagaaGreat

/- Lists of fractions: sums of products. -/
namespace Go.Proofs.YtlaphdlocchagaaGreat
open Go.RowKit
attribute [local go_sem ↓] Go.wp_at_zero Go.wp_at_succ

set_option maxRecDepth 8000 in
set_option maxHeartbeats 2000000 in
theorem dot_wG {N : Nat} {w : World} {v v' : Value} {qs ps : List Rat} (hl : ListF N w v qs) (hl2 : ListF N w v' ps) (hN : N ≤ 50) (hn : qs.length ≤ 100) (hn2 : ps.length ≤ 100) (hNn : N * qs.length ≤ 1000) :
    Calls Tryz.prog 70 #[v, v'] w (RTell w (sumR (fun i => nthQ qs i * nthQ ps i) 0 (min qs.length ps.length))) := by
  obtain ⟨a, c, rfl, -⟩ := id hl
  obtain ⟨a', c', rfl, -⟩ := id hl2
  obtain ⟨n, hnn⟩ : ∃ n, n = qs.length := ⟨_, rfl⟩
  obtain ⟨n', hnn'⟩ : ∃ n, n = ps.length := ⟨_, rfl⟩
  rw [← hnn] at hl hn hNn ⊢
  rw [← hnn'] at hl2 hn2 ⊢
  obtain ⟨w1, hw1⟩ : ∃ w1, w1 = ((w.alloc (Obj.cells #[Value.slice a n c] 23)).alloc (Obj.cells #[Value.slice a' n' c'] 23)).alloc (Obj.cells #[Value.bool false, Value.slice none 0 0, Value.slice none 0 0] 47) := ⟨_, rfl⟩
  have HB1 : Hid (Below w.heap.size w w1) := Lib.hid (by rw [hw1]; exact (((Below.refl _ _).alloc (Nat.le_refl _) _).alloc (by simp) _).alloc (by simp; omega) _)
  have HX : Hid (w1.heap[w.heap.size]? = some (.cells #[Value.slice a n c] 23 (0, 0))) := Lib.hid (by rw [hw1]; exact alloc3_0 w _ _ _)
  have HY : Hid (w1.heap[w.heap.size + 1]? = some (.cells #[Value.slice a' n' c'] 23 (0, 0))) := Lib.hid (by rw [hw1]; exact alloc3_1 w _ _ _)
  have HR : Hid (w1.heap[w.heap.size + 2]? = some (.cells #[Value.bool false, Value.slice none 0 0, Value.slice none 0 0] 47 (0, 0))) := Lib.hid (by rw [hw1]; exact alloc3_new w _ _ _)
  have HW1 := Lib.hid hw1.symm
  have HL := Lib.hid (hl.below HB1.out)
  have HL2 := Lib.hid (hl2.below HB1.out)
  have RX := Lib.hid (cells_later HX.out)
  have RY := Lib.hid (cells_later HY.out)
  obtain ⟨k, hk⟩ : ∃ k, k = min n n' := ⟨_, rfl⟩
  have hsz : ∀ i, 0 ≤ i → i < k → szQ (2 * N) 1 ((fun i => nthQ qs i * nthQ ps i) i) := fun i _ hi => by
    obtain ⟨q, B, off, b, a1, n1, c1, a2, n2, c2, hq, -, -, hf⟩ := hl.at (i := i) (by omega)
    obtain ⟨q', B', off', b', a3, n3, c3, a4, n4, c4, hq', -, -, hf'⟩ := hl2.at (i := i) (by omega)
    show szQ (2 * N) 1 (nthQ qs i * nthQ ps i)
    rw [nthQ_of hq, nthQ_of hq']
    exact sz_mul (few_sz hf) (few_sz hf')
  have K1 := Lib.hid (total_dot (w0 := w1) (g := fun i => nthQ qs i * nthQ ps i) (m := 2 * N) (Lo := 0) (Hi := k) (p := w.heap.size) (p2 := w.heap.size + 1) (by omega) (by omega) hsz (fun i w' _ hi hb => dot1_w (RX.out 0 _ rfl _ hb) (RY.out 0 _ rfl _ hb) (HL.out.below hb) (HL2.out.below hb) (by omega) (by omega) (by omega) (by omega) (by omega)) k 0 k w1 (by omega) (by omega) (Nat.le_refl _) (Below.refl _ _))
  have HS := Lib.hid (sz_len (sz_sum (g := fun i => nthQ qs i * nthQ ps i) (lo := 0) (n := k) fun i h1 h2 => hsz i h1 (by omega)) (by omega))
  have HNN : Hid (2 * N * k ≤ 2000) := Lib.hid (Nat.le_trans (Nat.mul_le_mul_left (2 * N) (show k ≤ n by omega)) (by rw [Nat.mul_assoc]; omega))
  rw [← hk]
  obtain ⟨Q, hQ⟩ : ∃ Q, Q = sumR (fun i => nthQ qs i * nthQ ps i) 0 k := ⟨_, rfl⟩
  rw [← hQ] at K1 HS ⊢
  have K2 := Lib.hid (fun w' x (h : RatQ w' x Q) => tell_w (w := w') h (by have := HS.out; have := HNN.out; omega))
  rw [cut_id (by have := HS.out; have := HNN.out; omega)] at K2
  have hz1 := Below.refl w1.heap.size w1
  have x0 := RX.out 0 _ rfl _ hz1
  have y0 := RY.out 0 _ rfl _ hz1
  have hmf : ∀ (fn : Fn) (first cap : Array Value) (w : World), (Instr.makeFunc fn first cap).run Tryz.prog w = .ok (.func fn first cap) w := fun _ _ _ _ => rfl
  clear hw1 hl hl2 hsz hQ hnn hnn' hNn
  by_cases hle : n ≤ n'
  · have e9 : k = n := by omega
    subst e9
    clear hk
    go_enter Tryz.func70, Tryz.ntmps70
    go_upto_region 2 with fail
    rw [HW1.out]
    go_wp2_with fail
    refine K1.out.mono ?_
    rintro en2 w2 ⟨⟨v2, rfl, h2⟩, hb2⟩
    go_wp2_with fail
    refine (K2.out _ _ h2).mono ?_
    rintro en3 w3 ⟨⟨v3, rfl, f3, -⟩, hb3⟩
    obtain ⟨a3, n3, c3, i3, j3, k3, hq3⟩ := frac_form f3
    subst hq3
    have hz3 := below_trans hb2 hb3
    have HRk : Hid (w3.heap[w.heap.size + 2]? = some (.cells #[Value.bool false, Value.slice none 0 0, Value.slice none 0 0] 47 (0, 0))) := Lib.hid ((hz3.block _ (lt_of_block HR.out)).trans HR.out)
    have HFk := Lib.hid (f3.other HRk.out (frac3_only _ _ (decide (Q.num < 0)) (Value.slice a3 n3 c3) (Value.slice i3 j3 k3)))
    have HBk := Lib.hid (below_trans HB1.out hz3)
    have r0 := cells_later HRk.out 0 _ rfl _ (Below.refl _ _)
    have r1 := cells_later HRk.out 1 _ rfl _ (Below.refl _ _)
    have r2 := cells_later HRk.out 2 _ rfl _ (Below.refl _ _)
    have f0 := frozen_of_row _ _ 0 _ _ HRk.out
    have f1 := frozen_of_row _ _ 1 _ _ HRk.out
    have f2 := frozen_of_row _ _ 2 _ _ HRk.out
    clear f3
    go_wp2_with fail
    exact bodyPost_ret (results_cell_row rfl _ _ (w.heap.size + 2) _ _ _ _ rfl (frac3_heap HRk.out) Tryz.underlying47 rfl ifrac) rfl ⟨⟨_, rfl, HFk.out⟩, below_only HBk.out (frac3_only _ _ _ _ _) (by omega)⟩
  · have e9 : k = n' := by omega
    subst e9
    clear hk
    go_enter Tryz.func70, Tryz.ntmps70
    go_upto_region 2 with fail
    rw [HW1.out]
    go_wp2_with fail
    refine K1.out.mono ?_
    rintro en2 w2 ⟨⟨v2, rfl, h2⟩, hb2⟩
    go_wp2_with fail
    refine (K2.out _ _ h2).mono ?_
    rintro en3 w3 ⟨⟨v3, rfl, f3, -⟩, hb3⟩
    obtain ⟨a3, n3, c3, i3, j3, k3, hq3⟩ := frac_form f3
    subst hq3
    have hz3 := below_trans hb2 hb3
    have HRk : Hid (w3.heap[w.heap.size + 2]? = some (.cells #[Value.bool false, Value.slice none 0 0, Value.slice none 0 0] 47 (0, 0))) := Lib.hid ((hz3.block _ (lt_of_block HR.out)).trans HR.out)
    have HFk := Lib.hid (f3.other HRk.out (frac3_only _ _ (decide (Q.num < 0)) (Value.slice a3 n3 c3) (Value.slice i3 j3 k3)))
    have HBk := Lib.hid (below_trans HB1.out hz3)
    have r0 := cells_later HRk.out 0 _ rfl _ (Below.refl _ _)
    have r1 := cells_later HRk.out 1 _ rfl _ (Below.refl _ _)
    have r2 := cells_later HRk.out 2 _ rfl _ (Below.refl _ _)
    have f0 := frozen_of_row _ _ 0 _ _ HRk.out
    have f1 := frozen_of_row _ _ 1 _ _ HRk.out
    have f2 := frozen_of_row _ _ 2 _ _ HRk.out
    clear f3
    go_wp2_with fail
    exact bodyPost_ret (results_cell_row rfl _ _ (w.heap.size + 2) _ _ _ _ rfl (frac3_heap HRk.out) Tryz.underlying47 rfl ifrac) rfl ⟨⟨_, rfl, HFk.out⟩, below_only HBk.out (frac3_only _ _ _ _ _) (by omega)⟩
theorem dot_w {N : Nat} {w : World} {v v' : Value} {qs ps : List Rat} (hl : ListF N w v qs) (hl2 : ListF N w v' ps) (hN : N ≤ 50) (hn : qs.length ≤ 20) (hn2 : ps.length ≤ 20) :
    Calls Tryz.prog 70 #[v, v'] w (RTell w (sumR (fun i => nthQ qs i * nthQ ps i) 0 (min qs.length ps.length))) :=
  dot_wG hl hl2 hN (by omega) (by omega) (Nat.le_trans (Nat.mul_le_mul hN hn) (by omega))
end Go.Proofs.YtlaphdlocchagaaGreat

/- Lists of fractions: the first best one; the reference. -/
namespace Go.Proofs.YtlaphdlocchagaaGreat
open Go.RowKit
attribute [local go_sem ↓] Go.wp_at_zero Go.wp_at_succ

/-- The place of the first best one among the first i, on one side. -/
def bst (side : Int) (qs : List Rat) : Nat → Option Nat
  | 0 => none
  | i + 1 => match bst side qs i with
    | none => some i
    | some a => if cmpQ (nthQ qs i) (nthQ qs a) = side then some i else some a
def bstI (side : Int) (qs : List Rat) (i : Nat) : Int := match bst side qs i with
  | none => -1
  | some a => (a : Nat)
theorem bst_lt {side : Int} {qs : List Rat} : ∀ {i a : Nat}, bst side qs i = some a → a < i
  | 0, a, h => by simp [bst] at h
  | i + 1, a, h => by
    unfold bst at h
    cases hb : bst side qs i with
    | none => rw [hb] at h; simp at h; omega
    | some c =>
      rw [hb] at h
      have := bst_lt hb
      simp only at h
      split at h <;> simp at h <;> omega
theorem bst_none {side : Int} {qs : List Rat} : ∀ {i : Nat}, bst side qs i = none → i = 0
  | 0, _ => rfl
  | i + 1, h => by
    unfold bst at h
    cases hb : bst side qs i with
    | none => rw [hb] at h; simp at h
    | some c => rw [hb] at h; simp only at h; split at h <;> simp at h
theorem bst_new {side : Int} {qs : List Rat} {i : Nat} (h : bst side qs i = none) : bst side qs (i + 1) = some i := by unfold bst; rw [h]
theorem bst_yes {side : Int} {qs : List Rat} {i a : Nat} (h : bst side qs i = some a) (hc : cmpQ (nthQ qs i) (nthQ qs a) = side) : bst side qs (i + 1) = some i := by unfold bst; rw [h]; simp [hc]
theorem bst_no {side : Int} {qs : List Rat} {i a : Nat} (h : bst side qs i = some a) (hc : ¬ cmpQ (nthQ qs i) (nthQ qs a) = side) : bst side qs (i + 1) = some a := by unfold bst; rw [h]; simp [hc]

end Go.Proofs.YtlaphdlocchagaaGreat

/- Lists of fractions: the first best one; the program. -/
namespace Go.Proofs.YtlaphdlocchagaaGreat
open Go.RowKit
attribute [local go_sem ↓] Go.wp_at_zero Go.wp_at_succ

theorem rat_form {w : World} {r : Value} {q : Rat} (h : RatQ w r q) : ∃ a n c b i j k, r = .agg #[.slice a n c, .bool b, .slice i j k] := by
  obtain ⟨u, d, rfl, hu, hd⟩ := h
  obtain ⟨a, n, c, rfl⟩ := hu.form
  obtain ⟨i, j, k, rfl⟩ := hd.form
  exact ⟨a, n, c, _, i, j, k, rfl⟩
theorem RatQ.other {w w' : World} {v : Value} {q : Rat} {B : Nat} {t : TypeId} {fr : Nat × Nat} {b : Bool} {a i : Option Addr} {n c j k : Nat} (h : RatQ w v q) (hB : w.heap[B]? = some (.cells #[Value.slice a n c, Value.bool b, Value.slice i j k] t fr)) (ho : Only B w w') : RatQ w' v q := by
  obtain ⟨u, d, rfl, hu, hd⟩ := h
  exact ⟨u, d, rfl, hu.other hB (rat_cells ⟨_, _, _, rfl⟩ ⟨_, _, _, rfl⟩) ho, hd.other hB (rat_cells ⟨_, _, _, rfl⟩ ⟨_, _, _, rfl⟩) ho⟩

end Go.Proofs.YtlaphdlocchagaaGreat

/- Lists of fractions: sums of the reference. -/
namespace Go.Proofs.YtlaphdlocchagaaGreat
open Go.RowKit
attribute [local go_sem ↓] Go.wp_at_zero Go.wp_at_succ

theorem radd_v {w : World} {v t : Value} {P S Q : Rat} (hv : FracV w v P) (ht : FracV w t S) (h1 : lenQ P ≤ 4096) (h2 : lenQ S ≤ 4096) (h3 : lenQ Q ≤ 4096) (hQ : P + S = Q) :
    Calls Tryz.prog 77 #[v, t] w (RTell w Q) := by
  subst hQ
  have h := radd_w hv.raw ht.raw h1 h2
  rw [fix_digs h1, fix_digs h2, cut_id h3] at h
  exact h
theorem radd_m {n : Nat} {w : World} {v t : Value} {P S Q : Rat} (hv : FracV w v P) (ht : FewF n w t S) (hn : n ≤ 100) (h1 : lenQ P ≤ 4096) (h3 : lenQ Q ≤ 4096) (hQ : P + S = Q) :
    Calls Tryz.prog 77 #[v, t] w (RTell w Q) := by
  subst hQ
  obtain ⟨b', l', m', hr, rfl, hl2, hm2⟩ := ht
  have h := radd_w hv.raw hr h1 (by omega)
  rw [fix_digs h1, cut_id h3] at h
  exact h
theorem few_zero {N : Nat} {w : World} {b : Bool} {a1 a2 : Option Addr} {n1 c1 n2 c2 : Nat} {q : Rat} (h : FewF N w (.agg #[.bool b, .slice a1 n1 c1, .slice a2 n2 c2]) q) (h0 : n1 = 0) : q = 0 := by
  obtain ⟨b', l, m, ⟨u, d, he, hu, hd⟩, hq, -, -⟩ := h
  simp only [Value.agg.injEq, Array.mk.injEq, List.cons.injEq, and_true] at he
  obtain ⟨-, rfl, rfl⟩ := he
  have hl : l = [] := List.eq_nil_of_length_eq_zero (by rw [← hu.lenE]; exact h0)
  rw [hq]
  cases hR : rightB b' l m with
  | false => unfold fixR; rw [hR]; rfl
  | true =>
    obtain ⟨e1, -, -, -⟩ := right_rat hu.ws hd.ws hR
    rw [hl] at e1
    have h9 : (fixR b' [] m).num.natAbs = 0 := by
      rw [← hl]
      rcases Nat.eq_zero_or_pos (fixR b' l m).num.natAbs with h | h
      · exact h
      · rw [hl] at h
        rw [digs_pos (by omega)] at e1; simp at e1
    rw [hl]
    exact Rat.num_eq_zero.1 (by omega)
theorem sumR_next (g : Nat → Rat) (i : Nat) : sumR g 0 i + g i = sumR g 0 (i + 1) := by
  show _ = sumR g 0 i + g (0 + i)
  rw [Nat.zero_add]

end Go.Proofs.YtlaphdlocchagaaGreat

/- Lists of fractions: sums of products of the reference. -/
namespace Go.Proofs.YtlaphdlocchagaaGreat
open Go.RowKit
attribute [local go_sem ↓] Go.wp_at_zero Go.wp_at_succ

set_option maxRecDepth 8000 in
set_option maxHeartbeats 8000000 in
theorem rdot_wG {N : Nat} {w : World} {v v' : Value} {qs ps : List Rat} (hl : ListF N w v qs) (hl2 : ListF N w v' ps) (hN : N ≤ 50) (hn : qs.length ≤ 100) (hn2 : ps.length ≤ 100) (hNn : N * qs.length ≤ 1000) :
    Calls Tryz.prog 76 #[v, v'] w (RTell w (sumR (fun i => nthQ qs i * nthQ ps i) 0 (min qs.length ps.length))) := by
  obtain ⟨a, c, rfl, -⟩ := id hl
  obtain ⟨a', c', rfl, -⟩ := id hl2
  obtain ⟨n, hnn⟩ : ∃ n, n = qs.length := ⟨_, rfl⟩
  obtain ⟨n', hnn'⟩ : ∃ n, n = ps.length := ⟨_, rfl⟩
  rw [← hnn] at hl hn hNn ⊢
  rw [← hnn'] at hl2 hn2 ⊢
  obtain ⟨g, hg⟩ : ∃ g, g = fun i => nthQ qs i * nthQ ps i := ⟨_, rfl⟩
  rw [← hg]
  have HGI : Hid (∀ i, g i = nthQ qs i * nthQ ps i) := Lib.hid (fun i => by rw [hg])
  obtain ⟨w1, hw1⟩ : ∃ w1, w1 = w.alloc (Obj.cells #[Value.bool false, Value.slice none 0 0, Value.slice none 0 0] 47) := ⟨_, rfl⟩
  have HB1 : Hid (Below w.heap.size w w1) := Lib.hid (by rw [hw1]; exact (Below.refl _ _).alloc (Nat.le_refl _) _)
  have HR : Hid (w1.heap[w.heap.size]? = some (.cells #[Value.bool false, Value.slice none 0 0, Value.slice none 0 0] 47 (0, 0))) := Lib.hid (by rw [hw1]; exact heap_alloc_new w _)
  have HW1 := Lib.hid hw1.symm
  have HL := Lib.hid hl
  have HL2 := Lib.hid hl2
  obtain ⟨k, hk⟩ : ∃ k, k = min n n' := ⟨_, rfl⟩
  rw [← hk]
  have HK : Hid (k ≤ n ∧ k ≤ n' ∧ (∀ i, i < n → i < n' → i < k) ∧ (∀ i, i ≤ k → (¬ i < n ∨ ¬ i < n') → i = k)) := Lib.hid ⟨by omega, by omega, fun i h1 h2 => by omega, fun i h1 h2 => by omega⟩
  have HSZ : Hid (∀ i, i ≤ k → lenQ (sumR g 0 i) ≤ 4096) := Lib.hid (fun i hi => by
    have h := sz_len (sz_sum (g := g) (lo := 0) (n := i) (m := 2 * N) fun j h1 h2 => by
      obtain ⟨q, B, off, b, a1, n1, c1, a2, n2, c2, hq, -, -, hf⟩ := hl.at (i := j) (by omega)
      obtain ⟨q', B', off', b', a3, n3, c3, a4, n4, c4, hq', -, -, hf'⟩ := hl2.at (i := j) (by omega)
      rw [HGI.out, nthQ_of hq, nthQ_of hq']; exact sz_mul (few_sz hf) (few_sz hf')) (by omega)
    have h9 : 2 * N * i ≤ 2 * (N * n) := Nat.le_trans (Nat.mul_le_mul_left (2 * N) (show i ≤ n by omega)) (Nat.le_of_eq (Nat.mul_assoc _ _ _))
    omega)
  clear hw1 hl hl2 hnn hnn' hg hk hNn
  go_enter Tryz.func76, Tryz.ntmps76
  go_wp2_with fail
  rw [HW1.out]
  refine rzero_w.mono ?_
  rintro en2 w2 ⟨⟨v2, rfl, f2⟩, hb2⟩
  obtain ⟨a2, n2, c2, i2, j2, k2, hq2⟩ := frac_form f2
  subst hq2
  go_wp2_with ((with_reducible refine at_store ?_); refine wpList_store_var rfl _ _ _ rfl w2.heap.size rfl _ rfl _ _ (heap_alloc_new _ _) ifrac rfl frac_one ?_; intro w3 h3 hon3; refine halt ?_)
  have hb3 : Below w2.heap.size w2 w3 := below_only ((Below.refl _ _).alloc (Nat.le_refl _) _) hon3 (Nat.le_refl _)
  obtain ⟨Ba, hBa⟩ : ∃ B, B = w2.heap.size := ⟨_, rfl⟩
  have hBw : w.heap.size + 1 ≤ Ba := by have h8 := lt_of_block HR.out; have h9 := hb2.size; omega
  have hBw1 : w1.heap.size ≤ Ba := by have h9 := hb2.size; omega
  have HROW3 : Hid (w3.heap[Ba]? = some (.cells #[Value.bool (decide ((0 : Rat).num < 0)), Value.slice a2 n2 c2, Value.slice i2 j2 k2] 47 (0, 0))) := Lib.hid (by rw [hBa]; exact h3)
  have HF3 := Lib.hid (f2.below hb3)
  have HZ3 := Lib.hid (below_trans hb2 hb3)
  rw [← hBa]
  clear h3 hon3 hb3 hb2 f2 hBa
  refine go_on ?_
  go_wp2_with fail
  go_loopw [6] (fun iv wr => ∃ (i : Nat) (ra : Bool) (ab : Option Addr) (an ac : Nat) (ai : Option Addr) (aj ak : Nat), i ≤ k ∧ iv = .int .i64 i ∧ Hid (wr.heap[Ba]? = some (.cells #[Value.bool ra, Value.slice ab an ac, Value.slice ai aj ak] 47 (0, 0))) ∧ Hid (FracV wr (.agg #[Value.bool ra, Value.slice ab an ac, Value.slice ai aj ak]) (sumR g 0 i)) ∧ Hid (Below w1.heap.size w1 wr)) (fun iv _ => k - (intOf iv).toNat)
  case atStart => exact ⟨0, _, _, _, _, _, _, _, Nat.zero_le _, rfl, HROW3, HF3, HZ3⟩
  case round =>
    obtain ⟨i, ra, ab, an, ac, ai, aj, ak, hi, rfl, hrow, hfa, hZ⟩ := hrel
    obtain ⟨wo, rfl⟩ : ∃ wo : World, wo = wr := ⟨_, rfl⟩
    have hk9 : k ≤ 100 := by have := HK.out.1; omega
    by_cases hin : i < n
    · have t0 : decide ((i : Int) < (n : Int)) = true := by simp; omega
      by_cases hin2 : i < n'
      · have t1 : decide ((i : Int) < (n' : Int)) = true := by simp; omega
        have hik := HK.out.2.2.1 i hin hin2
        obtain ⟨q, B, off, b, a1, n1, c1, a2, n2, c2, hq, ha, hc, hf⟩ := HL.out.at hin
        subst ha
        obtain ⟨q', B', off', b', a3, n3, c3, a4, n4, c4, hq', ha', hc', hf'⟩ := HL2.out.at hin2
        subst ha'
        have HW := Lib.hid (below_trans HB1.out hZ.out)
        have RC : Hid (∀ w', Below wo.heap.size wo w' → (w'.cell? ⟨B, off + i * 3, none⟩ = some (.bool b) ∧ w'.cell? ⟨B, off + i * 3 + 1, none⟩ = some (.slice a1 n1 c1) ∧ w'.cell? ⟨B, off + i * 3 + 2, none⟩ = some (.slice a2 n2 c2)) ∧ (w'.cell? ⟨B', off' + i * 3, none⟩ = some (.bool b') ∧ w'.cell? ⟨B', off' + i * 3 + 1, none⟩ = some (.slice a3 n3 c3) ∧ w'.cell? ⟨B', off' + i * 3 + 2, none⟩ = some (.slice a4 n4 c4))) := Lib.hid (fun w' h => ⟨hc w' (below_trans HW.out h), hc' w' (below_trans HW.out h)⟩)
        have RA := Lib.hid (cells_later hrow.out)
        have FA := Lib.hid (frozen_at hrow.out)
        have HGQ : Hid (g i = q * q') := Lib.hid (by rw [HGI.out, nthQ_of hq, nthQ_of hq'])
        have HNX : Hid (sumR g 0 i + g i = sumR g 0 (i + 1)) := Lib.hid (sumR_next g i)
        have hw0 := Below.refl wo.heap.size wo
        obtain ⟨⟨x0, x1, x2⟩, y0, y1, y2⟩ := RC.out _ hw0
        have hln1 : n1 ≤ 1073741824 := by
          obtain ⟨_, _, _, ⟨_, _, he, hu, _⟩, _, _, _⟩ := hf
          simp only [Value.agg.injEq, Array.mk.injEq, List.cons.injEq, and_true] at he
          obtain ⟨-, rfl, -⟩ := he
          have := hu.lenE; have := hu.len; omega
        have hln3 : n3 ≤ 1073741824 := by
          obtain ⟨_, _, _, ⟨_, _, he, hu, _⟩, _, _, _⟩ := hf'
          simp only [Value.agg.injEq, Array.mk.injEq, List.cons.injEq, and_true] at he
          obtain ⟨-, rfl, -⟩ := he
          have := hu.lenE; have := hu.len; omega
        by_cases h1 : 0 < n1
        · have u1 : decide ((0 : Int) < (n1 : Int)) = true := by simp; omega
          by_cases h3 : 0 < n3
          · have u3 : decide ((0 : Int) < (n3 : Int)) = true := by simp; omega
            obtain ⟨Q, hQ⟩ : ∃ Q, Q = sumR g 0 (i + 1) := ⟨_, rfl⟩
            have HQ := Lib.hid hQ
            have HLQ : Hid (lenQ Q ≤ 4096) := Lib.hid (by rw [hQ]; exact HSZ.out (i + 1) (by omega))
            obtain ⟨M, hM⟩ : ∃ M, q * q' = M := ⟨_, rfl⟩
            have HLM : Hid (lenQ M ≤ 4096) := Lib.hid (by rw [← hM]; have h9 := len_mul q q'; have := hf.len; have := hf'.len; omega)
            have K1 := Lib.hid (fun w' (hb : Below wo.heap.size wo w') => rmul_f (w := w') (hf.below (below_trans HW.out hb)) (hf'.below (below_trans HW.out hb)) (by omega) hM)
            have K2 := Lib.hid (fun w' y (hb : Below wo.heap.size wo w') (hy : FracV w' y M) => radd_v (w := w') (Q := Q) (hfa.out.below hb) hy (HSZ.out i hi) HLM.out HLQ.out (by rw [← hM, ← HGQ.out, HNX.out, hQ]))
            have s0 := RA.out 0 _ rfl _ hw0
            have s1 := RA.out 1 _ rfl _ hw0
            have s2 := RA.out 2 _ rfl _ hw0
            have hz0 : Below wo.heap.size wo wo.drew := below_drewN hw0 1
            clear hc hc' hf hf' hq hq' hQ hM
            go_wp2_with fail
            go_region_with (first | (go_at_call 78; refine (K1.out _ hz0).mono ?_; rintro en3 w3 ⟨⟨r3, rfl, f3⟩, hb3⟩; obtain ⟨a3', n3', c3', i3', j3', k3', hq3⟩ := frac_form f3; subst hq3; have hz3 := below_trans hz0 hb3; have s0 := RA.out 0 _ rfl _ hz3; have s1 := RA.out 1 _ rfl _ hz3; have s2 := RA.out 2 _ rfl _ hz3) | (go_at_call 77; refine (K2.out _ _ hz3 f3).mono ?_; rintro en4 w4 ⟨⟨r4, rfl, f4⟩, hb4⟩; obtain ⟨a4', n4', c4', i4', j4', k4', hq4⟩ := frac_form f4; subst hq4; have hz4 := below_trans hz3 hb4; have s0 := RA.out 0 _ rfl _ hz4; have s1 := RA.out 1 _ rfl _ hz4; have s2 := RA.out 2 _ rfl _ hz4; have g0 := FA.out 0 _ hz4; have g1 := FA.out 1 _ hz4; have g2 := FA.out 2 _ hz4))
            all_goals
              have HROW4 : Hid (w4.heap[Ba]? = some (.cells #[Value.bool ra, Value.slice ab an ac, Value.slice ai aj ak] 47 (0, 0))) := Lib.hid ((hz4.block _ (lt_of_block hrow.out)).trans hrow.out)
              have HON : Hid (Only Ba w4 (frac3 w4 Ba (decide (Q.num < 0)) (Value.slice a4' n4' c4') (Value.slice i4' j4' k4'))) := Lib.hid (frac3_only _ _ _ _ _)
              have HROW5 : Hid ((frac3 w4 Ba (decide (Q.num < 0)) (Value.slice a4' n4' c4') (Value.slice i4' j4' k4')).heap[Ba]? = some (.cells #[Value.bool (decide (Q.num < 0)), Value.slice a4' n4' c4', Value.slice i4' j4' k4'] 47 (0, 0))) := Lib.hid (frac_row HROW4.out)
              have HF5 : Hid (FracV (frac3 w4 Ba (decide (Q.num < 0)) (Value.slice a4' n4' c4') (Value.slice i4' j4' k4')) (.agg #[Value.bool (decide (Q.num < 0)), Value.slice a4' n4' c4', Value.slice i4' j4' k4']) (sumR g 0 (i + 1))) := Lib.hid (by rw [← HQ.out]; exact f4.other HROW4.out HON.out)
              have HZ5 := Lib.hid (below_only (below_trans hZ.out hz4) HON.out hBw1)
              go_wp2_with fail
              go_roundw
            all_goals first
              | exact ⟨i + 1, _, _, _, _, _, _, _, by omega, by go_num, HROW5, HF5, HZ5⟩
              | (simp [intOf]; omega)
          · have u3 : decide ((0 : Int) < (n3 : Int)) = false := by simp; omega
            have HSAME : Hid (sumR g 0 (i + 1) = sumR g 0 i) := Lib.hid (by
              rw [← HNX.out, HGQ.out, few_zero hf' (by omega), Rat.mul_zero, Rat.add_zero])
            clear hc hc' hf hf' hq hq'
            go_wp2_with fail
            go_roundw
            case rel => exact ⟨i + 1, _, _, _, _, _, _, _, by omega, by go_num, hrow, Lib.hid (by rw [HSAME.out]; exact hfa.out), hZ⟩
            case measure => simp [intOf]; omega
        · have u1 : decide ((0 : Int) < (n1 : Int)) = false := by simp; omega
          have HSAME : Hid (sumR g 0 (i + 1) = sumR g 0 i) := Lib.hid (by
            rw [← HNX.out, HGQ.out, few_zero hf (by omega), Rat.zero_mul, Rat.add_zero])
          clear hc hc' hf hf' hq hq'
          go_wp2_with fail
          go_roundw
          case rel => exact ⟨i + 1, _, _, _, _, _, _, _, by omega, by go_num, hrow, Lib.hid (by rw [HSAME.out]; exact hfa.out), hZ⟩
          case measure => simp [intOf]; omega
      · have t1 : decide ((i : Int) < (n' : Int)) = false := by simp; omega
        have he : i = k := HK.out.2.2.2 i hi (Or.inr hin2)
        subst he
        have HRe : Hid (wo.heap[w.heap.size]? = some (.cells #[Value.bool false, Value.slice none 0 0, Value.slice none 0 0] 47 (0, 0))) := Lib.hid ((hZ.out.block _ (lt_of_block HR.out)).trans HR.out)
        have HF9 := Lib.hid (hfa.out.other HRe.out (frac3_only _ _ ra (Value.slice ab an ac) (Value.slice ai aj ak)))
        have HB9 := Lib.hid (below_trans HB1.out hZ.out)
        have r0 := cells_later HRe.out 0 _ rfl _ (Below.refl _ _)
        have r1 := cells_later HRe.out 1 _ rfl _ (Below.refl _ _)
        have r2 := cells_later HRe.out 2 _ rfl _ (Below.refl _ _)
        have f0 := frozen_of_row _ _ 0 _ _ HRe.out
        have f1 := frozen_of_row _ _ 1 _ _ HRe.out
        have f2 := frozen_of_row _ _ 2 _ _ HRe.out
        have s0 := cells_later hrow.out 0 _ rfl _ (Below.refl _ _)
        have s1 := cells_later hrow.out 1 _ rfl _ (Below.refl _ _)
        have s2 := cells_later hrow.out 2 _ rfl _ (Below.refl _ _)
        go_wp2_with fail
        exact bodyPost_ret (results_cell_row rfl _ _ (w.heap.size) _ _ _ _ rfl (frac3_heap HRe.out) Tryz.underlying47 rfl ifrac) rfl ⟨⟨_, rfl, HF9.out⟩, below_only HB9.out (frac3_only _ _ _ _ _) (by omega)⟩
    · have t0 : decide ((i : Int) < (n : Int)) = false := by simp; omega
      have he : i = k := HK.out.2.2.2 i hi (Or.inl hin)
      subst he
      have HRe : Hid (wo.heap[w.heap.size]? = some (.cells #[Value.bool false, Value.slice none 0 0, Value.slice none 0 0] 47 (0, 0))) := Lib.hid ((hZ.out.block _ (lt_of_block HR.out)).trans HR.out)
      have HF9 := Lib.hid (hfa.out.other HRe.out (frac3_only _ _ ra (Value.slice ab an ac) (Value.slice ai aj ak)))
      have HB9 := Lib.hid (below_trans HB1.out hZ.out)
      have r0 := cells_later HRe.out 0 _ rfl _ (Below.refl _ _)
      have r1 := cells_later HRe.out 1 _ rfl _ (Below.refl _ _)
      have r2 := cells_later HRe.out 2 _ rfl _ (Below.refl _ _)
      have f0 := frozen_of_row _ _ 0 _ _ HRe.out
      have f1 := frozen_of_row _ _ 1 _ _ HRe.out
      have f2 := frozen_of_row _ _ 2 _ _ HRe.out
      have s0 := cells_later hrow.out 0 _ rfl _ (Below.refl _ _)
      have s1 := cells_later hrow.out 1 _ rfl _ (Below.refl _ _)
      have s2 := cells_later hrow.out 2 _ rfl _ (Below.refl _ _)
      go_wp2_with fail
      exact bodyPost_ret (results_cell_row rfl _ _ (w.heap.size) _ _ _ _ rfl (frac3_heap HRe.out) Tryz.underlying47 rfl ifrac) rfl ⟨⟨_, rfl, HF9.out⟩, below_only HB9.out (frac3_only _ _ _ _ _) (by omega)⟩
theorem rdot_w {N : Nat} {w : World} {v v' : Value} {qs ps : List Rat} (hl : ListF N w v qs) (hl2 : ListF N w v' ps) (hN : N ≤ 50) (hn : qs.length ≤ 20) (hn2 : ps.length ≤ 20) :
    Calls Tryz.prog 76 #[v, v'] w (RTell w (sumR (fun i => nthQ qs i * nthQ ps i) 0 (min qs.length ps.length))) :=
  rdot_wG hl hl2 hN (by omega) (by omega) (Nat.le_trans (Nat.mul_le_mul hN hn) (by omega))
end Go.Proofs.YtlaphdlocchagaaGreat
