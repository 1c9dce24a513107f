/- Several texts in one: D0, D1, D2. -/
import Derived.Test.YtimbojhmjadgkaaZ32
import Derived.Deep.DrawnRows
/- Tickets: how often each outcome is drawn; and what whole parts of a whole stand for. -/
namespace Go.Proofs.Ytimbojhmjadgkaa
open Go.RowKit

theorem FracV.few {N : Nat} {w : World} {v : Value} {q : Rat} (h : FracV w v q) (h1 : (digs q.num.natAbs).length ≤ N) (h2 : (digs q.den).length ≤ N) (hl : lenQ q ≤ 4096) : FewF N w v q := by
  obtain ⟨u, d, rfl, hu, hd⟩ := h
  exact ⟨_, _, _, ⟨_, _, rfl, hu, hd⟩, (fix_digs hl).symm, h1, h2⟩

/-- The sum of the first parts. -/
def preN (l : List Nat) : Nat → Nat
  | 0 => 0
  | i + 1 => preN l i + (l[i]?).getD 0
theorem pre_mono (l : List Nat) {i : Nat} : ∀ {j : Nat}, i ≤ j → preN l i ≤ preN l j
  | 0, h => by
    have : i = 0 := by omega
    subst this; exact Nat.le_refl _
  | j + 1, h => by
    rcases Nat.eq_or_lt_of_le h with e | e
    · subst e; exact Nat.le_refl _
    · exact Nat.le_trans (pre_mono l (by omega)) (Nat.le_add_right _ _)
/-- How many of the first k tickets draw a place. -/
def cntN (l : List Nat) (k j : Nat) : Nat := min k (preN l (j + 1)) - min k (preN l j)
theorem cnt_zero (l : List Nat) (j : Nat) : cntN l 0 j = 0 := by unfold cntN; omega
theorem cnt_same {l : List Nat} {k o : Nat} (h1 : preN l o ≤ k) (h2 : k < preN l (o + 1)) : cntN l (k + 1) o = cntN l k o + 1 := by
  unfold cntN; omega
theorem cnt_other {l : List Nat} {k o : Nat} (h1 : preN l o ≤ k) (h2 : k < preN l (o + 1)) {j : Nat} (hj : j ≠ o) : cntN l (k + 1) j = cntN l k j := by
  unfold cntN
  rcases Nat.lt_or_ge j o with h | h
  · have a := pre_mono l (show j + 1 ≤ o by omega)
    have b := pre_mono l (show j ≤ j + 1 by omega)
    omega
  · have a := pre_mono l (show o + 1 ≤ j by omega)
    have b := pre_mono l (show j ≤ j + 1 by omega)
    omega
theorem cnt_end {l : List Nat} {n j : Nat} (h : preN l (j + 1) ≤ n) : cntN l n j = (l[j]?).getD 0 := by
  unfold cntN
  have e : preN l (j + 1) = preN l j + (l[j]?).getD 0 := rfl
  omega
theorem cnt_le {l : List Nat} {k j : Nat} : cntN l k j ≤ k := by unfold cntN; omega

/-- Parts of n. -/
def partQ (n x : Nat) : Rat := makeQ (x : Int) (n : Int)
theorem part_eq {n x : Nat} (hn : 0 < n) : partQ n x = ((x : Int) : Rat) * ((n : Int) : Rat)⁻¹ := makeQ_eq _ _ (by omega)
theorem inv_pos {n : Nat} (hn : 0 < n) : (0 : Rat) < ((n : Int) : Rat)⁻¹ := by
  have h : (0 : Rat) < ((n : Int) : Rat) := by
    have h9 : ((0 : Int) : Rat) < ((n : Int) : Rat) := Rat.intCast_lt_intCast.2 (by omega)
    simpa using h9
  exact Rat.inv_pos.2 h
theorem part_sum {n : Nat} {l : List Nat} (hn : 0 < n) : ∀ i, i ≤ l.length → sumR (nthQ (l.map (partQ n))) 0 i = ((preN l i : Int) : Rat) * ((n : Int) : Rat)⁻¹
  | 0, _ => by
    show (0 : Rat) = ((0 : Int) : Rat) * _
    simp
  | i + 1, h => by
    show sumR (nthQ (l.map (partQ n))) 0 i + nthQ (l.map (partQ n)) (0 + i) = _
    rw [part_sum hn i (by omega), Nat.zero_add]
    have hi : i < l.length := by omega
    have e : nthQ (l.map (partQ n)) i = ((l[i] : Int) : Rat) * ((n : Int) : Rat)⁻¹ := by
      rw [← part_eq hn]
      unfold nthQ
      rw [List.getElem?_map, List.getElem?_eq_getElem hi]
      rfl
    have e2 : preN l (i + 1) = preN l i + l[i] := by
      show preN l i + (l[i]?).getD 0 = _
      rw [List.getElem?_eq_getElem hi]; rfl
    rw [e, e2, ← Rat.add_mul]
    congr 1
    rw [← Rat.intCast_add]
    congr 1
theorem cmp_nats (a b : Nat) : (0 < cmpQ ((a : Int) : Rat) ((b : Int) : Rat)) ↔ b < a := by
  have h1 : ((a : Int) : Rat) < ((b : Int) : Rat) ↔ (a : Int) < (b : Int) := Rat.intCast_lt_intCast
  have h2 : ((a : Int) : Rat) = ((b : Int) : Rat) ↔ (a : Int) = (b : Int) := Rat.intCast_inj
  unfold cmpQ
  by_cases k1 : (a : Int) < (b : Int)
  · rw [if_pos (h1.2 k1)]; omega
  · rw [if_neg (fun h => k1 (h1.1 h))]
    by_cases k2 : (a : Int) = (b : Int)
    · rw [if_pos (h2.2 k2)]; omega
    · rw [if_neg (fun h => k2 (h2.1 h))]; omega
theorem cmp_nats_low (x : Nat) : ¬ cmpQ ((x : Int) : Rat) ((0 : Int) : Rat) < 0 := by
  have h1 : ((x : Int) : Rat) < ((0 : Int) : Rat) ↔ (x : Int) < (0 : Int) := Rat.intCast_lt_intCast
  unfold cmpQ
  rw [if_neg (fun h => by have := h1.1 h; omega)]
  split <;> omega
theorem cmp_parts {n a b : Nat} (hn : 0 < n) : (0 < cmpQ (((a : Int) : Rat) * ((n : Int) : Rat)⁻¹) (((b : Int) : Rat) * ((n : Int) : Rat)⁻¹)) ↔ b < a := by
  rw [cmpQ_mul_pos _ _ _ (inv_pos hn)]
  exact cmp_nats a b
theorem part_low {n x : Nat} (hn : 0 < n) : ¬ cmpQ (partQ n x) 0 < 0 := by
  have e0 : (0 : Rat) = ((0 : Int) : Rat) * ((n : Int) : Rat)⁻¹ := by simp
  rw [part_eq hn, e0, cmpQ_mul_pos _ _ _ (inv_pos hn)]
  exact cmp_nats_low x
theorem part_whole {n : Nat} (hn : 0 < n) : ((n : Int) : Rat) * ((n : Int) : Rat)⁻¹ = 1 := by
  refine Rat.mul_inv_cancel _ fun h => ?_
  have : ((n : Int) : Rat) = ((0 : Int) : Rat) := by simpa using h
  rw [Rat.intCast_inj] at this
  omega
theorem part_high {n x : Nat} (hn : 0 < n) (hx : x < n) : cmpQ (partQ n x) 1 < 0 := by
  rw [part_eq hn, ← part_whole hn, cmpQ_mul_pos _ _ _ (inv_pos hn)]
  unfold cmpQ
  have h9 : ((x : Int) : Rat) < ((n : Int) : Rat) := Rat.intCast_lt_intCast.2 (by omega)
  rw [if_pos h9]
  omega
theorem part_small {n x : Nat} (hn : 0 < n) (hn2 : n ≤ 200) (hx : x ≤ n) : (digs (partQ n x).num.natAbs).length ≤ 1 ∧ (digs (partQ n x).den).length ≤ 1 := by
  have h := mk_le (z := if (decide ((x : Int) < 0) != decide ((n : Int) < 0)) = true then -((x : Int).natAbs : Int) else ((x : Int).natAbs : Int)) (y := (n : Int).natAbs) (by omega)
  have e : partQ n x = mkRat (if (decide ((x : Int) < 0) != decide ((n : Int) < 0)) = true then -((x : Int).natAbs : Int) else ((x : Int).natAbs : Int)) (n : Int).natAbs := rfl
  rw [← e] at h
  have h1 : (if (decide ((x : Int) < 0) != decide ((n : Int) < 0)) = true then -((x : Int).natAbs : Int) else ((x : Int).natAbs : Int)).natAbs ≤ 200 := by split <;> omega
  refine ⟨len_digs_le.2 ?_, len_digs_le.2 ?_⟩
  · rw [Nat.pow_one]; omega
  · rw [Nat.pow_one]; omega
theorem part_len {n x : Nat} (hn : 0 < n) (hn2 : n ≤ 200) (hx : x ≤ n) : lenQ (partQ n x) ≤ 4096 := by
  have := part_small hn hn2 hx
  unfold lenQ; omega

/-- Numbers of a block that is all numbers. -/
def In (n : Nat) : Value := .int .i64 (n : Int)
theorem ii64 : (Try.prog.info? 3).map (fun i => (i.zero, i.size, i.bytes)) = some (some (.int .i64 0), 1, 8) := by kernel_rfl
def BlkI (w : World) (B : Nat) (e : TypeId) (l : List Nat) : Prop := w.heap[B]? = some (.cells (l.map In).toArray e (0, 0))
theorem BlkI.cell {w : World} {B : Nat} {e : TypeId} {l : List Nat} (h : BlkI w B e l) (j : Nat) (hj : j < l.length) : w.cell? ⟨B, j, none⟩ = some (.int .i64 (nth l j : Nat)) := by
  have h' : w.heap[B]? = some (.cells (l.map In).toArray e (0, 0)) := h
  simp [World.cell?, h', In, nth, List.getD_eq_getElem?_getD, List.getElem?_eq_getElem hj]
theorem BlkI.free {w : World} {B : Nat} {e : TypeId} {l : List Nat} (h : BlkI w B e l) (j : Nat) : w.frozen? ⟨B, j, none⟩ = false := by
  have h' : w.heap[B]? = some (.cells (l.map In).toArray e (0, 0)) := h
  simp [World.frozen?, h']
theorem BlkI.setCell {w : World} {B : Nat} {e : TypeId} {l : List Nat} (h : BlkI w B e l) (k x : Nat) (v : Value) (hv : v = In x) : BlkI (w.setCell ⟨B, k, none⟩ v) B e (l.set k x) := by
  have h' : w.heap[B]? = some (.cells (l.map In).toArray e (0, 0)) := h
  subst hv
  simp [BlkI, World.setCell, Array.getElem?_modify, h', List.map_set]
theorem wpList_make_nums {P : Program} {w : World} {ops : Array Oper} {rest : List Oper} {o : Oper} {a : Act} {Q : Exit → Act → World → Prop}
    (hg : o.guard = none) (l c : Operand) (t e : TypeId) (hop : o.op = Op.makeSlice t l c) (h1 : P.underlying t = some (.slice e))
    (h2 : (P.info? e).map (fun i => (i.zero, i.size, i.bytes)) = some (some (.int .i64 0), 1, 8)) (n : Nat) (hl : a.eval l = .int .i64 n) (hc : a.eval c = .int .i64 n) (hn : n ≤ 1073741824)
    (hK : ∀ w', BlkI w' w.heap.size e (List.replicate n 0) → Below w.heap.size w w' → Hid (w'.heap.size = w.heap.size + 1) → wpList P ops Q rest (a.put o.dst (.slice (some ⟨w.heap.size, 0, none⟩) n n)) w') :
    wpList P ops Q (o :: rest) a w := by
  obtain ⟨i, hi, hz, hs, hb⟩ := info_parts h2
  refine wpList_plain hg fun K hK' => ?_
  have hr := run_make (P := P) w t e i _ h1 hi hz .i64 .i64 n n (by omega) (Int.le_refl _) (by rw [hb]; omega) (by omega)
  simp only [Int.toNat_natCast, hs, Value.cells, madeCells_one, Nat.mul_one] at hr
  unfold Oper.wp
  simp [execOp, hop, hl, hc, hr, Result.andThen]
  refine hK' _ _ (hK _ ?_ ((Below.refl _ _).alloc (Nat.le_refl _) _) (Lib.hid (by simp)))
  show (w.heap.push _)[w.heap.size]? = _
  simp [In]
end Go.Proofs.Ytimbojhmjadgkaa

/- The small functions of a draw. -/
namespace Go.Proofs.Ytimbojhmjadgkaa
open Go.RowKit
attribute [local go_sem ↓] Go.wp_at_zero Go.wp_at_succ

theorem nofix : fixR false [] [] = 0 := by unfold fixR; rw [rightB_nil rfl]; rfl

set_option maxRecDepth 8000 in
set_option maxHeartbeats 2000000 in
theorem zero_d {w : World} : Calls Try.prog 16 #[] w (RTell w 0) := by
  obtain ⟨w1, hw1⟩ : ∃ w1, w1 = w.alloc (Obj.cells #[Value.bool false, Value.slice none 0 0, Value.slice none 0 0] 26) := ⟨_, rfl⟩
  have HB1 : Hid (Below w.heap.size w w1) := Lib.hid (by rw [hw1]; exact (Below.refl _ _).alloc (Nat.le_refl _) _)
  have HR1 : Hid (w1.heap[w.heap.size]? = some (.cells #[Value.bool false, Value.slice none 0 0, Value.slice none 0 0] 26 (0, 0))) := Lib.hid (by rw [hw1]; exact heap_alloc_new w _)
  have HW1 := Lib.hid hw1.symm
  clear hw1
  have KF : Hid (∀ w', Calls Try.prog 31 #[.agg #[Value.bool false, Value.slice none 0 0, Value.slice none 0 0]] w' (TellPost w' 0)) := Lib.hid (fun w' => by
    rw [← nofix]; exact fix_w ⟨_, _, rfl, IsW.nil w', IsW.nil w'⟩)
  go_enter Try.func16, Try.ntmps16
  go_wp2_with fail
  rw [HW1.out]
  refine (KF.out _).mono ?_
  rintro en2 w2 ⟨⟨v2, rfl, f2, -⟩, hb2⟩
  obtain ⟨a2, n2, c2, i2, j2, k2, hq2⟩ := frac_form f2
  subst hq2
  have HR2 : Hid (w2.heap[w.heap.size]? = some (.cells #[Value.bool false, Value.slice none 0 0, Value.slice none 0 0] 26 (0, 0))) := Lib.hid ((hb2.block _ (lt_of_block HR1.out)).trans HR1.out)
  have HB2 := Lib.hid (below_trans HB1.out hb2)
  have HF2 := Lib.hid (f2.other HR2.out (frac3_only _ _ (decide ((0 : Rat).num < 0)) (Value.slice a2 n2 c2) (Value.slice i2 j2 k2)))
  have r0 := cells_later HR2.out 0 _ rfl _ (Below.refl _ _)
  have r1 := cells_later HR2.out 1 _ rfl _ (Below.refl _ _)
  have r2 := cells_later HR2.out 2 _ rfl _ (Below.refl _ _)
  have g0 := frozen_of_row _ _ 0 _ _ HR2.out
  have g1 := frozen_of_row _ _ 1 _ _ HR2.out
  have g2 := frozen_of_row _ _ 2 _ _ HR2.out
  clear f2 hb2
  go_wp2_with fail
  exact bodyPost_ret (results_cell_row rfl _ _ w.heap.size _ _ _ _ rfl (frac3_heap HR2.out) Try.underlying26 rfl ifrac) rfl ⟨⟨_, rfl, HF2.out⟩, below_only HB2.out (frac3_only _ _ _ _ _) (by omega)⟩

set_option maxRecDepth 8000 in
set_option maxHeartbeats 2000000 in
theorem one_d {w : World} : Calls Try.prog 15 #[] w (RTell w 1) := by
  obtain ⟨w1, hw1⟩ : ∃ w1, w1 = w.alloc (Obj.cells #[Value.bool false, Value.slice none 0 0, Value.slice none 0 0] 26) := ⟨_, rfl⟩
  have HB1 : Hid (Below w.heap.size w w1) := Lib.hid (by rw [hw1]; exact (Below.refl _ _).alloc (Nat.le_refl _) _)
  have HR1 : Hid (w1.heap[w.heap.size]? = some (.cells #[Value.bool false, Value.slice none 0 0, Value.slice none 0 0] 26 (0, 0))) := Lib.hid (by rw [hw1]; exact heap_alloc_new w _)
  have HW1 := Lib.hid hw1.symm
  clear hw1
  have KM := Lib.hid (fun w' => make_one (w := w'))
  obtain ⟨Q, hQ⟩ : ∃ Q, Q = (1 : Rat) := ⟨_, rfl⟩
  rw [← hQ] at KM ⊢
  clear hQ
  go_enter Try.func15, Try.ntmps15
  go_wp2_with fail
  rw [HW1.out]
  refine (KM.out _).mono ?_
  rintro en2 w2 ⟨⟨v2, rfl, f2, -⟩, hb2⟩
  obtain ⟨a2, n2, c2, i2, j2, k2, hq2⟩ := frac_form f2
  subst hq2
  have HF2 := Lib.hid f2
  clear f2
  go_wp2_with ((with_reducible refine at_store ?_); refine wpList_store_var rfl _ _ _ rfl w2.heap.size rfl _ rfl _ _ (heap_alloc_new _ _) ifrac rfl frac_one ?_; intro w3 h3 hon3; refine halt ?_)
  have hb3 : Below w2.heap.size w2 w3 := below_only ((Below.refl _ _).alloc (Nat.le_refl _) _) hon3 (Nat.le_refl _)
  have hz3 := below_trans hb2 hb3
  have HR3 : Hid (w3.heap[w.heap.size]? = some (.cells #[Value.bool false, Value.slice none 0 0, Value.slice none 0 0] 26 (0, 0))) := Lib.hid ((hz3.block _ (lt_of_block HR1.out)).trans HR1.out)
  have HB3 := Lib.hid (below_trans HB1.out hz3)
  have HF3 := Lib.hid ((HF2.out.below hb3).other HR3.out (frac3_only _ _ (decide (Q.num < 0)) (Value.slice a2 n2 c2) (Value.slice i2 j2 k2)))
  have RR := Lib.hid (cells_later h3)
  have s0 := RR.out 0 _ rfl _ (Below.refl _ _)
  have s1 := RR.out 1 _ rfl _ (Below.refl _ _)
  have s2 := RR.out 2 _ rfl _ (Below.refl _ _)
  have r0 := cells_later HR3.out 0 _ rfl _ (Below.refl _ _)
  have r1 := cells_later HR3.out 1 _ rfl _ (Below.refl _ _)
  have r2 := cells_later HR3.out 2 _ rfl _ (Below.refl _ _)
  have g0 := frozen_of_row _ _ 0 _ _ HR3.out
  have g1 := frozen_of_row _ _ 1 _ _ HR3.out
  have g2 := frozen_of_row _ _ 2 _ _ HR3.out
  clear h3 hon3 hb3 hb2 hz3
  refine go_on ?_
  go_wp2_with fail
  exact bodyPost_ret (results_cell_row rfl _ _ w.heap.size _ _ _ _ rfl (frac3_heap HR3.out) Try.underlying26 rfl ifrac) rfl ⟨⟨_, rfl, HF3.out⟩, below_only HB3.out (frac3_only _ _ _ _ _) (by omega)⟩

/-- A number that is not below 0. -/
theorem below_d {w : World} {x : Value} {P : Rat} (hx : InF w x P) (hP : ¬ cmpQ P 0 < 0) :
    Calls Try.prog 9 #[x] w fun e w' => e = .returned (.bool false) ∧ Below w.heap.size w w' := by
  have HV := Lib.hid hx
  obtain ⟨b, l, m, ⟨u, d, rfl, hu, hd⟩, -⟩ := hx
  obtain ⟨ua, un, uc, hue⟩ := hu.form
  subst hue
  obtain ⟨da, dn, dc, hde⟩ := hd.form
  subst hde
  clear hu hd
  obtain ⟨w1, hw1⟩ : ∃ w1, w1 = w.alloc (Obj.cells #[Value.bool b, Value.slice ua un uc, Value.slice da dn dc] 26) := ⟨_, rfl⟩
  have HB1 : Hid (Below w.heap.size w w1) := Lib.hid (by rw [hw1]; exact (Below.refl _ _).alloc (Nat.le_refl _) _)
  have HX : Hid (w1.heap[w.heap.size]? = some (.cells #[Value.bool b, Value.slice ua un uc, Value.slice da dn dc] 26 (0, 0))) := Lib.hid (by rw [hw1]; exact heap_alloc_new w _)
  have HW1 := Lib.hid hw1.symm
  clear hw1
  obtain ⟨sg, hsg⟩ : ∃ sg, sg = cmpQ P 0 := ⟨_, rfl⟩
  have K1 := Lib.hid (sign_f (HV.out.below HB1.out))
  rw [← hsg] at K1 hP
  clear hsg
  have t0 : decide (sg < 0) = false := by simp; omega
  have RX := Lib.hid (cells_later HX.out)
  have hz1 := Below.refl w1.heap.size w1
  have x0 := RX.out 0 _ rfl _ hz1
  have x1 := RX.out 1 _ rfl _ hz1
  have x2 := RX.out 2 _ rfl _ hz1
  clear hP
  go_enter Try.func9, Try.ntmps9
  go_wp2_with fail
  rw [HW1.out]
  refine K1.out.mono ?_
  rintro en2 w2 ⟨rfl, hb2⟩
  go_wp2_with fail
  go_ret
  exact ⟨rfl, below_trans HB1.out hb2⟩
end Go.Proofs.Ytimbojhmjadgkaa

/- Searching a list for a number below 0; is it 1? -/
namespace Go.Proofs.Ytimbojhmjadgkaa
open Go.RowKit
attribute [local go_sem ↓] Go.wp_at_zero Go.wp_at_succ

set_option maxRecDepth 8000 in
set_option maxHeartbeats 2000000 in
theorem isOne_d {w : World} {x : Value} {P : Rat} {t : Bool} (hx : InF w x P) (ht : decide (cmpQ P 1 = 0) = t) :
    Calls Try.prog 12 #[x] w fun e w' => e = .returned (.bool t) ∧ Below w.heap.size w w' := by
  have HV := Lib.hid hx
  obtain ⟨b, l, m, ⟨u, d, rfl, hu, hd⟩, -⟩ := hx
  obtain ⟨ua, un, uc, hue⟩ := hu.form
  subst hue
  obtain ⟨da, dn, dc, hde⟩ := hd.form
  subst hde
  clear hu hd
  obtain ⟨w1, hw1⟩ : ∃ w1, w1 = w.alloc (Obj.cells #[Value.bool b, Value.slice ua un uc, Value.slice da dn dc] 26) := ⟨_, rfl⟩
  have HB1 : Hid (Below w.heap.size w w1) := Lib.hid (by rw [hw1]; exact (Below.refl _ _).alloc (Nat.le_refl _) _)
  have HX : Hid (w1.heap[w.heap.size]? = some (.cells #[Value.bool b, Value.slice ua un uc, Value.slice da dn dc] 26 (0, 0))) := Lib.hid (by rw [hw1]; exact heap_alloc_new w _)
  have HW1 := Lib.hid hw1.symm
  clear hw1
  obtain ⟨Q, hQ⟩ : ∃ Q, Q = (1 : Rat) := ⟨_, rfl⟩
  obtain ⟨sg, hsg⟩ : ∃ sg, sg = cmpQ P 1 := ⟨_, rfl⟩
  have K1 := Lib.hid (fun w' => one_d (w := w'))
  have K2 := Lib.hid (fun w' (hb : Below w1.heap.size w1 w') y (hy : FracV w' y 1) => cmp_f (w := w') (HV.out.below (below_trans HB1.out hb)) (hy.inF (by rw [len_one]; omega)))
  rw [← hsg] at K2
  rw [← hQ] at K1 K2
  have t0 : (sg == 0) = t := by rw [← ht, hsg]; by_cases h : cmpQ P 1 = 0 <;> simp [h]
  have RX := Lib.hid (cells_later HX.out)
  have hz1 := Below.refl w1.heap.size w1
  have x0 := RX.out 0 _ rfl _ hz1
  have x1 := RX.out 1 _ rfl _ hz1
  have x2 := RX.out 2 _ rfl _ hz1
  clear hsg hQ ht
  go_enter Try.func12, Try.ntmps12
  go_wp2_with fail
  rw [HW1.out]
  have hz0 : Below w1.heap.size w1 w1.drew := below_drewN hz1 1
  go_region_held3 (fun w' => w'.cell? ⟨w.heap.size, 0, none⟩ = some (.bool b) ∧ w'.cell? ⟨w.heap.size, 1, none⟩ = some (.slice ua un uc) ∧ w'.cell? ⟨w.heap.size, 2, none⟩ = some (.slice da dn dc))
    (((try dsimp only); refine ⟨?_, ?_, ?_⟩ <;> (first | exact RX.out 0 _ rfl _ (by assumption) | exact RX.out 1 _ rfl _ (by assumption) | exact RX.out 2 _ rfl _ (by assumption))))
    (first | (go_at_call 15; refine (K1.out _).mono ?_; rintro en2 w2 ⟨⟨r2, rfl, f2⟩, hb2⟩; obtain ⟨a2, n2, c2, i2, j2, k2, hq2⟩ := frac_form f2; subst hq2; have hz2 := below_trans hz0 hb2) | (go_at_call 14; refine (K2.out _ hz2 _ f2).mono ?_; rintro en3 w3 ⟨rfl, hb3⟩; have hz3 := below_trans hz2 hb3))
  all_goals
    have HZ3 := Lib.hid hz3
    go_wp2_with fail
    go_ret
    exact ⟨rfl, below_trans HB1.out HZ3.out⟩

set_option maxRecDepth 8000 in
set_option maxHeartbeats 4000000 in
theorem index_d {N : Nat} {w : World} {v : Value} {qs : List Rat} (hl : ListF N w v qs) (hn : qs.length ≤ 100) (hq : ∀ i, i < qs.length → ¬ cmpQ (nthQ qs i) 0 < 0) :
    Calls Try.prog 25 #[v, .func (.func 9) #[] #[]] w fun e w' => e = .returned (.int .i64 (-1)) ∧ Below w.heap.size w w' := by
  obtain ⟨a, c, rfl, -⟩ := id hl
  obtain ⟨n, hnn⟩ : ∃ n, n = qs.length := ⟨_, rfl⟩
  rw [← hnn] at hl hn hq ⊢
  have HL := Lib.hid hl
  have HQ := Lib.hid hq
  clear hl hnn hq
  go_enter Try.func25, Try.ntmps25
  go_wp2_with fail
  go_loopw [8] (fun iv wr => ∃ i : Nat, i ≤ n ∧ iv = .int .i64 i ∧ Hid (Below w.heap.size w wr)) (fun iv _ => n - (intOf iv).toNat)
  case atStart => exact ⟨0, Nat.zero_le _, rfl, Lib.hid (Below.refl _ _)⟩
  case round =>
    obtain ⟨i, hi, rfl, hB⟩ := hrel
    obtain ⟨wo, rfl⟩ : ∃ wo : World, wo = wr := ⟨_, rfl⟩
    by_cases hin : i < n
    · have t0 : decide ((i : Int) < (n : Int)) = true := by simp; omega
      obtain ⟨q, B, off, b, a1, n1, c1, a2, n2, c2, hq, ha, hc, hf⟩ := HL.out.at hin
      subst ha
      obtain ⟨x0, x1, x2⟩ := hc wo hB.out
      have K := Lib.hid (below_d (hf.inF.below hB.out) (by rw [← nthQ_of hq]; have := HQ.out i hin; omega))
      clear hc hf hq
      go_wp2_with fail
      refine K.out.mono ?_
      rintro en2 w2 ⟨rfl, hb2⟩
      have HB2 := Lib.hid (below_trans hB.out hb2)
      go_wp2_with fail
      go_roundw
      case rel => exact ⟨i + 1, by omega, by go_num, HB2⟩
      case measure => simp [intOf]; omega
    · have t0 : decide ((i : Int) < (n : Int)) = false := by simp; omega
      go_wp2_with fail
      go_ret
      exact ⟨rfl, hB.out⟩

set_option maxHeartbeats 1000000 in
theorem contains_d {N : Nat} {w : World} {v : Value} {qs : List Rat} (hl : ListF N w v qs) (hn : qs.length ≤ 100) (hq : ∀ i, i < qs.length → ¬ cmpQ (nthQ qs i) 0 < 0) :
    Calls Try.prog 11 #[v, .func (.func 9) #[] #[]] w fun e w' => e = .returned (.bool false) ∧ Below w.heap.size w w' := by
  have K := Lib.hid (index_d hl hn hq)
  obtain ⟨a, c, rfl, -⟩ := hl
  clear hq
  go_enter Try.func11, Try.ntmps11
  go_wp2_with fail
  refine K.out.mono ?_
  rintro en2 w2 ⟨rfl, hb2⟩
  go_wp2_with fail
  go_ret
  exact ⟨rfl, hb2⟩
end Go.Proofs.Ytimbojhmjadgkaa
