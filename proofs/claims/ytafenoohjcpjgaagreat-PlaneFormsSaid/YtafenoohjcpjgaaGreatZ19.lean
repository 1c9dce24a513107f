/- Several texts in one: J2. -/
import Derived.Test.YtafenoohjcpjgaaGreatZ18
import Derived.Deep.DrawnRows
/- words and within, of the statements: whether a program is small. -/
namespace Go.Proofs.YtafenoohjcpjgaaGreat
open Go.RowKit
attribute [local go_sem ↓] Go.wp_at_zero Go.wp_at_succ

/-- A list's numbers, as the walk reads them. -/
theorem ListI.read {w : World} {v : Value} {a : Option Addr} {n c : Nat} (h : ListI w v a n c) {i : Nat} (hi : i < n) :
    ∃ B off b a1 n1 c1 a2 n2 c2, a = some ⟨B, off, none⟩ ∧ n1 = cellLen w a 1 i ∧ n2 = cellLen w a 2 i ∧ ∀ w', Below w.heap.size w w' → w'.cell? ⟨B, off + i * 3, none⟩ = some (.bool b) ∧ w'.cell? ⟨B, off + i * 3 + 1, none⟩ = some (.slice a1 n1 c1) ∧ w'.cell? ⟨B, off + i * 3 + 2, none⟩ = some (.slice a2 n2 c2) := by
  obtain ⟨B, off, b, a1, c1, a2, c2, ha, h0, h1, h2, -⟩ := h.cells hi
  exact ⟨B, off, b, a1, _, c1, a2, _, c2, ha, rfl, rfl, fun w' hb => ⟨cell_below hb h0, cell_below hb h1, cell_below hb h2⟩⟩

theorem ListI.below {w w' : World} {v : Value} {a : Option Addr} {n c : Nat} (h : ListI w v a n c) (hb : Below w.heap.size w w') : ListI w' v a n c := by
  refine ⟨h.1, fun i hi => ?_⟩
  obtain ⟨B, off, b, a1, n1, c1, a2, n2, c2, ha, h0, h1, h2, hF⟩ := h.2 i hi
  refine ⟨B, off, b, a1, n1, c1, a2, n2, c2, ha, cell_below hb h0, cell_below hb h1, cell_below hb h2, hF.1, fun hn => ?_, fun hn => ?_⟩
  · obtain ⟨l, hl, hw⟩ := hF.2.1 hn
    exact ⟨l, hl, hw.below hb⟩
  · obtain ⟨l, hl, hw⟩ := hF.2.2 hn
    exact ⟨l, hl, hw.below hb⟩
/-- The lengths of a list's numbers stay. -/
theorem ListI.lens {w w' : World} {v : Value} {a : Option Addr} {n c : Nat} (h : ListI w v a n c) (hb : Below w.heap.size w w') {i : Nat} (hi : i < n) : cellLen w' a 1 i = cellLen w a 1 i ∧ cellLen w' a 2 i = cellLen w a 2 i := by
  obtain ⟨B, off, b, a1, n1, c1, a2, n2, c2, rfl, h0, h1, h2, -⟩ := h.2 i hi
  have k1 := cell_below hb h1
  have k2 := cell_below hb h2
  simp only [cellLen, h1, h2, k1, k2, and_self]
theorem ListI.few_back {w w' : World} {v : Value} {a : Option Addr} {n c N : Nat} (h : ListI w v a n c) (hb : Below w.heap.size w w') (hf : fewB N n (cellLen w' a 1) (cellLen w' a 2) = true) : fewB N n (cellLen w a 1) (cellLen w a 2) = true := by
  simp only [fewB, decide_eq_true_eq] at hf ⊢
  intro i hi
  obtain ⟨e1, e2⟩ := h.lens hb hi
  rw [← e1, ← e2]
  exact hf i hi

set_option maxRecDepth 8000 in
set_option maxHeartbeats 2000000 in
theorem words_w {w : World} {v : Value} {a : Option Addr} {n c N : Nat} (hl : ListI w v a n c) (hn : n ≤ 1000) :
    Calls Tryz.prog 16 #[v, .int .i64 N] w fun e w' => (∃ bb, e = .returned (.bool bb) ∧ (bb = true → fewB N n (cellLen w a 1) (cellLen w a 2) = true)) ∧ Below w.heap.size w w' := by
  have HL := Lib.hid hl
  obtain ⟨rfl, -⟩ := hl
  go_enter Tryz.func16, Tryz.ntmps16
  go_wp2_with fail
  go_loopw [9] (fun iv wr => ∃ i : Nat, i ≤ n ∧ iv = .int .i64 i ∧ Hid (∀ x, x < i → cellLen w a 1 x ≤ N ∧ cellLen w a 2 x ≤ N) ∧ Hid (Below w.heap.size w wr)) (fun iv _ => n - (intOf iv).toNat)
  case atStart => exact ⟨0, Nat.zero_le _, rfl, Lib.hid (fun x h => absurd h (Nat.not_lt_zero x)), Lib.hid (Below.refl _ _)⟩
  case round =>
    obtain ⟨i, hi, rfl, hd, hB⟩ := hrel
    obtain ⟨wo, rfl⟩ : ∃ wo : World, wo = wr := ⟨_, rfl⟩
    by_cases hin : i < n
    · have t0 : decide ((i : Int) < (n : Int)) = true := by simp; omega
      obtain ⟨B, off, b, a1, n1, c1, a2, n2, c2, ha, e1, e2, hc⟩ := HL.out.read hin
      obtain ⟨x0, x1, x2⟩ := hc wo hB.out
      have E1 := Lib.hid e1
      have E2 := Lib.hid e2
      have HA := Lib.hid ha
      have HD' : Hid (n1 ≤ N → n2 ≤ N → ∀ x, x < i + 1 → cellLen w a 1 x ≤ N ∧ cellLen w a 2 x ≤ N) := Lib.hid (fun h1 h2 x hx => by
        by_cases e : x = i
        · subst e; rw [← E1.out, ← E2.out]; exact ⟨h1, h2⟩
        · exact hd.out x (by omega))
      clear hc e1 e2
      subst ha
      go_wp2_with ((with_reducible refine at_store ?_); refine wpList_store_var rfl _ _ _ rfl wo.heap.size rfl _ rfl _ _ (heap_alloc_new _ _) ifrac rfl frac_one ?_; intro w4 h4 hon4; refine halt ?_)
      have hb4 : Below wo.heap.size wo w4 := below_only ((Below.refl _ _).alloc (Nat.le_refl _) _) hon4 (Nat.le_refl _)
      have HB4 := Lib.hid (below_trans hB.out hb4)
      have y0 := cells_later h4 0 _ rfl _ (Below.refl _ _)
      have y1 := cells_later h4 1 _ rfl _ (Below.refl _ _)
      have y2 := cells_later h4 2 _ rfl _ (Below.refl _ _)
      clear h4 hon4 hb4 x0 x1 x2
      refine go_on ?_
      by_cases h1 : N < n1
      · have t1 : decide (N < n1) = true := by simpa using h1
        clear h1
        go_wp2_with fail
        go_ret
        exact ⟨⟨_, rfl, fun h => by cases h⟩, HB4.out⟩
      have t1 : decide (N < n1) = false := by simpa using h1
      by_cases h2 : N < n2
      · have t2 : decide (N < n2) = true := by simpa using h2
        clear h1 h2
        go_wp2_with fail
        go_ret
        exact ⟨⟨_, rfl, fun h => by cases h⟩, HB4.out⟩
      have t2 : decide (N < n2) = false := by simpa using h2
      have HD2 := Lib.hid (HD'.out (by omega) (by omega))
      clear h1 h2
      go_wp2_with fail
      go_roundw
      case rel => exact ⟨i + 1, by omega, by go_num, HD2, HB4⟩
      case measure => simp [intOf]; omega
    · have t0 : decide ((i : Int) < (n : Int)) = false := by simp; omega
      have HE : Hid (fewB N n (cellLen w a 1) (cellLen w a 2) = true) := Lib.hid (by
        unfold fewB; simp only [decide_eq_true_eq]; intro x hx; exact hd.out x (by omega))
      go_wp2_with fail
      go_ret
      exact ⟨⟨_, rfl, fun _ => HE.out⟩, hB.out⟩

theorem FracI.below {w w' : World} {v : Value} {b : Bool} {a1 : Option Addr} {n1 c1 : Nat} {a2 : Option Addr} {n2 c2 : Nat} (hF : FracI w v b a1 n1 c1 a2 n2 c2) (hb : Below w.heap.size w w') : FracI w' v b a1 n1 c1 a2 n2 c2 := by
  refine ⟨hF.1, fun hn => ?_, fun hn => ?_⟩
  · obtain ⟨l, hl, hw⟩ := hF.2.1 hn
    exact ⟨l, hl, hw.below hb⟩
  · obtain ⟨l, hl, hw⟩ := hF.2.2 hn
    exact ⟨l, hl, hw.below hb⟩
/-- A list of one. -/
theorem one_list {w : World} {g : Nat} {b : Bool} {a1 : Option Addr} {n1 c1 : Nat} {a2 : Option Addr} {n2 c2 : Nat} {t : TypeId} {fr : Nat × Nat} (hg : w.heap[g]? = some (.cells #[Value.bool b, Value.slice a1 n1 c1, Value.slice a2 n2 c2] t fr))
    (hF : FracI w (.agg #[.bool b, .slice a1 n1 c1, .slice a2 n2 c2]) b a1 n1 c1 a2 n2 c2) : ListI w (.slice (some ⟨g, 0, none⟩) 1 1) (some ⟨g, 0, none⟩) 1 1 := by
  refine ⟨rfl, fun i hi => ?_⟩
  obtain rfl : i = 0 := by omega
  exact ⟨g, 0, b, a1, n1, c1, a2, n2, c2, rfl, by rw [cell_of_row _ _ _ _ _ _ hg]; rfl, by rw [cell_of_row _ _ _ _ _ _ hg]; rfl, by rw [cell_of_row _ _ _ _ _ _ hg]; rfl, hF⟩
theorem one_few {w : World} {g N : Nat} {b : Bool} {a1 : Option Addr} {n1 c1 : Nat} {a2 : Option Addr} {n2 c2 : Nat} {t : TypeId} {fr : Nat × Nat} (hg : w.heap[g]? = some (.cells #[Value.bool b, Value.slice a1 n1 c1, Value.slice a2 n2 c2] t fr))
    (h : fewB N 1 (cellLen w (some ⟨g, 0, none⟩) 1) (cellLen w (some ⟨g, 0, none⟩) 2) = true) : n1 ≤ N ∧ n2 ≤ N := by
  simp only [fewB, decide_eq_true_eq] at h
  have h9 := h 0 (by omega)
  have e1 : w.cell? ⟨g, 0 + 0 * 3 + 1, none⟩ = some (.slice a1 n1 c1) := by rw [cell_of_row _ _ _ _ _ _ hg]; rfl
  have e2 : w.cell? ⟨g, 0 + 0 * 3 + 2, none⟩ = some (.slice a2 n2 c2) := by rw [cell_of_row _ _ _ _ _ _ hg]; rfl
  simp only [cellLen, e1, e2] at h9
  exact h9

/-- A program as it came in, boxed. -/
def ProgB (w : World) (g : Nat) (z : Int) (fa : Option Addr) (fn fc : Nat) (ga : Option Addr) (gn gc : Nat) (ra : Option Addr) (rn rc : Nat) : Prop :=
  w.heap[g]? = some (.cells #[Value.int .i64 z, Value.slice fa fn fc, Value.slice ga gn gc, Value.slice ra rn rc] 26 (0, 0))
theorem irow : (Tryz.prog.info? 45).map (·.size) = some 5 := by kernel_rfl
theorem row_one {a1 a2 a3 : Option Addr} {n1 c1 n2 c2 n3 c3 : Nat} {z : Int} {b : Bool} : ∀ v ∈ (#[Value.slice a1 n1 c1, Value.int .i64 z, Value.bool b, Value.slice a2 n2 c2, Value.slice a3 n3 c3] : Array Value).toList, v.oneCell' = true := by
  intro v hv; simp at hv; rcases hv with rfl | rfl | rfl | rfl | rfl <;> rfl

/-- A row that is small. -/
def RowOK (w : World) (N V : Nat) (ra : Option Addr) (i : Nat) : Prop := ∃ B off v0 v1 v2 v3 v4, ra = some ⟨B, off, none⟩ ∧ RowFew w N V [v0, v1, v2, v3, v4] ∧ w.cell? ⟨B, off + i * 5, none⟩ = some v0 ∧ w.cell? ⟨B, off + i * 5 + 1, none⟩ = some v1 ∧ w.cell? ⟨B, off + i * 5 + 2, none⟩ = some v2 ∧ w.cell? ⟨B, off + i * 5 + 3, none⟩ = some v3 ∧ w.cell? ⟨B, off + i * 5 + 4, none⟩ = some v4
def Small (w : World) (N V R : Nat) (z : Int) (fn : Nat) (ga : Option Addr) (gn : Nat) (ra : Option Addr) (rn : Nat) : Prop :=
  z ≤ V ∧ rn ≤ R ∧ fn ≤ V ∧ gn ≤ V ∧ fewB N gn (cellLen w ga 1) (cellLen w ga 2) = true ∧
  ∀ i, i < rn → RowOK w N V ra i

set_option maxRecDepth 8000 in
set_option maxHeartbeats 4000000 in
theorem within_w {w : World} {v : Value} {z : Int} {fa : Option Addr} {fn fc : Nat} {ga : Option Addr} {gn gc : Nat} {ra : Option Addr} {rn rc V R : Nat} (h : ProgI w v z fa fn fc ga gn gc ra rn rc) (hV : V ≤ 1000) (hR : R ≤ 1000) :
    Calls Tryz.prog 5 #[v, .int .i64 V, .int .i64 R] w fun e w' => (∃ bb, e = .returned (.bool bb) ∧ (bb = true → Small w 6 V R z fn ga gn ra rn)) ∧ Below w.heap.size w w' := by
  have HP := Lib.hid h
  obtain ⟨rfl, hz1, hz2, -⟩ := h
  obtain ⟨w1, hw1⟩ : ∃ w1, w1 = w.alloc (Obj.cells #[Value.int .i64 z, Value.slice fa fn fc, Value.slice ga gn gc, Value.slice ra rn rc] 26) := ⟨_, rfl⟩
  have HB1 : Hid (Below w.heap.size w w1) := Lib.hid (by rw [hw1]; exact (Below.refl _ _).alloc (Nat.le_refl _) _)
  have HX : Hid (ProgB w1 w.heap.size z fa fn fc ga gn gc ra rn rc) := Lib.hid (by rw [hw1]; exact heap_alloc_new w _)
  have HW1 := Lib.hid hw1.symm
  clear hw1
  have RX := Lib.hid (cells_later HX.out)
  have hb1 := Below.refl w1.heap.size w1
  have x0 := RX.out 0 _ rfl _ hb1
  have x1 := RX.out 1 _ rfl _ hb1
  have x2 := RX.out 2 _ rfl _ hb1
  have x3 := RX.out 3 _ rfl _ hb1
  by_cases h1 : (V : Int) < z
  · have t1 : decide ((V : Int) < z) = true := by simpa using h1
    clear h1
    go_enter Tryz.func5, Tryz.ntmps5
    go_wp2_with fail
    rw [HW1.out]
    go_ret
    exact ⟨⟨_, rfl, fun h => by cases h⟩, HB1.out⟩
  have t1 : decide ((V : Int) < z) = false := by simpa using h1
  by_cases h2 : R < rn
  · have t2 : decide (R < rn) = true := by simpa using h2
    clear h1 h2
    go_enter Tryz.func5, Tryz.ntmps5
    go_wp2_with fail
    rw [HW1.out]
    go_ret
    exact ⟨⟨_, rfl, fun h => by cases h⟩, HB1.out⟩
  have t2 : decide (R < rn) = false := by simpa using h2
  by_cases h3 : V < fn
  · have t3 : decide (V < fn) = true := by simpa using h3
    clear h1 h2 h3
    go_enter Tryz.func5, Tryz.ntmps5
    go_wp2_with fail
    rw [HW1.out]
    go_ret
    exact ⟨⟨_, rfl, fun h => by cases h⟩, HB1.out⟩
  have t3 : decide (V < fn) = false := by simpa using h3
  by_cases h4 : V < gn
  · have t4 : decide (V < gn) = true := by simpa using h4
    clear h1 h2 h3 h4
    go_enter Tryz.func5, Tryz.ntmps5
    go_wp2_with fail
    rw [HW1.out]
    go_ret
    exact ⟨⟨_, rfl, fun h => by cases h⟩, HB1.out⟩
  have t4 : decide (V < gn) = false := by simpa using h4
  have HLE : Hid (z ≤ V ∧ rn ≤ R ∧ fn ≤ V ∧ gn ≤ V) := Lib.hid ⟨by omega, by omega, by omega, by omega⟩
  have hrn : rn ≤ 1000 := by omega
  have KG := Lib.hid (fun w' (hb : Below w.heap.size w w') => words_w (w := w') (N := 6) (HP.out.2.2.2.2.1.below hb) (by omega))
  clear h1 h2 h3 h4
  go_enter Tryz.func5, Tryz.ntmps5
  go_wp2_with fail
  rw [HW1.out]
  refine (KG.out _ HB1.out).mono ?_
  rintro en2 w2 ⟨⟨bb2, rfl, hg2⟩, hb2⟩
  have HZ2 := Lib.hid hb2
  cases bb2 with
  | false =>
    clear hg2
    go_wp2_with fail
    go_ret
    exact ⟨⟨_, rfl, fun h => by cases h⟩, below_trans HB1.out HZ2.out⟩
  | true =>
    have HG2 := Lib.hid (hg2 rfl)
    clear hg2
    have x0 := RX.out 0 _ rfl _ HZ2.out
    have x1 := RX.out 1 _ rfl _ HZ2.out
    have x2 := RX.out 2 _ rfl _ HZ2.out
    have x3 := RX.out 3 _ rfl _ HZ2.out
    go_wp2_with fail
    go_loopw [43] (fun iv wr => ∃ i : Nat, i ≤ rn ∧ iv = .int .i64 i ∧ Hid (∀ x, x < i → RowOK w 6 V ra x) ∧ Hid (Below w1.heap.size w1 wr)) (fun iv _ => rn - (intOf iv).toNat)
    case atStart => exact ⟨0, Nat.zero_le _, rfl, Lib.hid (fun x h => absurd h (Nat.not_lt_zero x)), HZ2⟩
    case round =>
      obtain ⟨i, hi, rfl, hd, hB⟩ := hrel
      obtain ⟨wo, rfl⟩ : ∃ wo : World, wo = wr := ⟨_, rfl⟩
      by_cases hin : i < rn
      · have t0 : decide ((i : Int) < (rn : Int)) = true := by simp; omega
        obtain ⟨B, off, v0, v1, v2, v3, v4, ha, ⟨a1, n1, c1, z1, b, a2, n2, c2, a3, n3, c3, hcs, hL1, hz3, hz4, hF⟩, e0, e1, e2, e3, e4⟩ := HP.out.2.2.2.2.2 i hin
        subst ha
        simp only [List.cons.injEq, and_true] at hcs
        obtain ⟨rfl, rfl, rfl, rfl, rfl⟩ := hcs
        have HW := Lib.hid (below_trans HB1.out hB.out)
        have HOK : Hid (n1 ≤ V → fewB 6 n1 (cellLen w a1 1) (cellLen w a1 2) = true → n2 ≤ 6 → n3 ≤ 6 → ∀ x, x < i + 1 → RowOK w 6 V (some ⟨B, off, none⟩) x) := Lib.hid (fun h1 h2 h3 h4 x hx => by
          by_cases e : x = i
          · subst e
            exact ⟨B, off, _, _, _, _, _, rfl, ⟨a1, n1, c1, z1, b, a2, n2, c2, a3, n3, c3, rfl, h1, h2, h3, h4⟩, e0, e1, e2, e3, e4⟩
          · exact hd.out x (by omega))
        have f0 := cell_below HW.out e0
        have f1 := cell_below HW.out e1
        have f2 := cell_below HW.out e2
        have f3 := cell_below HW.out e3
        have f4 := cell_below HW.out e4
        have KA := Lib.hid (fun w' (hb : Below w.heap.size w w') (hn : n1 ≤ 1000) => words_w (w := w') (N := 6) (hL1.below hb) hn)
        have HL1 := Lib.hid hL1
        have HF := Lib.hid hF
        clear e0 e1 e2 e3 e4 hL1 hF hz3 hz4
        go_wp2_with ((with_reducible refine at_store ?_); refine wpList_store_var rfl _ _ _ rfl wo.heap.size rfl _ rfl _ _ (heap_alloc_new _ _) irow rfl row_one ?_; intro w4 h4 hon4; refine halt ?_)
        have hb4 : Below wo.heap.size wo w4 := below_only ((Below.refl _ _).alloc (Nat.le_refl _) _) hon4 (Nat.le_refl _)
        have HB4 := Lib.hid (below_trans hB.out hb4)
        have HW4 := Lib.hid (below_trans HW.out hb4)
        have RY := Lib.hid (cells_later h4)
        have hb5 := Below.refl w4.heap.size w4
        have y0 := RY.out 0 _ rfl _ hb5
        have y1 := RY.out 1 _ rfl _ hb5
        have y2 := RY.out 2 _ rfl _ hb5
        have y3 := RY.out 3 _ rfl _ hb5
        have y4 := RY.out 4 _ rfl _ hb5
        clear h4 hon4 hb4 f0 f1 f2 f3 f4
        refine go_on ?_
        by_cases h1 : V < n1
        · have u1 : decide (V < n1) = true := by simpa using h1
          clear h1
          go_wp2_with fail
          go_ret
          exact ⟨⟨_, rfl, fun h => by cases h⟩, below_trans HB1.out HB4.out⟩
        have u1 : decide (V < n1) = false := by simpa using h1
        have HV1 : Hid (n1 ≤ V) := Lib.hid (by omega)
        clear h1
        go_wp2_with fail
        refine (KA.out _ HW4.out (by have := HV1.out; omega)).mono ?_
        rintro en5 w5 ⟨⟨bb5, rfl, hg5⟩, hb6⟩
        have HZ5 := Lib.hid hb6
        cases bb5 with
        | false =>
          clear hg5
          go_wp2_with fail
          go_ret
          exact ⟨⟨_, rfl, fun h => by cases h⟩, below_trans HB1.out (below_trans HB4.out HZ5.out)⟩
        | true =>
          have HG5 := Lib.hid (HL1.out.few_back HW4.out (hg5 rfl))
          have y0 := RY.out 0 _ rfl _ hb6
          have y1 := RY.out 1 _ rfl _ hb6
          have y2 := RY.out 2 _ rfl _ hb6
          have y3 := RY.out 3 _ rfl _ hb6
          have y4 := RY.out 4 _ rfl _ hb6
          clear hg5 hb6
          obtain ⟨w6, hw6⟩ : ∃ w6, w6 = w5.alloc (Obj.cells #[Value.bool b, Value.slice a2 n2 c2, Value.slice a3 n3 c3] 43) := ⟨_, rfl⟩
          have HB6 : Hid (Below w5.heap.size w5 w6) := Lib.hid (by rw [hw6]; exact (Below.refl _ _).alloc (Nat.le_refl _) _)
          have HR6 : Hid (w6.heap[w5.heap.size]? = some (.cells #[Value.bool b, Value.slice a2 n2 c2, Value.slice a3 n3 c3] 43 (0, 0))) := Lib.hid (by rw [hw6]; exact heap_alloc_new w5 _)
          have HW6 := Lib.hid (below_trans HW4.out (below_trans HZ5.out HB6.out))
          have HL6 := Lib.hid (one_list HR6.out (HF.out.below HW6.out))
          have K6 := Lib.hid (words_w (N := 6) HL6.out (by omega))
          have HW6' := Lib.hid hw6.symm
          clear hw6
          go_wp2_with fail
          rw [HW6'.out]
          refine K6.out.mono ?_
          rintro en7 w7 ⟨⟨bb7, rfl, hg7⟩, hb7⟩
          have HZ7 := Lib.hid (below_trans HB4.out (below_trans HZ5.out (below_trans HB6.out hb7)))
          clear y0 y1 y2 y3 y4 hb7
          cases bb7 with
          | false =>
            clear hg7
            go_wp2_with fail
            go_ret
            exact ⟨⟨_, rfl, fun h => by cases h⟩, below_trans HB1.out HZ7.out⟩
          | true =>
            have HG7 := Lib.hid (one_few HR6.out (hg7 rfl))
            have HD := Lib.hid (HOK.out HV1.out HG5.out HG7.out.1 HG7.out.2)
            clear hg7
            go_wp2_with fail
            go_roundw
            case rel => exact ⟨i + 1, by omega, by go_num, HD, HZ7⟩
            case measure => simp [intOf]; omega
      · have t0 : decide ((i : Int) < (rn : Int)) = false := by simp; omega
        have HS : Hid (Small w 6 V R z fn ga gn ra rn) := Lib.hid ⟨HLE.out.1, HLE.out.2.1, HLE.out.2.2.1, HLE.out.2.2.2, HP.out.2.2.2.2.1.few_back HB1.out HG2.out, fun x hx => hd.out x (by omega)⟩
        go_wp2_with fail
        go_ret
        exact ⟨⟨_, rfl, fun _ => HS.out⟩, below_trans HB1.out hB.out⟩

theorem Row5.below {w w' : World} {cs : List Value} (h : Row5 w cs) (hb : Below w.heap.size w w') : Row5 w' cs := by
  obtain ⟨a1, n1, c1, z, b, a2, n2, c2, a3, n3, c3, e, hL, h1, h2, hF⟩ := h
  exact ⟨a1, n1, c1, z, b, a2, n2, c2, a3, n3, c3, e, hL.below hb, h1, h2, hF.below hb⟩
theorem ProgI.below {w w' : World} {v : Value} {z : Int} {fa : Option Addr} {fn fc : Nat} {ga : Option Addr} {gn gc : Nat} {ra : Option Addr} {rn rc : Nat} (h : ProgI w v z fa fn fc ga gn gc ra rn rc) (hb : Below w.heap.size w w') : ProgI w' v z fa fn fc ga gn gc ra rn rc := by
  obtain ⟨rfl, h1, h2, hB, hL, hR⟩ := h
  refine ⟨rfl, h1, h2, fun i hi => ?_, hL.below hb, fun i hi => ?_⟩
  · obtain ⟨B, off, b, ha, hc⟩ := hB i hi
    exact ⟨B, off, b, ha, cell_below hb hc⟩
  · obtain ⟨B, off, v0, v1, v2, v3, v4, ha, h5, e0, e1, e2, e3, e4⟩ := hR i hi
    exact ⟨B, off, v0, v1, v2, v3, v4, ha, h5.below hb, cell_below hb e0, cell_below hb e1, cell_below hb e2, cell_below hb e3, cell_below hb e4⟩
/-- What is small later was small ahead. -/
theorem Small.back {w w' : World} {v : Value} {z : Int} {fa : Option Addr} {fn fc : Nat} {ga : Option Addr} {gn gc : Nat} {ra : Option Addr} {rn rc N V R : Nat} (h : Small w' N V R z fn ga gn ra rn) (hP : ProgI w v z fa fn fc ga gn gc ra rn rc) (hb : Below w.heap.size w w') : Small w N V R z fn ga gn ra rn := by
  obtain ⟨rfl, -, -, -, hL, hR⟩ := hP
  obtain ⟨h1, h2, h3, h4, h5, h6⟩ := h
  refine ⟨h1, h2, h3, h4, hL.few_back hb h5, fun i hi => ?_⟩
  obtain ⟨B, off, u0, u1, u2, u3, u4, ha, ⟨a1, n1, c1, z1, b, a2, n2, c2, a3, n3, c3, hcs, hV, hW, hn2, hn3⟩, f0, f1, f2, f3, f4⟩ := h6 i hi
  obtain ⟨B', off', v0, v1, v2, v3, v4, ha', ⟨a1', n1', c1', z1', b', a2', n2', c2', a3', n3', c3', hcs', hL1, -, -, -⟩, e0, e1, e2, e3, e4⟩ := hR i hi
  rw [ha] at ha'
  simp only [Option.some.injEq, Addr.mk.injEq, and_true] at ha'
  obtain ⟨rfl, rfl⟩ := ha'
  have g0 := cell_below hb e0
  have g1 := cell_below hb e1
  have g2 := cell_below hb e2
  have g3 := cell_below hb e3
  have g4 := cell_below hb e4
  rw [g0] at f0
  rw [g1] at f1
  rw [g2] at f2
  rw [g3] at f3
  rw [g4] at f4
  simp only [Option.some.injEq] at f0 f1 f2 f3 f4
  subst f0 f1 f2 f3 f4
  simp only [List.cons.injEq, and_true] at hcs hcs'
  obtain ⟨rfl, rfl, rfl, rfl, rfl⟩ := hcs
  simp only [Value.slice.injEq] at hcs'
  obtain ⟨⟨rfl, rfl, rfl⟩, -⟩ := hcs'
  exact ⟨B, off, _, _, _, _, _, ha, ⟨a1, n1, c1, z1, b, a2, n2, c2, a3, n3, c3, rfl, hV, hL1.few_back hb hW, hn2, hn3⟩, e0, e1, e2, e3, e4⟩
end Go.Proofs.YtafenoohjcpjgaaGreat
