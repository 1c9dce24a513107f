/- Several texts in one: Y9, Yp, Yn, Yq. -/
import Derived.Test.YtafenoohjcpjgaaGreatZ26
import Derived.Deep.RegionHeld3
import Derived.Deep.DrawnRows
import Derived.Test.YtafenoohjcpjgaaGreatZ22
/- Whole numbers as fractions. -/
namespace Go.Proofs.YtafenoohjcpjgaaGreat
open Go.RowKit
attribute [local go_sem ↓] Go.wp_at_zero Go.wp_at_succ

set_option maxRecDepth 8000 in
set_option maxHeartbeats 2000000 in
theorem wholeN_w {w : World} {n : Int} {q : Rat} (hm : makeQ n 1 = q) (h1 : -9223372036854775808 ≤ n) (h2 : n ≤ 9223372036854775807) : Calls Tryz.prog 65 #[.int .i64 n] w (RTell w q) := by
  obtain ⟨w1, hw1⟩ : ∃ w1, w1 = w.alloc (Obj.cells #[Value.bool false, Value.slice none 0 0, Value.slice none 0 0] 43) := ⟨_, rfl⟩
  have HB1 : Hid (Below w.heap.size w w1) := Lib.hid (by rw [hw1]; exact (Below.refl _ _).alloc (Nat.le_refl _) _)
  have HR1 : Hid (w1.heap[w.heap.size]? = some (.cells #[Value.bool false, Value.slice none 0 0, Value.slice none 0 0] 43 (0, 0))) := Lib.hid (by rw [hw1]; exact heap_alloc_new w _)
  have HW1 := Lib.hid hw1.symm
  clear hw1
  have KM : Hid (∀ w', Calls Tryz.prog 93 #[.int .i64 n, .int .i64 1] w' fun e w'' => (∃ r, e = .returned (.tuple #[r, .int .i64 0]) ∧ FracV w'' r q) ∧ Below w'.heap.size w' w'') := Lib.hid (fun w' => by
    have h9 := rmake_w (w := w') n 1 h1 h2 (by decide) (by decide)
    have e9 : zerB ((1 : Int).natAbs) = false := zerB_false (by decide)
    rw [e9, hm] at h9
    exact h9.mono fun e w' h => ⟨by simpa using h.1, h.2⟩)
  obtain ⟨Q, hQ⟩ : ∃ Q, Q = q := ⟨_, rfl⟩
  rw [← hQ] at KM ⊢
  clear hQ
  go_enter Tryz.func65, Tryz.ntmps65
  go_wp2_with fail
  rw [HW1.out]
  refine (KM.out _).mono ?_
  rintro en2 w2 ⟨⟨v2, rfl, f2⟩, hb2⟩
  obtain ⟨a2, n2, c2, i2, j2, k2, hq2⟩ := frac_form f2
  subst hq2
  have HF2 := Lib.hid f2
  clear f2
  go_wp2_with ((with_reducible refine at_store ?_); refine wpList_store_var rfl _ _ _ rfl w2.heap.size rfl _ rfl _ _ (heap_alloc_new _ _) ifrac rfl frac_one ?_; intro w3 h3 hon3; refine halt ?_)
  have hb3 : Below w2.heap.size w2 w3 := below_only ((Below.refl _ _).alloc (Nat.le_refl _) _) hon3 (Nat.le_refl _)
  have hz3 := below_trans hb2 hb3
  have HR3 : Hid (w3.heap[w.heap.size]? = some (.cells #[Value.bool false, Value.slice none 0 0, Value.slice none 0 0] 43 (0, 0))) := Lib.hid ((hz3.block _ (lt_of_block HR1.out)).trans HR1.out)
  have HB3 := Lib.hid (below_trans HB1.out hz3)
  have HF3 := Lib.hid ((HF2.out.below hb3).other HR3.out (frac3_only _ _ (decide (Q.num < 0)) (Value.slice a2 n2 c2) (Value.slice i2 j2 k2)))
  have RR := Lib.hid (cells_later h3)
  have s0 := RR.out 0 _ rfl _ (Below.refl _ _)
  have s1 := RR.out 1 _ rfl _ (Below.refl _ _)
  have s2 := RR.out 2 _ rfl _ (Below.refl _ _)
  have r0 := cells_later HR3.out 0 _ rfl _ (Below.refl _ _)
  have r1 := cells_later HR3.out 1 _ rfl _ (Below.refl _ _)
  have r2 := cells_later HR3.out 2 _ rfl _ (Below.refl _ _)
  have g0 := frozen_of_row _ _ 0 _ _ HR3.out
  have g1 := frozen_of_row _ _ 1 _ _ HR3.out
  have g2 := frozen_of_row _ _ 2 _ _ HR3.out
  clear h3 hon3 hb3 hb2 hz3
  refine go_on ?_
  go_wp2_with fail
  exact bodyPost_ret (results_cell_row rfl _ _ w.heap.size _ _ _ _ rfl (frac3_heap HR3.out) Tryz.underlying43 rfl ifrac) rfl ⟨⟨_, rfl, HF3.out⟩, below_only HB3.out (frac3_only _ _ _ _ _) (by omega)⟩

set_option maxRecDepth 8000 in
set_option maxHeartbeats 2000000 in
theorem integerN_w {w : World} {n : Int} {q : Rat} (hm : makeQ n 1 = q) (h1 : -9223372036854775808 ≤ n) (h2 : n ≤ 9223372036854775807) : Calls Tryz.prog 92 #[.int .i64 n] w (RTell w q) := by
  obtain ⟨w1, hw1⟩ : ∃ w1, w1 = w.alloc (Obj.cells #[Value.bool false, Value.slice none 0 0, Value.slice none 0 0] 43) := ⟨_, rfl⟩
  have HB1 : Hid (Below w.heap.size w w1) := Lib.hid (by rw [hw1]; exact (Below.refl _ _).alloc (Nat.le_refl _) _)
  have HR1 : Hid (w1.heap[w.heap.size]? = some (.cells #[Value.bool false, Value.slice none 0 0, Value.slice none 0 0] 43 (0, 0))) := Lib.hid (by rw [hw1]; exact heap_alloc_new w _)
  have HW1 := Lib.hid hw1.symm
  clear hw1
  have KM : Hid (∀ w', Calls Tryz.prog 118 #[.int .i64 n, .int .i64 1] w' fun e w'' => (∃ r, e = .returned (.tuple #[r, .int .i64 0]) ∧ FracV w'' r q) ∧ Below w'.heap.size w' w'') := Lib.hid (fun w' => by
    have h9 := make_q (w := w') n 1 h1 h2 (by decide) (by decide)
    have e9 : zerB ((1 : Int).natAbs) = false := zerB_false (by decide)
    rw [e9, hm] at h9
    refine h9.mono fun e w' h => ?_
    unfold QuoPost at h
    simp only [Bool.false_eq_true, if_false] at h
    obtain ⟨⟨r, he, hf, -⟩, hb⟩ := h
    exact ⟨⟨r, he, hf⟩, hb⟩)
  obtain ⟨Q, hQ⟩ : ∃ Q, Q = q := ⟨_, rfl⟩
  rw [← hQ] at KM ⊢
  clear hQ
  go_enter Tryz.func92, Tryz.ntmps92
  go_wp2_with fail
  rw [HW1.out]
  refine (KM.out _).mono ?_
  rintro en2 w2 ⟨⟨v2, rfl, f2⟩, hb2⟩
  obtain ⟨a2, n2, c2, i2, j2, k2, hq2⟩ := frac_form f2
  subst hq2
  have HF2 := Lib.hid f2
  clear f2
  go_wp2_with ((with_reducible refine at_store ?_); refine wpList_store_var rfl _ _ _ rfl w2.heap.size rfl _ rfl _ _ (heap_alloc_new _ _) ifrac rfl frac_one ?_; intro w3 h3 hon3; refine halt ?_)
  have hb3 : Below w2.heap.size w2 w3 := below_only ((Below.refl _ _).alloc (Nat.le_refl _) _) hon3 (Nat.le_refl _)
  have hz3 := below_trans hb2 hb3
  have HR3 : Hid (w3.heap[w.heap.size]? = some (.cells #[Value.bool false, Value.slice none 0 0, Value.slice none 0 0] 43 (0, 0))) := Lib.hid ((hz3.block _ (lt_of_block HR1.out)).trans HR1.out)
  have HB3 := Lib.hid (below_trans HB1.out hz3)
  have HF3 := Lib.hid ((HF2.out.below hb3).other HR3.out (frac3_only _ _ (decide (Q.num < 0)) (Value.slice a2 n2 c2) (Value.slice i2 j2 k2)))
  have RR := Lib.hid (cells_later h3)
  have s0 := RR.out 0 _ rfl _ (Below.refl _ _)
  have s1 := RR.out 1 _ rfl _ (Below.refl _ _)
  have s2 := RR.out 2 _ rfl _ (Below.refl _ _)
  have r0 := cells_later HR3.out 0 _ rfl _ (Below.refl _ _)
  have r1 := cells_later HR3.out 1 _ rfl _ (Below.refl _ _)
  have r2 := cells_later HR3.out 2 _ rfl _ (Below.refl _ _)
  have g0 := frozen_of_row _ _ 0 _ _ HR3.out
  have g1 := frozen_of_row _ _ 1 _ _ HR3.out
  have g2 := frozen_of_row _ _ 2 _ _ HR3.out
  clear h3 hon3 hb3 hb2 hz3
  refine go_on ?_
  go_wp2_with fail
  exact bodyPost_ret (results_cell_row rfl _ _ w.heap.size _ _ _ _ rfl (frac3_heap HR3.out) Tryz.underlying43 rfl ifrac) rfl ⟨⟨_, rfl, HF3.out⟩, below_only HB3.out (frac3_only _ _ _ _ _) (by omega)⟩

end Go.Proofs.YtafenoohjcpjgaaGreat

/- A row of a list of the call's own stored anew. -/
namespace Go.Proofs.YtafenoohjcpjgaaGreat
open Go.RowKit

theorem splice_in {L vs : List Value} {o k : Nat} (h : o + vs.length ≤ L.length) (hk : k < vs.length) : (L.take o ++ vs ++ L.drop (o + vs.length))[o + k]? = vs[k]? := by
  have h1 : (L.take o).length = o := by rw [List.length_take]; omega
  rw [List.append_assoc, List.getElem?_append_right (by omega), h1, List.getElem?_append_left (by omega)]
  congr 1
  omega
theorem splice_out {L vs : List Value} {o k : Nat} (h : o + vs.length ≤ L.length) (hk : k < o ∨ o + vs.length ≤ k) : (L.take o ++ vs ++ L.drop (o + vs.length))[k]? = L[k]? := by
  have h1 : (L.take o).length = o := by rw [List.length_take]; omega
  rcases hk with hk | hk
  · rw [List.append_assoc, List.getElem?_append_left (by omega), List.getElem?_take, if_pos hk]
  · rw [List.getElem?_append_right (by rw [List.length_append]; omega), List.length_append, h1, List.getElem?_drop]
    congr 1
    omega
/-- One row of a list of the call's own is stored anew. -/
theorem LRo.put {K : RowK} {w w' : World} {base g n cap : Nat} {rs : List (List Rat × Int × Rat)} {cur : Array Value} {r : List Rat × Int × Rat} {i : Nat} {ar : Option Addr} {nr cr : Nat} {b : Bool} {a1 a2 : Option Addr} {n1 c1 n2 c2 : Nat}
    (h : LRo K w base (.slice (some ⟨g, 0, none⟩) n cap) rs) (hg : w.heap[g]? = some (.cells cur 45 (0, 0))) (hi : i < rs.length)
    (hw : w'.heap[g]? = some (.cells (cur.toList.take (i * 5) ++ [Value.slice ar nr cr, Value.int .i64 r.2.1, Value.bool b, Value.slice a1 n1 c1, Value.slice a2 n2 c2] ++ cur.toList.drop (i * 5 + 5)).toArray 45 (0, 0))) (hon : Only g w w')
    (hL : K.L w (.slice ar nr cr) r.1) (hf : K.F w (.agg #[.bool b, .slice a1 n1 c1, .slice a2 n2 c2]) r.2.2) (hne : ∀ k, (Value.slice ar nr cr).ownBlock = some k → g ≠ k ∧ k < w.heap.size ∧ base ≤ k) : LRo K w' base (.slice (some ⟨g, 0, none⟩) n cap) (rs.set i r) := by
  obtain ⟨xs, ⟨hxl, ho⟩, hcl, hel⟩ := h
  rcases ho with ⟨h0, -⟩ | ⟨g', cap', cur', hv, hbg, hh, hnc, hcm, hcs, htake⟩
  · cases h0
  simp only [Value.slice.injEq, Option.some.injEq, Addr.mk.injEq] at hv
  obtain ⟨⟨rfl, -, -⟩, hn, rfl⟩ := hv
  rw [hg] at hh
  simp only [Option.some.injEq, Obj.cells.injEq] at hh
  obtain ⟨rfl, -, -⟩ := hh
  have hcl0 : cur.toList.length = cap * 5 := by simpa using hcs
  have hfit : i * 5 + [Value.slice ar nr cr, Value.int .i64 r.2.1, Value.bool b, Value.slice a1 n1 c1, Value.slice a2 n2 c2].length ≤ cur.toList.length := by rw [hcl0]; simp only [List.length_cons, List.length_nil]; omega
  obtain ⟨vs, hvs⟩ : ∃ vs, vs = [Value.slice ar nr cr, Value.int .i64 r.2.1, Value.bool b, Value.slice a1 n1 c1, Value.slice a2 n2 c2] := ⟨_, rfl⟩
  have hv5 : vs.length = 5 := by rw [hvs]; rfl
  rw [← hvs] at hw hfit
  rw [show i * 5 + 5 = i * 5 + vs.length by rw [hv5]] at hw
  obtain ⟨L', hL'⟩ : ∃ L', L' = cur.toList.take (i * 5) ++ vs ++ cur.toList.drop (i * 5 + vs.length) := ⟨_, rfl⟩
  rw [← hL'] at hw
  have hlen' : L'.length = cap * 5 := by rw [hL']; simp only [List.length_append, List.length_take, List.length_drop]; omega
  have hcu : ∀ u ∈ cur.toList, NoU u := hcl g cur _ (0, 0) rfl hg
  have hvu : ∀ u ∈ vs, NoU u := by intro u hu k; rw [hvs] at hu; simp at hu; rcases hu with rfl | rfl | rfl | rfl | rfl <;> (intro e; cases e)
  have hu' : ∀ u ∈ L', NoU u := by
    intro u hu
    rw [hL'] at hu
    simp only [List.mem_append] at hu
    rcases hu with (hu | hu) | hu
    · exact hcu u (List.mem_of_mem_take hu)
    · exact hvu u hu
    · exact hcu u (List.mem_of_mem_drop hu)
  have hnoU : ∀ (j k : Nat), cur[j]? ≠ some (U k) := fun j k e => hcu (U k) (Array.mem_toList_iff.2 (Array.mem_of_getElem? e)) k rfl
  have old : ∀ k, k < rs.length * 5 → xs[k]? = cur.toList[k]? := fun k hk => by rw [← htake, List.getElem?_take, if_pos hk]
  have new : ∀ k, k < rs.length * 5 → (L'.take (rs.length * 5))[k]? = L'[k]? := fun k hk => by rw [List.getElem?_take, if_pos hk]
  refine ⟨L'.take (rs.length * 5), ⟨by rw [List.length_take, List.length_set]; omega, .inr ⟨g, cap, L'.toArray, by rw [List.length_set, hn], hbg, hw, by rw [List.length_set]; exact hnc, hcm, by simpa using hlen', by rw [List.length_set]⟩⟩, ?_, fun j r' hr' => ?_⟩
  · intro g2 cs2 e2 fr2 hb2 hh2 u hu
    have e9 : some g = some g2 := hb2
    obtain rfl := Option.some.inj e9
    rw [hw] at hh2
    simp only [Option.some.injEq, Obj.cells.injEq] at hh2
    obtain ⟨rfl, -, -⟩ := hh2
    exact hu' u hu
  · by_cases hji : j = i
    · subst hji
      rw [List.getElem?_set_self hi] at hr'
      cases hr'
      have at5 : ∀ c, c < 5 → (L'.take (rs.length * 5))[j * 5 + c]? = vs[c]? := fun c hc => by rw [new _ (by omega), hL']; exact splice_in hfit (by omega)
      refine ⟨ar, nr, cr, b, a1, n1, c1, a2, n2, c2, by rw [show j * 5 = j * 5 + 0 by omega, at5 0 (by omega), hvs]; rfl, by rw [at5 1 (by omega), hvs]; rfl, by rw [at5 2 (by omega), hvs]; rfl, by rw [at5 3 (by omega), hvs]; rfl, by rw [at5 4 (by omega), hvs]; rfl, K.otherL hL hg hnoU hon (fun k hk => (hne k hk).1.symm), K.otherF hf hg hnoU hon, fun k hk => ⟨fun e => (hne k hk).1 (Option.some.inj e), by rw [hon.size]; exact (hne k hk).2.1, (hne k hk).2.2⟩⟩
    · rw [List.getElem?_set_ne (fun e => hji e.symm)] at hr'
      have hjl := (List.getElem?_eq_some_iff.1 hr').1
      obtain ⟨a, n', c, b', b1, m1, d1, b2, m2, d2, h0, h1, h2, h3, h4, hl, hff, hn9⟩ := hel j r' hr'
      have at5 : ∀ c, c < 5 → (L'.take (rs.length * 5))[j * 5 + c]? = xs[j * 5 + c]? := fun c hc => by rw [new _ (by omega), old _ (by omega), hL']; exact splice_out hfit (by omega)
      have e0 := at5 0 (by omega)
      simp only [Nat.add_zero] at e0
      exact ⟨a, n', c, b', b1, m1, d1, b2, m2, d2, by rw [e0]; exact h0, by rw [at5 1 (by omega)]; exact h1, by rw [at5 2 (by omega)]; exact h2, by rw [at5 3 (by omega)]; exact h3, by rw [at5 4 (by omega)]; exact h4, K.otherL hl hg hnoU hon (fun k hk e => (hn9 k hk).1 (by rw [e]; rfl)), K.otherF hff hg hnoU hon, fun k hk => ⟨(hn9 k hk).1, by rw [hon.size]; exact (hn9 k hk).2.1, (hn9 k hk).2.2⟩⟩
/-- A row of such a list, read. -/
theorem LRo.at {K : RowK} {w : World} {base n c : Nat} {a : Option Addr} {rs : List (List Rat × Int × Rat)} (h : LRo K w base (.slice a n c) rs) {i : Nat} (hi : i < n) :
    ∃ r B off ar nr cr b a1 n1 c1 a2 n2 c2, rs[i]? = some r ∧ a = some ⟨B, off, none⟩ ∧ (∀ w', Below w.heap.size w w' → w'.cell? ⟨B, off + i * 5, none⟩ = some (.slice ar nr cr) ∧ w'.cell? ⟨B, off + i * 5 + 1, none⟩ = some (.int .i64 r.2.1) ∧ w'.cell? ⟨B, off + i * 5 + 2, none⟩ = some (.bool b) ∧ w'.cell? ⟨B, off + i * 5 + 3, none⟩ = some (.slice a1 n1 c1) ∧ w'.cell? ⟨B, off + i * 5 + 4, none⟩ = some (.slice a2 n2 c2)) ∧
      K.L w (.slice ar nr cr) r.1 ∧ K.F w (.agg #[.bool b, .slice a1 n1 c1, .slice a2 n2 c2]) r.2.2 ∧ (∀ g, (Value.slice ar nr cr).ownBlock = some g → B ≠ g ∧ g < w.heap.size ∧ base ≤ g) := by
  obtain ⟨xs, ⟨hxl, ho⟩, hcl, hel⟩ := h
  have hcells := fun g hg => World.ownsRow.cells (⟨hxl, ho⟩ : w.ownsRow base 45 5 (.slice a n c) rs.length xs) (g := g) hg
  rcases ho with ⟨h0, h1⟩ | ⟨g, cap, cur, hv, -, -, -, -, -, -⟩
  · simp only [Value.slice.injEq] at h0
    omega
  · simp only [Value.slice.injEq] at hv
    obtain ⟨rfl, hn, rfl⟩ := hv
    have hil : i < rs.length := by omega
    obtain ⟨ar, nr, cr, b, a1, n1, c1, a2, n2, c2, h0, h1, h2, h3, h4, hl, hf, hne⟩ := hel i _ (List.getElem?_eq_getElem hil)
    have k0 := hcells g rfl _ _ h0
    have k1 := hcells g rfl _ _ h1
    have k2 := hcells g rfl _ _ h2
    have k3 := hcells g rfl _ _ h3
    have k4 := hcells g rfl _ _ h4
    rw [Addr.add_lit] at k0 k1 k2 k3 k4
    simp only [← Nat.add_assoc] at k1 k2 k3 k4
    exact ⟨rs[i], g, 0, ar, nr, cr, b, a1, n1, c1, a2, n2, c2, List.getElem?_eq_getElem hil, rfl, fun w' hb => ⟨cell_below hb k0, cell_below hb k1, cell_below hb k2, cell_below hb k3, cell_below hb k4⟩, hl, hf, fun k hk => ⟨fun e => (hne k hk).1 (by rw [e]; rfl), (hne k hk).2.1, (hne k hk).2.2⟩⟩
end Go.Proofs.YtafenoohjcpjgaaGreat

/- Normal of plane: AtLeast rows turned. -/
namespace Go.Proofs.YtafenoohjcpjgaaGreat
open Go.RowKit
attribute [local go_sem ↓] Go.wp_at_zero Go.wp_at_succ

/-- A row turned, if it is an AtLeast one. -/
def turnR (r : List Rat × Int × Rat) : List Rat × Int × Rat := if r.2.1 = 1 then (r.1.map (fun q => -q), -1, -r.2.2) else r
def normP (P : Pm) : Pm := { P with rows := P.rows.map turnR }
theorem oper_store_row {w : World} {o : Oper} {a : Act} {K : Act → World → Prop} {Q : Exit → Act → World → Prop} (x y : Operand) (ho : o.op = .store 45 x y)
    (g off : Nat) (hx : a.eval x = .pointer (some ⟨g, off, none⟩)) (v0 v1 v2 v3 v4 : Value) (hy : a.eval y = .agg #[v0, v1, v2, v3, v4]) (cur : Array Value) (hg : w.heap[g]? = some (.cells cur 45 (0, 0))) (hs : off + 5 ≤ cur.size)
    (h1 : ∀ v ∈ (#[v0, v1, v2, v3, v4] : Array Value).toList, v.oneCell' = true)
    (h : ∀ w', w'.heap[g]? = some (.cells (cur.toList.take off ++ [v0, v1, v2, v3, v4] ++ cur.toList.drop (off + 5)).toArray 45 (0, 0)) → Only g w w' → K (a.put o.dst undef) w') : Oper.wp Tryz.prog o a w K Q := by
  unfold Oper.wp execOp
  have h9 := run_storeCells_at (P := Tryz.prog) g off 45 [v0, v1, v2, v3, v4] 0 cur w hg (by simp; omega) h1
  have hr : (storeVar 45 ⟨g, off, none⟩ (.agg #[v0, v1, v2, v3, v4])).run Tryz.prog w = .ok () (w.setRow g (cur.toList.take off ++ [v0, v1, v2, v3, v4] ++ cur.toList.drop (off + 5)).toArray) := by
    obtain ⟨i0, hi0, -, hz1, -⟩ := info_parts info_row9
    simp only [Nat.add_zero, List.length_cons, List.length_nil] at h9
    simp [storeVar, Sem.run_bind, sizeOf, typeInfo, hi0, hz1, Value.cells, h9]
  simp only [ho, hx, hy, Instr.storeAt, Instr.sureAddr, Sem.run_bind, Sem.run_pure, Result.andThen_ok, hr]
  exact h _ (setRow_heap w g cur _ _ _ hg) ⟨rfl, rfl, rfl, by simp [World.setRow], fun k hk => setRow_other w g k _ hk⟩
end Go.Proofs.YtafenoohjcpjgaaGreat

/- Programs of small numbers; told programs are read again. -/
namespace Go.Proofs.YtafenoohjcpjgaaGreat
open Go.RowKit

theorem nthQ_neg (qs : List Rat) (j : Nat) : nthQ (qs.map (fun q => -q)) j = -(nthQ qs j) := by
  unfold nthQ
  rw [List.getElem?_map]
  cases qs[j]? with
  | none => simp
  | some q => rfl
/-- All numbers of a program have at most so many words. -/
def SmallP (M : Nat) (P : Pm) : Prop := (∀ i, i < P.goal.length → lenQ (nthQ P.goal i) ≤ M) ∧ ∀ (i : Nat) (r : List Rat × Int × Rat), P.rows[i]? = some r → (∀ j, j < r.1.length → lenQ (nthQ r.1 j) ≤ M) ∧ lenQ r.2.2 ≤ M
theorem ListF.lens {N : Nat} {w : World} {a : Option Addr} {n c : Nat} {qs : List Rat} (h : ListF N w (.slice a n c) qs) : ∀ j, j < n → lenQ (nthQ qs j) ≤ 2 * N + 1 := fun j hj => by
  obtain ⟨q, B', off', b', a4, n4, c4, a5, n5, c5, hq, -, -, hf⟩ := h.at hj
  rw [nthQ_of hq]
  exact hf.len
theorem ProgF.small {N : Nat} {w : World} {v : Value} {P : Pm} (h : ProgF N w v P) : SmallP (2 * N + 1) P := by
  obtain ⟨fa, fc, ga, gc, ra, rc, -, -, -, -, hG, hR⟩ := h
  refine ⟨fun i hi => hG.lens i hi, fun i r hr => ?_⟩
  obtain ⟨r', B, off, a1, c1, b, a2, n2, c2, a3, n3, c3, hr', -, hlr, hf, -⟩ := hR.at (i := i) (List.getElem?_eq_some_iff.1 hr).1
  rw [hr] at hr'
  cases hr'
  exact ⟨fun j hj => hlr.lens j hj, hf.len⟩
theorem SmallP.turn {M : Nat} {r : List Rat × Int × Rat} (h : (∀ j, j < r.1.length → lenQ (nthQ r.1 j) ≤ M) ∧ lenQ r.2.2 ≤ M) : (∀ j, j < (turnR r).1.length → lenQ (nthQ (turnR r).1 j) ≤ M) ∧ lenQ (turnR r).2.2 ≤ M := by
  unfold turnR
  by_cases hs : r.2.1 = 1
  · rw [if_pos hs]
    refine ⟨fun j hj => ?_, by rw [len_negq]; exact h.2⟩
    simp only [List.length_map] at hj
    rw [nthQ_neg, len_negq]
    exact h.1 j hj
  · rw [if_neg hs]
    exact h
theorem rows_norm {P : Pm} {i : Nat} {r : List Rat × Int × Rat} (h : (normP P).rows[i]? = some r) : ∃ r', P.rows[i]? = some r' ∧ turnR r' = r := by
  have h9 : (P.rows.map turnR)[i]? = some r := h
  rw [List.getElem?_map] at h9
  cases hr : P.rows[i]? with
  | none => rw [hr] at h9; cases h9
  | some r' => rw [hr] at h9; exact ⟨r', rfl, by simpa using h9⟩
theorem SmallP.norm {M : Nat} {P : Pm} (h : SmallP M P) : SmallP M (normP P) := by
  refine ⟨h.1, fun i r hr => ?_⟩
  obtain ⟨r', h1, rfl⟩ := rows_norm hr
  exact SmallP.turn (h.2 i r' h1)
theorem right_norm {P : Pm} (h : rightB2 P = true) : rightB2 (normP P) = true := by
  unfold rightB2 at h ⊢
  simp only [Bool.and_eq_true] at h ⊢
  refine ⟨h.1, ?_⟩
  rw [List.all_eq_true] at h ⊢
  intro r hr
  obtain ⟨r', hr', rfl⟩ := List.mem_map.1 (show r ∈ P.rows.map turnR from hr)
  have h9 := h.2 r' hr'
  simp only [okRow, decide_eq_true_eq] at h9 ⊢
  unfold turnR
  by_cases hs : r'.2.1 = 1
  · rw [if_pos hs]
    simp only [List.length_map]
    exact ⟨h9.1, by omega, by omega⟩
  · rw [if_neg hs]
    exact h9
theorem norm_sense {P : Pm} (h : rightB2 P = true) {i : Nat} {r : List Rat × Int × Rat} (hr : (normP P).rows[i]? = some r) : r.2.1 = -1 ∨ r.2.1 = 0 := by
  obtain ⟨r', h1, rfl⟩ := rows_norm hr
  have h9 := row_sense h h1
  unfold turnR
  by_cases hs : r'.2.1 = 1
  · rw [if_pos hs]; exact .inl rfl
  · rw [if_neg hs]; omega
theorem ListV.list {M : Nat} {w : World} {v : Value} {qs : List Rat} (h : ListV w v qs) (hl : ∀ j, j < qs.length → lenQ (nthQ qs j) ≤ M) (hM : M ≤ 4096) : ListF M w v qs := by
  obtain ⟨B, rfl, h⟩ := h
  exact h.list rfl (fun i hi => ⟨(digs_of_len (hl i hi)).1, (digs_of_len (hl i hi)).2, Nat.le_trans (hl i hi) hM⟩)
theorem ProgN.below {K : RowK} {base : Nat} {w w' : World} {v : Value} {P : Pm} (h : ProgN K w base v P) (hb : Below w.heap.size w w') : ProgN K w' base v P := by
  obtain ⟨fa, fc, ga, gc, ra, rc, mid, hv, hB, hG, hR, h1, h2, h3, h4⟩ := h
  exact ⟨fa, fc, ga, gc, ra, rc, mid, hv, hB.below hb, K.belowL hG hb, hR.below hb, h1, h2, h3, Nat.le_trans h4 hb.size⟩
/-- A told program, read again. -/
theorem ProgN.read {M base : Nat} {w : World} {v : Value} {P : Pm} (h : ProgN rkV w base v P) (hs : SmallP M P) (hM : M ≤ 4096) (hrb : rightB2 P = true) (hv2 : P.vars ≤ 1000) : ProgF M w v P := by
  obtain ⟨fa, fc, ga, gc, ra, rc, mid, hv, hB, hG, hR, h1, h2, h3, h4⟩ := h
  have hg := right_goal hrb
  refine ⟨fa, fc, ga, gc, ra, rc, hv, by omega, by omega, hB, ListV.list hG hs.1 hM, fun i r hr => ?_⟩
  obtain ⟨r', B, off, ar, nr, cr, b, a1, n1, c1, a2, n2, c2, hr', ha, hc, hl, hf, -⟩ := hR.at (i := i) (List.getElem?_eq_some_iff.1 hr).1
  rw [hr] at hr'
  cases hr'
  obtain ⟨k0, k1, k2, k3, k4⟩ := hc w (Below.refl _ _)
  have hl' : ListV w (.slice ar nr cr) r.1 := hl
  obtain ⟨ar', hq⟩ := hl'.form
  simp only [Value.slice.injEq] at hq
  obtain ⟨rfl, rfl, rfl⟩ := hq
  have hsn := row_sense hrb hr
  exact ⟨B, off, ha, ar, _, b, a1, n1, c1, a2, n2, c2, k0, k1, k2, k3, k4, hl'.list (hs.2 i r hr).1 hM, fv_few9 hf (hs.2 i r hr).2 hM, by omega, by omega⟩
theorem ProgN.readF {M base : Nat} {w : World} {v : Value} {P : Pm} (h : ProgN (rkF M) w base v P) (hrb : rightB2 P = true) (hv2 : P.vars ≤ 1000) : ProgF M w v P := by
  obtain ⟨fa, fc, ga, gc, ra, rc, mid, hv, hB, hG, hR, h1, h2, h3, h4⟩ := h
  have hg := right_goal hrb
  obtain ⟨bg, hG⟩ := hG
  refine ⟨fa, fc, ga, gc, ra, rc, hv, by omega, by omega, hB, hG.list, fun i r hr => ?_⟩
  obtain ⟨r', B, off, ar, nr, cr, b, a1, n1, c1, a2, n2, c2, hr', ha, hc, hl, hf, -⟩ := hR.at (i := i) (List.getElem?_eq_some_iff.1 hr).1
  rw [hr] at hr'
  cases hr'
  obtain ⟨k0, k1, k2, k3, k4⟩ := hc w (Below.refl _ _)
  obtain ⟨bl, hl'⟩ := hl
  obtain ⟨ar', cr', hq⟩ := hl'.form
  simp only [Value.slice.injEq] at hq
  obtain ⟨rfl, rfl, rfl⟩ := hq
  have hsn := row_sense hrb hr
  exact ⟨B, off, ha, ar, _, b, a1, n1, c1, a2, n2, c2, k0, k1, k2, k3, k4, hl'.list, hf, by omega, by omega⟩
theorem LRo.own {K : RowK} {w : World} {base n c B off : Nat} {rs : List (List Rat × Int × Rat)} (h : LRo K w base (.slice (some ⟨B, off, none⟩) n c) rs) : off = 0 ∧ n = rs.length ∧ base ≤ B ∧ ∃ cur, w.heap[B]? = some (.cells cur 45 (0, 0)) ∧ rs.length * 5 ≤ cur.size ∧ ∀ (j k : Nat), cur[j]? ≠ some (U k) := by
  obtain ⟨xs, ⟨hxl, ho⟩, hcl, -⟩ := h
  rcases ho with ⟨h0, -⟩ | ⟨g, cap, cur, hv, hbg, hh, hnc, hcm, hcs, htake⟩
  · cases h0
  · simp only [Value.slice.injEq, Option.some.injEq, Addr.mk.injEq] at hv
    obtain ⟨⟨rfl, rfl, -⟩, hn, rfl⟩ := hv
    have h9 : rs.length * 5 ≤ c * 5 := Nat.mul_le_mul_right _ hnc
    refine ⟨rfl, hn, hbg, cur, hh, by omega, fun j k e => ?_⟩
    exact hcl B cur _ (0, 0) rfl hh (U k) (Array.mem_toList_iff.2 (Array.mem_of_getElem? e)) k rfl
/-- Rows turned up to a place. -/
def turnTo (i : Nat) (rs : List (List Rat × Int × Rat)) : List (List Rat × Int × Rat) := (rs.map turnR).take i ++ rs.drop i
theorem turnTo_len (i : Nat) (rs : List (List Rat × Int × Rat)) (hi : i ≤ rs.length) : (turnTo i rs).length = rs.length := by
  unfold turnTo
  simp only [List.length_append, List.length_take, List.length_map, List.length_drop]
  omega
theorem turnTo_zero (rs : List (List Rat × Int × Rat)) : turnTo 0 rs = rs := by simp [turnTo]
theorem turnTo_all (rs : List (List Rat × Int × Rat)) : turnTo rs.length rs = rs.map turnR := by
  unfold turnTo
  rw [List.take_of_length_le (by simp), List.drop_length, List.append_nil]
theorem turnTo_at {i : Nat} {rs : List (List Rat × Int × Rat)} {r : List Rat × Int × Rat} (hr : rs[i]? = some r) : (turnTo i rs)[i]? = some r := by
  have hi := (List.getElem?_eq_some_iff.1 hr).1
  unfold turnTo
  have hl : ((rs.map turnR).take i).length = i := by rw [List.length_take, List.length_map]; omega
  rw [List.getElem?_append_right (by omega), hl, List.getElem?_drop]
  simpa using hr
theorem turnTo_succ {i : Nat} {rs : List (List Rat × Int × Rat)} {r : List Rat × Int × Rat} (hr : rs[i]? = some r) : (turnTo i rs).set i (turnR r) = turnTo (i + 1) rs := by
  obtain ⟨hi, h9⟩ := List.getElem?_eq_some_iff.1 hr
  have hl : ((rs.map turnR).take i).length = i := by rw [List.length_take, List.length_map]; omega
  unfold turnTo
  rw [List.set_append_right _ _ (by omega), hl, Nat.sub_self, List.drop_eq_getElem_cons hi, List.set_cons_zero, List.take_succ_eq_append_getElem (by simpa using hi), List.append_assoc]
  simp [h9]
theorem turnTo_same {i : Nat} {rs : List (List Rat × Int × Rat)} {r : List Rat × Int × Rat} (hr : rs[i]? = some r) (hs : r.2.1 ≠ 1) : turnTo (i + 1) rs = turnTo i rs := by
  rw [← turnTo_succ hr]
  have h1 : turnR r = r := by unfold turnR; rw [if_neg hs]
  rw [h1]
  apply List.ext_getElem?
  intro k
  by_cases hk : k = i
  · subst hk
    rw [List.getElem?_set_self (by rw [turnTo_len _ _ (Nat.le_of_lt (List.getElem?_eq_some_iff.1 hr).1)]; exact (List.getElem?_eq_some_iff.1 hr).1), turnTo_at hr]
  · rw [List.getElem?_set_ne (fun e => hk e.symm)]
end Go.Proofs.YtafenoohjcpjgaaGreat
