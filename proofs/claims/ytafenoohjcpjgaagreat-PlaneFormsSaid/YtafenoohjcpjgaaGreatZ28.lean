/- Several texts in one: Yr, Yu, Yw. -/
import Derived.Test.YtafenoohjcpjgaaGreatZ27
import Derived.Deep.RegionHeld3
import Derived.Deep.DrawnRows
/- negated of lists whose numbers are short; forms. -/
namespace Go.Proofs.YtafenoohjcpjgaaGreat
open Go.RowKit
attribute [local go_sem ↓] Go.wp_at_zero Go.wp_at_succ

theorem rkV_len {w : World} {a : Option Addr} {n c : Nat} {qs : List Rat} (h : rkV.L w (.slice a n c) qs) : n = qs.length := by
  have h' : ListV w (.slice a n c) qs := h
  obtain ⟨a', hq⟩ := h'.form
  simp only [Value.slice.injEq] at hq
  exact hq.2.1
theorem rkF_len {M : Nat} {w : World} {a : Option Addr} {n c : Nat} {qs : List Rat} (h : (rkF M).L w (.slice a n c) qs) : n = qs.length := by
  obtain ⟨b, h'⟩ := h
  obtain ⟨a', c', hq⟩ := h'.form
  simp only [Value.slice.injEq] at hq
  exact hq.2.1
theorem rkV_blk {w : World} {v : Value} {qs : List Rat} (h : rkV.L w v qs) : ∀ g, v.ownBlock = some g → ∃ cs, w.heap[g]? = some (.cells cs 43 (0, 0)) := by
  obtain ⟨B, rfl, f, ⟨c, h1, -⟩, -⟩ := h
  intro g hg
  have h9 : some B = some g := hg
  obtain rfl := Option.some.inj h9
  exact ⟨c, h1⟩
theorem rkF_blk {M : Nat} {w : World} {v : Value} {qs : List Rat} (h : (rkF M).L w v qs) : ∀ g, v.ownBlock = some g → ∃ cs, w.heap[g]? = some (.cells cs 43 (0, 0)) := by
  obtain ⟨b, xs, ⟨-, ho⟩, -⟩ := h
  intro g hg
  rcases ho with ⟨rfl, -⟩ | ⟨g', cap', cur', rfl, -, hh, -⟩
  · simp [Value.ownBlock] at hg
  · have h9 : some g' = some g := hg
    obtain rfl := Option.some.inj h9
    exact ⟨cur', hh⟩
theorem few_form {N : Nat} {w : World} {v : Value} {q : Rat} (h : FewF N w v q) : ∃ a n c a' n' c' b, v = .agg #[.bool b, .slice a n c, .slice a' n' c'] := by
  obtain ⟨b, l, m, ⟨u, d, rfl, hu, hd⟩, -⟩ := h
  obtain ⟨a1, c1, rfl, -⟩ := hu
  obtain ⟨a2, c2, rfl, -⟩ := hd
  exact ⟨_, _, _, _, _, _, _, rfl⟩
theorem rneg_few {N : Nat} {w : World} {x : Value} {P : Rat} (hx : FewF N w x P) (hl : N ≤ 2048) : Calls Tryz.prog 26 #[x] w (RTell w (-P)) := by
  obtain ⟨b, l, m, h1, rfl, h2, h3⟩ := hx
  exact rnegf_w h1 (by omega)
theorem rfix_few {N : Nat} {w : World} {x : Value} {P : Rat} (hx : FewF N w x P) (hn : N ≤ 2048) : Calls Tryz.prog 59 #[x] w (RTell w P) := by
  obtain ⟨b, l, m, h1, rfl, hl1, hm1⟩ := hx
  exact rfix_w h1 (by omega)
set_option maxRecDepth 100000 in
set_option maxHeartbeats 4000000 in
theorem negatedM_w {N M : Nat} {w : World} {v : Value} {qs : List Rat} (hx : ListF N w v qs) (hl : ∀ j, j < qs.length → lenQ (nthQ qs j) ≤ M) (hN : N ≤ 1100) (hM : M ≤ 1100) (hn : qs.length ≤ 1000) :
    Calls Tryz.prog 25 #[v] w fun e w' => (∃ r, e = .returned r ∧ LFs M w' w.heap.size r (qs.map (fun q => -q))) ∧ Below w.heap.size w w' := by
  obtain ⟨a, c, rfl, -⟩ := id hx
  have HX := Lib.hid hx
  have HLL := Lib.hid hl
  obtain ⟨n, hnn⟩ : ∃ n, n = qs.length := ⟨_, rfl⟩
  obtain ⟨ps, hps⟩ : ∃ ps, ps = qs.map (fun q => -q) := ⟨_, rfl⟩
  have HPL : Hid (ps.length = n) := Lib.hid (by rw [hps, List.length_map, hnn])
  have HPE : Hid (∀ (i : Nat) (q : Rat), qs[i]? = some q → ps[i]? = some (-q)) := Lib.hid (fun i q h => by rw [hps]; rw [List.getElem?_map, h]; rfl)
  rw [← hnn] at HX HLL hn ⊢
  rw [← hps]
  clear hx hl hps hnn
  go_enter Tryz.func25, Tryz.ntmps25
  go_wp2_with fail
  go_loopw [3, 8] (fun lv iv wr => ∃ (i : Nat) (oa : Option Addr) (oc : Nat), i ≤ n ∧ iv = .int .i64 i ∧ lv = .slice oa i oc ∧ Hid (LFs M wr w.heap.size (.slice oa i oc) (ps.take i)) ∧ Hid (Below w.heap.size w wr)) (fun _ iv _ => n - (intOf iv).toNat)
  case atStart => exact ⟨0, none, 0, Nat.zero_le _, rfl, rfl, Lib.hid (LFs.nil _ _ _), Lib.hid (Below.refl _ _)⟩
  case round =>
    obtain ⟨i, oa, oc, hi, rfl, rfl, hO, hZ⟩ := hrel
    obtain ⟨wo, rfl⟩ : ∃ wo : World, wo = wr := ⟨_, rfl⟩
    by_cases hin : i < n
    · have t0 : decide ((i : Int) < (n : Int)) = true := by simp; omega
      obtain ⟨q, B, off, b, a1, n1, c1, a2, n2, c2, hq, hB, hcB, hfB⟩ := HX.out.at hin
      subst hB
      have HPI := Lib.hid (HPE.out i q hq)
      have HLQ : Hid (lenQ q ≤ M) := Lib.hid (by rw [← nthQ_of hq]; exact HLL.out i hin)
      have HFB := Lib.hid hfB
      obtain ⟨k0, k1, k2⟩ := hcB wo hZ.out
      clear hq hcB hfB
      obtain ⟨p, hp⟩ : ∃ p, p = -q := ⟨_, rfl⟩
      rw [← hp] at HPI
      have HPQ := Lib.hid hp
      have HLP : Hid (lenQ p ≤ M) := Lib.hid (by rw [hp]; rw [len_negq]; exact HLQ.out)
      have HTK : Hid (ps.take i ++ [p] = ps.take (i + 1) ∧ (ps.take i).length = i ∧ (ps.take (i + 1)).length = i + 1) := Lib.hid (by
        have h9 : i < ps.length := by have := HPL.out; omega
        have h8 := HPI.out
        rw [List.getElem?_eq_getElem h9] at h8
        simp only [Option.some.injEq] at h8
        exact ⟨by rw [List.take_succ_eq_append_getElem h9, h8], by rw [List.length_take]; omega, by rw [List.length_take]; omega⟩)
      clear hp
      go_wp2_with ((with_reducible refine at_store ?_); refine wpList_store_var rfl _ _ _ rfl wo.heap.size rfl _ rfl _ _ (heap_alloc_new _ _) ifrac rfl frac_one ?_; intro w4 h4 hon4; refine halt ?_)
      have hb4 : Below wo.heap.size wo w4 := below_only ((Below.refl _ _).alloc (Nat.le_refl _) _) hon4 (Nat.le_refl _)
      have HB4 := Lib.hid hb4
      have HZ4 := Lib.hid (below_trans hZ.out hb4)
      have RY := Lib.hid (cells_later h4)
      have hb5 := Below.refl w4.heap.size w4
      have y0 := RY.out 0 _ rfl _ hb5
      have y1 := RY.out 1 _ rfl _ hb5
      have y2 := RY.out 2 _ rfl _ hb5
      have KF := Lib.hid (rfix_few (HFB.out.below HZ4.out) (by omega))
      clear h4 hon4 hb4 k0 k1 k2 hb5
      refine go_on ?_
      go_wp2_with fail
      refine KF.out.mono ?_
      rintro en5 w5 ⟨⟨v5, rfl, f5⟩, hb5⟩
      clear y0 y1 y2
      have KN := Lib.hid (rneg_v f5 (by have := HLQ.out; omega))
      rw [← HPQ.out] at KN
      obtain ⟨a5', n5', c5', i5', j5', k5', hq5'⟩ := frac_form f5
      subst hq5'
      have HB45 := Lib.hid (below_trans HB4.out hb5)
      clear f5 hb5
      go_wp2_with fail
      refine KN.out.mono ?_
      rintro en6 w5 ⟨⟨v5, rfl, f5⟩, hb5⟩
      have HB5 := Lib.hid (below_trans HB45.out hb5)
      obtain ⟨a5, n5, c5, i5, j5, k5, hq5⟩ := frac_form f5
      subst hq5
      have HF5 := Lib.hid (fv_few9 f5 HLP.out (by omega))
      obtain ⟨bq, hbq⟩ : ∃ bq, bq = decide (p.num < 0) := ⟨_, rfl⟩
      rw [← hbq] at HF5
      rw [← hbq]
      clear hbq f5 hb5
      obtain ⟨w6, hw6⟩ : ∃ w6, w6 = w5.alloc (Obj.cells #[Value.bool bq, Value.slice a5 n5 c5, Value.slice i5 j5 k5] 43) := ⟨_, rfl⟩
      have HB6 : Hid (Below w5.heap.size w5 w6) := Lib.hid (by rw [hw6]; exact (Below.refl _ _).alloc (Nat.le_refl _) _)
      have HR6 : Hid (w6.heap[w5.heap.size]? = some (.cells #[Value.bool bq, Value.slice a5 n5 c5, Value.slice i5 j5 k5] 43 (0, 0))) := Lib.hid (by rw [hw6]; exact heap_alloc_new w5 _)
      have HZ6 := Lib.hid (below_trans HB5.out HB6.out)
      have HO6 := Lib.hid (hO.out.below HZ6.out)
      have HF6 := Lib.hid (HF5.out.below HB6.out)
      have hsz6 : Hid (w.heap.size ≤ w6.heap.size) := Lib.hid (by have h1 := hZ.out.size; have h2 := HZ6.out.size; omega)
      go_wp2_with (at_builtin; rw [← hw6]; refine wpList_push_frac rfl _ _ rfl M w.heap.size (Value.slice oa i oc) (ps.take i) rfl HO6.out w5.heap.size 1 bq a5 i5 n5 c5 j5 k5 p rfl HR6.out HF6.out (by have := HTK.out.2.1; omega) hsz6.out ?_; intro v7 w7 hown7 hgrow7 hbel7 hat7; refine halt ?_)
      rw [HTK.out.1] at hown7
      have HO7 := Lib.hid hown7
      have HB7 := Lib.hid (hbel7 w (below_trans hZ.out HZ6.out))
      obtain ⟨ga7, gc7, hgv⟩ := hown7.form
      rw [HTK.out.2.2] at hgv
      subst hgv
      clear hown7 hgrow7 hbel7 hat7 hw6
      refine go_on ?_
      go_wp2_with fail
      go_roundw
      case rel => exact ⟨i + 1, _, _, by omega, by go_num, by go_num, HO7, HB7⟩
      case measure => simp [intOf]; omega
    · have t0 : decide ((i : Int) < (n : Int)) = false := by simp; omega
      have HE : Hid (LFs M wo w.heap.size (.slice oa i oc) ps) := Lib.hid (by
        have h9 := hO.out
        rw [List.take_of_length_le (by have := HPL.out; omega)] at h9
        exact h9)
      go_wp2_with fail
      go_ret
      exact ⟨⟨_, rfl, HE.out⟩, hZ.out⟩
end Go.Proofs.YtafenoohjcpjgaaGreat

/- Lists of numbers of the machine; distinct; within. -/
namespace Go.Proofs.YtafenoohjcpjgaaGreat
open Go.RowKit
attribute [local go_sem ↓] Go.wp_at_zero Go.wp_at_succ

/-- Numbers that came in. -/
def IntsF (w : World) (a : Option Addr) (l : List Int) : Prop := ∀ (i : Nat) (z : Int), l[i]? = some z → ∃ B off, a = some ⟨B, off, none⟩ ∧ w.cell? ⟨B, off + i, none⟩ = some (.int .i64 z) ∧ -9223372036854775808 ≤ z ∧ z ≤ 9223372036854775807
theorem IntsF.below {w w' : World} {a : Option Addr} {l : List Int} (h : IntsF w a l) (hb : Below w.heap.size w w') : IntsF w' a l := fun i z hz => by
  obtain ⟨B, off, ha, hc, h1⟩ := h i z hz
  exact ⟨B, off, ha, cell_below hb hc, h1⟩
theorem IntsF.at {w : World} {a : Option Addr} {l : List Int} (h : IntsF w a l) {i : Nat} (hi : i < l.length) :
    ∃ z B off, l[i]? = some z ∧ a = some ⟨B, off, none⟩ ∧ (-9223372036854775808 ≤ z ∧ z ≤ 9223372036854775807) ∧ ∀ w', Below w.heap.size w w' → w'.cell? ⟨B, off + i, none⟩ = some (.int .i64 z) := by
  obtain ⟨B, off, ha, hc, h1⟩ := h i _ (List.getElem?_eq_getElem hi)
  exact ⟨l[i], B, off, List.getElem?_eq_getElem hi, ha, h1, fun w' hb => cell_below hb hc⟩
/-- Is number i of a list the number of one of n variables, and a new one? -/
def okAt (n : Int) (l : List Int) (i : Nat) : Bool := match l[i]? with
  | some v => decide (0 ≤ v ∧ v < n) && !(l.take i).contains v
  | none => true
def okV (n : Int) (l : List Int) : Bool := (List.range l.length).all (okAt n l)
theorem okV_no {n : Int} {l : List Int} {i : Nat} (hi : i < l.length) (h : okAt n l i = false) : okV n l = false := by
  unfold okV
  cases hh : (List.range l.length).all (okAt n l) with
  | false => rfl
  | true =>
    have h1 := List.all_eq_true.1 hh i (by simpa using hi)
    rw [h] at h1; cases h1
theorem okV_yes {n : Int} {l : List Int} (h : ∀ i, i < l.length → okAt n l i = true) : okV n l = true := by
  unfold okV
  rw [List.all_eq_true]
  intro i hi
  exact h i (by simpa using hi)
theorem okV_at {n : Int} {l : List Int} (h : okV n l = true) {i : Nat} {v : Int} (hv : l[i]? = some v) : 0 ≤ v ∧ v < n := by
  have hi := (List.getElem?_eq_some_iff.1 hv).1
  have h1 := List.all_eq_true.1 h i (by simpa using hi)
  unfold okAt at h1
  rw [hv] at h1
  simp only [Bool.and_eq_true, decide_eq_true_eq] at h1
  exact h1.1
theorem okAt_of {n : Int} {l : List Int} {i : Nat} {v : Int} (hv : l[i]? = some v) : okAt n l i = (decide (0 ≤ v ∧ v < n) && !(l.take i).contains v) := by
  unfold okAt
  rw [hv]
/-- A block of truth values. -/
def BlkT (w : World) (B : Nat) (l : List Bool) : Prop := w.heap[B]? = some (.cells (l.map Value.bool).toArray 4 (0, 0))
theorem BlkT.below {w w' : World} {B : Nat} {l : List Bool} (h : BlkT w B l) (hb : Below w.heap.size w w') : BlkT w' B l := (hb.block _ (lt_of_block h)).trans h
theorem BlkT.cell {w : World} {B : Nat} {l : List Bool} (h : BlkT w B l) {i : Nat} {b : Bool} (hb : l[i]? = some b) : w.cell? ⟨B, i, none⟩ = some (.bool b) := by
  rw [cell_of_row _ _ _ _ _ _ h, List.getElem?_toArray, List.getElem?_map, hb]
  rfl
theorem BlkT.frozen {w : World} {B : Nat} {l : List Bool} (h : BlkT w B l) (i : Nat) : w.frozen? ⟨B, i, none⟩ = false := frozen_of_row _ _ i _ _ h
theorem BlkT.setCell {w : World} {B : Nat} {l : List Bool} (h : BlkT w B l) (k : Nat) (b : Bool) : BlkT (w.setCell ⟨B, k, none⟩ (.bool b)) B (l.set k b) := by
  have h' : w.heap[B]? = some (.cells (l.map Value.bool).toArray 4 (0, 0)) := h
  simp [BlkT, World.setCell, Array.getElem?_modify, h', List.map_set]
theorem wpList_make_bools {P : Program} {w : World} {ops : Array Oper} {rest : List Oper} {o : Oper} {a : Act} {Q : Exit → Act → World → Prop}
    (hg : o.guard = none) (l c : Operand) (t : TypeId) (hop : o.op = Op.makeSlice t l c) (h1 : P.underlying t = some (.slice 4))
    (h2 : (P.info? 4).map (fun i => (i.zero, i.size, i.bytes)) = some (some (.bool false), 1, 1)) (n : Nat) (hl : a.eval l = .int .i64 n) (hc : a.eval c = .int .i64 n) (hn : n ≤ 1073741824)
    (hK : ∀ w', BlkT w' w.heap.size (List.replicate n false) → Below w.heap.size w w' → Hid (w'.heap.size = w.heap.size + 1) → wpList P ops Q rest (a.put o.dst (.slice (some ⟨w.heap.size, 0, none⟩) n n)) w') :
    wpList P ops Q (o :: rest) a w := by
  obtain ⟨i, hi, hz, hs, hb⟩ := info_parts h2
  refine wpList_plain hg fun K hK' => ?_
  have hr := run_make (P := P) w t 4 i _ h1 hi hz .i64 .i64 n n (by omega) (Int.le_refl _) (by rw [hb]; omega) (by omega)
  simp only [Int.toNat_natCast, hs, Value.cells, madeCells_one, Nat.mul_one] at hr
  unfold Oper.wp
  simp [execOp, hop, hl, hc, hr, Result.andThen]
  refine hK' _ _ (hK _ ?_ ((Below.refl _ _).alloc (Nat.le_refl _) _) (Lib.hid (by simp)))
  show (w.heap.push _)[w.heap.size]? = _
  simp
theorem take_has {l : List Int} {i : Nat} {v : Int} (hv : l[i]? = some v) : l.take (i + 1) = l.take i ++ [v] := by
  obtain ⟨hi, h9⟩ := List.getElem?_eq_some_iff.1 hv
  rw [List.take_succ_eq_append_getElem hi, h9]
/-- Which of n places stand in a list. -/
def seenL (n : Nat) (l : List Int) : List Bool := (List.range n).map (fun (j : Nat) => l.contains (j : Int))
theorem seenL_at {n j : Nat} {l : List Int} (hj : j < n) : (seenL n l)[j]? = some (l.contains (j : Int)) := by
  unfold seenL
  rw [List.getElem?_map, List.getElem?_range hj]
  rfl
theorem seenL_nil (n : Nat) : seenL n [] = List.replicate n false := by
  unfold seenL
  apply List.ext_getElem?
  intro i
  rw [List.getElem?_map]
  by_cases hi : i < n
  · rw [List.getElem?_range hi, List.getElem?_replicate, if_pos hi]; rfl
  · rw [List.getElem?_eq_none (by simp; omega), List.getElem?_replicate, if_neg hi]; rfl
theorem seenL_set {n j : Nat} {l : List Int} : (seenL n l).set j true = seenL n (l ++ [(j : Int)]) := by
  apply List.ext_getElem?
  intro i
  by_cases hi : i < n
  · by_cases hij : i = j
    · subst hij
      rw [List.getElem?_set_self (by simp [seenL]; exact hi), seenL_at hi]
      simp
    · rw [List.getElem?_set_ne (fun e => hij e.symm), seenL_at hi, seenL_at hi]
      have h9 : ¬ ((i : Int) = (j : Int)) := by omega
      simp [h9]
  · rw [List.getElem?_eq_none (by simp [seenL]; omega), List.getElem?_eq_none (by simp [seenL]; omega)]
theorem okAt_low {n v : Int} {l : List Int} {i : Nat} (hv : l[i]? = some v) (h : ¬ (0 ≤ v ∧ v < n)) : okAt n l i = false := by
  rw [okAt_of hv]
  simp [h]

set_option maxRecDepth 8000 in
set_option maxHeartbeats 4000000 in
theorem distinct_w {w : World} {n : Nat} {fa ga ra a : Option Addr} {fn fc gn gc rn rc m c : Nat} {l : List Int} (h : IntsF w a l) (hm : m = l.length) (hn : n ≤ 1000) (hm9 : m ≤ 1000) :
    Calls Tryz.prog 29 #[.agg #[.int .i64 (n : Nat), .slice fa fn fc, .slice ga gn gc, .slice ra rn rc], .slice a m c] w fun e w' => e = .returned (.bool (okV n l)) ∧ Below w.heap.size w w' := by
  have HI := Lib.hid h
  have HM := Lib.hid hm
  obtain ⟨w1, hw1⟩ : ∃ w1, w1 = w.alloc (Obj.cells #[Value.int .i64 (n : Int), Value.slice fa fn fc, Value.slice ga gn gc, Value.slice ra rn rc] 26) := ⟨_, rfl⟩
  have HB1 : Hid (Below w.heap.size w w1) := Lib.hid (by rw [hw1]; exact (Below.refl _ _).alloc (Nat.le_refl _) _)
  have HX1 : Hid (w1.heap[w.heap.size]? = some (.cells #[Value.int .i64 (n : Int), Value.slice fa fn fc, Value.slice ga gn gc, Value.slice ra rn rc] 26 (0, 0))) := Lib.hid (by rw [hw1]; exact heap_alloc_new w _)
  have HW1 := Lib.hid hw1.symm
  clear h hm hw1
  have RX := Lib.hid (cells_later HX1.out)
  have x0 := RX.out 0 _ rfl _ (Below.refl _ _)
  obtain ⟨okb, hokb⟩ : ∃ b, b = okV (n : Int) l := ⟨_, rfl⟩
  have HOK := Lib.hid hokb
  rw [← hokb]
  clear hokb
  go_enter Tryz.func29, Tryz.ntmps29
  go_wp2_with (at_make; rw [HW1.out]; refine wpList_make_bools rfl _ _ _ rfl Tryz.underlying22 info_bool9 n rfl rfl (by omega) ?_; intro w2 hr2 hb2 hs2; refine halt ?_)
  refine go_on ?_
  obtain ⟨G, hG⟩ : ∃ G, G = w1.heap.size := ⟨_, rfl⟩
  rw [← hG] at hr2 ⊢
  have HGB : Hid (w.heap.size < G) := Lib.hid (by rw [hG]; exact lt_of_block HX1.out)
  have HT2 : Hid (BlkT w2 G (seenL n (l.take 0))) := Lib.hid (by rw [List.take_zero, seenL_nil]; exact hr2)
  have HZ2 : Hid (Below w1.heap.size w1 w2) := Lib.hid hb2
  have HGW : Hid (w1.heap.size ≤ G) := Lib.hid (by omega)
  clear hr2 hb2 hs2 hG x0
  go_wp2_with fail
  go_loopw [13] (fun iv wr => ∃ i : Nat, i ≤ m ∧ iv = .int .i64 i ∧ Hid (BlkT wr G (seenL n (l.take i))) ∧ Hid (Below w1.heap.size w1 wr) ∧ Hid (∀ j, j < i → okAt (n : Int) l j = true)) (fun iv _ => m - (intOf iv).toNat)
  case atStart => exact ⟨0, Nat.zero_le _, rfl, HT2, HZ2, Lib.hid (fun j hj => absurd hj (Nat.not_lt_zero _))⟩
  case round =>
    obtain ⟨i, hi, rfl, hT, hZ, hok⟩ := hrel
    obtain ⟨wo, rfl⟩ : ∃ wo : World, wo = wr := ⟨_, rfl⟩
    by_cases hin : i < m
    · have t0 : decide ((i : Int) < (m : Int)) = true := by simp; omega
      obtain ⟨z, B, off, hz, ha, hzb, hc⟩ := HI.out.at (i := i) (by have := HM.out; omega)
      subst ha
      have e1 := hc wo (below_trans HB1.out hZ.out)
      have x0 := RX.out 0 _ rfl _ hZ.out
      have HLZ := Lib.hid hz
      clear hc hz
      by_cases hz0 : z < 0
      · have t1 : decide (z < 0) = true := by simpa using hz0
        have HE : Hid (false = okb) := Lib.hid (by rw [HOK.out]; exact (okV_no (by have := HM.out; omega) (okAt_low HLZ.out (by omega))).symm)
        go_wp2_with fail
        go_ret
        exact ⟨by rw [← HE.out]; rfl, below_trans HB1.out hZ.out⟩
      · have t1 : decide (z < 0) = false := by simpa using hz0
        obtain ⟨v, rfl⟩ : ∃ v : Nat, z = (v : Int) := ⟨z.toNat, by omega⟩
        by_cases hvn : v < n
        · have t2 : decide ((n : Int) ≤ (v : Int)) = false := by simp; omega
          have t3 : decide ((v : Int) ≥ (n : Int)) = false := by simp; omega
          obtain ⟨sb, hsb⟩ : ∃ b, b = (l.take i).contains (v : Int) := ⟨_, rfl⟩
          have e2 : wo.cell? ⟨G, v, none⟩ = some (.bool sb) := hT.out.cell (by rw [hsb]; exact seenL_at hvn)
          have HSB := Lib.hid hsb
          have HOA : Hid (okAt (n : Int) l i = !sb) := Lib.hid (by
            rw [okAt_of HLZ.out, hsb]
            have h9 : decide (0 ≤ (v : Int) ∧ (v : Int) < (n : Int)) = true := by simp; omega
            rw [h9, Bool.true_and])
          clear hsb
          cases sb with
          | true =>
            have HE : Hid (false = okb) := Lib.hid (by rw [HOK.out]; exact (okV_no (by have := HM.out; omega) HOA.out).symm)
            go_wp2_with fail
            go_ret
            exact ⟨by rw [← HE.out]; rfl, below_trans HB1.out hZ.out⟩
          | false =>
            have z0 := hT.out.frozen v
            have HT9 : Hid (BlkT (wo.setCell ⟨G, v, none⟩ (.bool true)) G (seenL n (l.take (i + 1)))) := Lib.hid (by rw [take_has HLZ.out, ← seenL_set]; exact hT.out.setCell v true)
            have HZ9 : Hid (Below w1.heap.size w1 (wo.setCell ⟨G, v, none⟩ (.bool true))) := Lib.hid (below_only hZ.out ((Only.refl G wo).setCell v _) HGW.out)
            have HOK9 : Hid (∀ j, j < i + 1 → okAt (n : Int) l j = true) := Lib.hid (fun j hj => by
              by_cases hji : j = i
              · rw [hji]; exact HOA.out
              · exact hok.out j (by omega))
            go_wp2_with fail
            go_roundw
            case rel => exact ⟨i + 1, by omega, by go_num, HT9, HZ9, HOK9⟩
            case measure => simp [intOf]; omega
        · have t2 : decide ((n : Int) ≤ (v : Int)) = true := by simp; omega
          have t3 : decide ((v : Int) ≥ (n : Int)) = true := by simp; omega
          have HE : Hid (false = okb) := Lib.hid (by rw [HOK.out]; exact (okV_no (by have := HM.out; omega) (okAt_low HLZ.out (by omega))).symm)
          go_wp2_with fail
          go_ret
          exact ⟨by rw [← HE.out]; rfl, below_trans HB1.out hZ.out⟩
    · have t0 : decide ((i : Int) < (m : Int)) = false := by simp; omega
      have HE : Hid (true = okb) := Lib.hid (by rw [HOK.out]; exact (okV_yes (fun j hj => hok.out j (by have := HM.out; omega))).symm)
      go_wp2_with fail
      go_ret
      exact ⟨by rw [← HE.out]; rfl, below_trans HB1.out hZ.out⟩
set_option maxRecDepth 8000 in
set_option maxHeartbeats 2000000 in
theorem rwithin_w {w : World} {a : Option Addr} {m c : Nat} {l : List Int} {v : Int} (h : IntsF w a l) (hm : m ≤ l.length) (hm9 : m ≤ 1000) :
    Calls Tryz.prog 33 #[.slice a m c, .int .i64 v] w fun e w' => e = .returned (.bool ((l.take m).contains v)) ∧ Below w.heap.size w w' := by
  have HI := Lib.hid h
  have HM := Lib.hid hm
  obtain ⟨okb, hokb⟩ : ∃ b, b = (l.take m).contains v := ⟨_, rfl⟩
  have HOK := Lib.hid hokb
  rw [← hokb]
  clear h hm hokb
  go_enter Tryz.func33, Tryz.ntmps33
  go_wp2_with fail
  go_loopw [9] (fun iv wr => ∃ i : Nat, i ≤ m ∧ iv = .int .i64 i ∧ Hid (Below w.heap.size w wr) ∧ Hid ((l.take i).contains v = false)) (fun iv _ => m - (intOf iv).toNat)
  case atStart => exact ⟨0, Nat.zero_le _, rfl, Lib.hid (Below.refl _ _), Lib.hid (by simp)⟩
  case round =>
    obtain ⟨i, hi, rfl, hZ, hno⟩ := hrel
    obtain ⟨wo, rfl⟩ : ∃ wo : World, wo = wr := ⟨_, rfl⟩
    by_cases hin : i < m
    · have t0 : decide ((i : Int) < (m : Int)) = true := by simp; omega
      obtain ⟨z, B, off, hz, ha, hzb, hc⟩ := HI.out.at (i := i) (by have := HM.out; omega)
      subst ha
      have e1 := hc wo hZ.out
      have HLZ := Lib.hid hz
      clear hc hz
      by_cases hzv : z = v
      · subst hzv
        have HE : Hid (true = okb) := Lib.hid (by
          rw [HOK.out]
          have h9 : (l.take m)[i]? = some z := by rw [List.getElem?_take, if_pos hin]; exact HLZ.out
          exact (List.contains_iff_mem.2 (List.mem_of_getElem? h9)).symm)
        go_wp2_with fail
        go_ret
        exact ⟨by rw [← HE.out]; rfl, hZ.out⟩
      · have t1 : (z == v) = false := by simpa using hzv
        have t2 : decide (z = v) = false := by simpa using hzv
        have HN9 : Hid ((l.take (i + 1)).contains v = false) := Lib.hid (by
          rw [take_has HLZ.out, List.contains_eq_any_beq, List.any_append, ← List.contains_eq_any_beq, hno.out]
          have h9 : (v == z) = false := by simpa using fun e : v = z => hzv e.symm
          simp [h9])
        go_wp2_with fail
        go_roundw
        case rel => exact ⟨i + 1, by omega, by go_num, hZ, HN9⟩
        case measure => simp [intOf]; omega
    · have t0 : decide ((i : Int) < (m : Int)) = false := by simp; omega
      have HE : Hid (false = okb) := Lib.hid (by
        rw [HOK.out, ← hno.out]
        congr 2
        omega)
      go_wp2_with fail
      go_ret
      exact ⟨by rw [← HE.out]; rfl, hZ.out⟩
end Go.Proofs.YtafenoohjcpjgaaGreat

/- Bits: is any of them none? -/
namespace Go.Proofs.YtafenoohjcpjgaaGreat
open Go.RowKit
attribute [local go_sem ↓] Go.wp_at_zero Go.wp_at_succ

/-- A bit that is none. -/
def badB (z : Int) : Bool := decide (z ≠ 0) && decide (z ≠ 1)
set_option maxRecDepth 8000 in
theorem fixed1_w {w : World} {z : Int} : Calls Tryz.prog 31 #[.int .i64 z] w fun e w' => e = .returned (.bool (badB z)) ∧ Below w.heap.size w w' := by
  by_cases h0 : z = 0
  · subst h0
    go_enter Tryz.func31, Tryz.ntmps31
    go_wp2_with fail
    go_ret
    exact ⟨rfl, Below.refl _ _⟩
  · have t0 : (z != 0) = true := by simpa using h0
    have t0' : decide (z = 0) = false := by simpa using h0
    by_cases h1 : z = 1
    · subst h1
      go_enter Tryz.func31, Tryz.ntmps31
      go_wp2_with fail
      go_ret
      exact ⟨rfl, Below.refl _ _⟩
    · have t1 : (z != 1) = true := by simpa using h1
      have t1' : decide (z = 1) = false := by simpa using h1
      have hb : badB z = true := by simp [badB, h0, h1]
      rw [hb]
      go_enter Tryz.func31, Tryz.ntmps31
      go_wp2_with fail
      go_ret
      exact ⟨rfl, Below.refl _ _⟩
/-- The first place of a list at which something is so. -/
def firstI (p : Int → Bool) (l : List Int) : Int := match l.findIdx? p with
  | some i => i
  | none => -1
theorem firstI_no {p : Int → Bool} {l : List Int} (h : ∀ i z, i < l.length → l[i]? = some z → p z = false) : firstI p l = -1 ∧ l.any p = false := by
  have h1 : l.any p = false := by
    rw [List.any_eq_false]
    intro z hz
    obtain ⟨i, hi, rfl⟩ := List.mem_iff_getElem.1 hz
    rw [h i _ hi (List.getElem?_eq_getElem hi)]
    decide
  refine ⟨?_, h1⟩
  unfold firstI
  have h2 : l.findIdx? p = none := by
    rw [List.findIdx?_eq_none_iff]
    intro z hz
    have := List.any_eq_false.1 h1 z hz
    simpa using this
  rw [h2]
set_option maxRecDepth 8000 in
set_option maxHeartbeats 2000000 in
theorem idxfixed_w {w : World} {a : Option Addr} {m c : Nat} {l : List Int} (h : IntsF w a l) (hm : m = l.length) (hm9 : m ≤ 1000) :
    Calls Tryz.prog 62 #[.slice a m c, .func (.func 31) #[] #[]] w fun e w' => (∃ z, e = .returned (.int .i64 z) ∧ decide (0 ≤ z) = l.any badB) ∧ Below w.heap.size w w' := by
  have HI := Lib.hid h
  have HM := Lib.hid hm
  have KF := Lib.hid (fun w' z => fixed1_w (w := w') (z := z))
  obtain ⟨okb, hokb⟩ : ∃ b, b = l.any badB := ⟨_, rfl⟩
  have HOK := Lib.hid hokb
  rw [← hokb]
  clear h hm hokb
  go_enter Tryz.func62, Tryz.ntmps62
  go_wp2_with fail
  go_loopw [8] (fun iv wr => ∃ i : Nat, i ≤ m ∧ iv = .int .i64 i ∧ Hid (Below w.heap.size w wr) ∧ Hid (∀ j z, j < i → l[j]? = some z → badB z = false)) (fun iv _ => m - (intOf iv).toNat)
  case atStart => exact ⟨0, Nat.zero_le _, rfl, Lib.hid (Below.refl _ _), Lib.hid (fun j z hj => absurd hj (Nat.not_lt_zero _))⟩
  case round =>
    obtain ⟨i, hi, rfl, hZ, hno⟩ := hrel
    obtain ⟨wo, rfl⟩ : ∃ wo : World, wo = wr := ⟨_, rfl⟩
    by_cases hin : i < m
    · have t0 : decide ((i : Int) < (m : Int)) = true := by simp; omega
      obtain ⟨z, B, off, hz, ha, hzb, hc⟩ := HI.out.at (i := i) (by have := HM.out; omega)
      subst ha
      have e1 := hc wo hZ.out
      have HLZ := Lib.hid hz
      clear hc hz
      obtain ⟨bz, hbz⟩ : ∃ b, b = badB z := ⟨_, rfl⟩
      have HBZ := Lib.hid hbz
      go_wp2_with fail
      refine (KF.out _ _).mono ?_
      rintro en2 w2 ⟨rfl, hb2⟩
      rw [← hbz]
      have HZ2 := Lib.hid (below_trans hZ.out hb2)
      clear hb2 hbz
      cases bz with
      | true =>
        have HE : Hid (true = okb) := Lib.hid (by
          rw [HOK.out]
          exact (List.any_eq_true.2 ⟨z, List.mem_of_getElem? HLZ.out, HBZ.out.symm⟩).symm)
        go_wp2_with fail
        go_ret
        exact ⟨⟨_, rfl, by rw [← HE.out]; simp⟩, HZ2.out⟩
      | false =>
        have HN9 : Hid (∀ j z, j < i + 1 → l[j]? = some z → badB z = false) := Lib.hid (fun j y hj hy => by
          by_cases hji : j = i
          · subst hji
            rw [HLZ.out] at hy
            cases hy
            exact HBZ.out.symm
          · exact hno.out j y (by omega) hy)
        go_wp2_with fail
        go_roundw
        case rel => exact ⟨i + 1, by omega, by go_num, HZ2, HN9⟩
        case measure => simp [intOf]; omega
    · have t0 : decide ((i : Int) < (m : Int)) = false := by simp; omega
      have HE : Hid (false = okb) := Lib.hid (by
        rw [HOK.out]
        exact ((firstI_no (fun j z hj hz => hno.out j z (by have := HM.out; omega) hz)).2).symm)
      go_wp2_with fail
      go_ret
      exact ⟨⟨_, rfl, by rw [← HE.out]; simp⟩, hZ.out⟩
set_option maxRecDepth 8000 in
theorem anyfixed_w {w : World} {a : Option Addr} {m c : Nat} {l : List Int} (h : IntsF w a l) (hm : m = l.length) (hm9 : m ≤ 1000) :
    Calls Tryz.prog 30 #[.slice a m c, .func (.func 31) #[] #[]] w fun e w' => e = .returned (.bool (l.any badB)) ∧ Below w.heap.size w w' := by
  have KF := Lib.hid (idxfixed_w (c := c) h hm hm9)
  obtain ⟨okb, hokb⟩ : ∃ b, b = l.any badB := ⟨_, rfl⟩
  rw [← hokb] at KF ⊢
  clear h hm hokb
  go_enter Tryz.func30, Tryz.ntmps30
  go_wp2_with fail
  refine KF.out.mono ?_
  rintro en2 w2 ⟨⟨z, rfl, hz⟩, hb2⟩
  have HZ := Lib.hid hz
  have t0 : decide (z ≥ 0) = okb := hz
  clear hz
  cases okb with
  | true =>
    go_wp2_with fail
    go_ret
    exact ⟨rfl, hb2⟩
  | false =>
    go_wp2_with fail
    go_ret
    exact ⟨rfl, hb2⟩
end Go.Proofs.YtafenoohjcpjgaaGreat
