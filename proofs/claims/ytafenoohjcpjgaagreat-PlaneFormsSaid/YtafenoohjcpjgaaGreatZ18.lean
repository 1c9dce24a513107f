/- Several texts in one: F1, F2, F4, F5, F3, F6, F7, F8, F9, G1, G2, G3, H2, J1. -/
import Derived.Test.YtafenoohjcpjgaaGreatZ17
import Derived.Deep.DrawnRows
import Derived.Deep.DeepCutAuto
import Derived.Deep.AppendLies
import Derived.Test.YtafenoohjcpjgaaGreatZ12
/- Lists of fractions: sums, and how long they can be. -/
namespace Go.Proofs.YtafenoohjcpjgaaGreat
open Go.RowKit

/-- A list of fractions of at most N words each. -/
def ListF (N : Nat) (w : World) (v : Value) (qs : List Rat) : Prop :=
  ∃ a c, v = .slice a qs.length c ∧ ∀ i q, qs[i]? = some q → ∃ B off b a1 n1 c1 a2 n2 c2, a = some ⟨B, off, none⟩ ∧ w.cell? ⟨B, off + i * 3, none⟩ = some (.bool b) ∧ w.cell? ⟨B, off + i * 3 + 1, none⟩ = some (.slice a1 n1 c1) ∧ w.cell? ⟨B, off + i * 3 + 2, none⟩ = some (.slice a2 n2 c2) ∧ FewF N w (.agg #[.bool b, .slice a1 n1 c1, .slice a2 n2 c2]) q
theorem ListF.below {N : Nat} {w w' : World} {v : Value} {qs : List Rat} (h : ListF N w v qs) (hb : Below w.heap.size w w') : ListF N w' v qs := by
  obtain ⟨a, c, hv, h⟩ := h
  refine ⟨a, c, hv, fun i q hi => ?_⟩
  obtain ⟨B, off, b, a1, n1, c1, a2, n2, c2, ha, h0, h1, h2, hf⟩ := h i q hi
  exact ⟨B, off, b, a1, n1, c1, a2, n2, c2, ha, cell_below hb h0, cell_below hb h1, cell_below hb h2, hf.below hb⟩
/-- An element of a list, as the walk reads it. -/
theorem ListF.at {N : Nat} {w : World} {a : Option Addr} {n c : Nat} {qs : List Rat} (h : ListF N w (.slice a n c) qs) {i : Nat} (hi : i < n) :
    ∃ q B off b a1 n1 c1 a2 n2 c2, qs[i]? = some q ∧ a = some ⟨B, off, none⟩ ∧ (∀ w', Below w.heap.size w w' → w'.cell? ⟨B, off + i * 3, none⟩ = some (.bool b) ∧ w'.cell? ⟨B, off + i * 3 + 1, none⟩ = some (.slice a1 n1 c1) ∧ w'.cell? ⟨B, off + i * 3 + 2, none⟩ = some (.slice a2 n2 c2)) ∧ FewF N w (.agg #[.bool b, .slice a1 n1 c1, .slice a2 n2 c2]) q := by
  obtain ⟨a', c', hv, h⟩ := h
  simp only [Value.slice.injEq] at hv
  obtain ⟨rfl, rfl, rfl⟩ := hv
  obtain ⟨B, off, b, a1, n1, c1, a2, n2, c2, ha, h0, h1, h2, hf⟩ := h i (qs[i]'hi) (List.getElem?_eq_getElem hi)
  exact ⟨qs[i], B, off, b, a1, n1, c1, a2, n2, c2, List.getElem?_eq_getElem hi, ha, fun w' hb => ⟨cell_below hb h0, cell_below hb h1, cell_below hb h2⟩, hf⟩
theorem ListF.len {N : Nat} {w : World} {a : Option Addr} {n c : Nat} {qs : List Rat} (h : ListF N w (.slice a n c) qs) : n = qs.length := by
  obtain ⟨a', c', hv, -⟩ := h
  simp only [Value.slice.injEq] at hv
  exact hv.2.1
def nthQ (qs : List Rat) (i : Nat) : Rat := (qs[i]?).getD 0
theorem nthQ_of {qs : List Rat} {i : Nat} {q : Rat} (h : qs[i]? = some q) : nthQ qs i = q := by unfold nthQ; rw [h]; rfl
end Go.Proofs.YtafenoohjcpjgaaGreat

/- Lists of fractions: the terms added up by halves. -/
namespace Go.Proofs.YtafenoohjcpjgaaGreat
open Go.RowKit
attribute [local go_sem ↓] Go.wp_at_zero Go.wp_at_succ

end Go.Proofs.YtafenoohjcpjgaaGreat

/- Lists of fractions: one term. -/
namespace Go.Proofs.YtafenoohjcpjgaaGreat
open Go.RowKit
attribute [local go_sem ↓] Go.wp_at_zero Go.wp_at_succ

end Go.Proofs.YtafenoohjcpjgaaGreat

/- Lists of fractions: sums. -/
namespace Go.Proofs.YtafenoohjcpjgaaGreat
open Go.RowKit
attribute [local go_sem ↓] Go.wp_at_zero Go.wp_at_succ

end Go.Proofs.YtafenoohjcpjgaaGreat

/- Lists of fractions: the terms of products added up by halves. -/
namespace Go.Proofs.YtafenoohjcpjgaaGreat
open Go.RowKit
attribute [local go_sem ↓] Go.wp_at_zero Go.wp_at_succ

end Go.Proofs.YtafenoohjcpjgaaGreat

/- Lists of fractions: one term of a sum of products. -/
namespace Go.Proofs.YtafenoohjcpjgaaGreat
open Go.RowKit
attribute [local go_sem ↓] Go.wp_at_zero Go.wp_at_succ

theorem cell_lt {w : World} {b o : Nat} {v : Value} (h : w.cell? ⟨b, o, none⟩ = some v) : b < w.heap.size := by
  by_cases hb : b < w.heap.size
  · exact hb
  · have : w.heap[b]? = none := by simp; omega
    simp [World.cell?, this] at h
end Go.Proofs.YtafenoohjcpjgaaGreat

/- Lists of fractions: sums of products. -/
namespace Go.Proofs.YtafenoohjcpjgaaGreat
open Go.RowKit
attribute [local go_sem ↓] Go.wp_at_zero Go.wp_at_succ

end Go.Proofs.YtafenoohjcpjgaaGreat

/- Lists of fractions: the first best one; the reference. -/
namespace Go.Proofs.YtafenoohjcpjgaaGreat
open Go.RowKit
attribute [local go_sem ↓] Go.wp_at_zero Go.wp_at_succ

end Go.Proofs.YtafenoohjcpjgaaGreat

/- Lists of fractions: the first best one; the program. -/
namespace Go.Proofs.YtafenoohjcpjgaaGreat
open Go.RowKit
attribute [local go_sem ↓] Go.wp_at_zero Go.wp_at_succ

theorem RatQ.other {w w' : World} {v : Value} {q : Rat} {B : Nat} {t : TypeId} {fr : Nat × Nat} {b : Bool} {a i : Option Addr} {n c j k : Nat} (h : RatQ w v q) (hB : w.heap[B]? = some (.cells #[Value.slice a n c, Value.bool b, Value.slice i j k] t fr)) (ho : Only B w w') : RatQ w' v q := by
  obtain ⟨u, d, rfl, hu, hd⟩ := h
  exact ⟨u, d, rfl, hu.other hB (rat_cells ⟨_, _, _, rfl⟩ ⟨_, _, _, rfl⟩) ho, hd.other hB (rat_cells ⟨_, _, _, rfl⟩ ⟨_, _, _, rfl⟩) ho⟩

end Go.Proofs.YtafenoohjcpjgaaGreat

/- Lists of fractions: sums of the reference. -/
namespace Go.Proofs.YtafenoohjcpjgaaGreat
open Go.RowKit
attribute [local go_sem ↓] Go.wp_at_zero Go.wp_at_succ

end Go.Proofs.YtafenoohjcpjgaaGreat

/- Lists of fractions: sums of products of the reference. -/
namespace Go.Proofs.YtafenoohjcpjgaaGreat
open Go.RowKit
attribute [local go_sem ↓] Go.wp_at_zero Go.wp_at_succ

end Go.Proofs.YtafenoohjcpjgaaGreat

/- Lists of fractions: copies. -/
namespace Go.Proofs.YtafenoohjcpjgaaGreat
open Go.RowKit
attribute [local go_sem ↓] Go.wp_at_zero Go.wp_at_succ

theorem IsW.keep {w w' : World} {v : Value} {l : List Nat} (h : IsW w v l) (hs : w.heap.size ≤ w'.heap.size) (hb : l ≠ [] → ∀ b, v.ownBlock = some b → w'.heap[b]? = w.heap[b]?) : IsW w' v l := by
  by_cases hl : l = []
  · subst hl; exact h.empty
  have hb := hb hl
  obtain ⟨a, cap, rfl, h1, h2, h3, h4, h5⟩ := h
  refine ⟨a, cap, rfl, h1, h2, h3, h4.of_blocks hs ?_, fun hne x hx => Nat.lt_of_lt_of_le (h5 hne x hx) hs⟩
  rintro x rfl
  exact hb _ (by simp [Value.ownBlock])
theorem IsW.ne0 {w : World} {a : Option Addr} {n c : Nat} {l : List Nat} (h : IsW w (.slice a n c) l) : l ≠ [] ↔ n ≠ 0 := by
  obtain ⟨a', c', hv, -⟩ := h
  simp only [Value.slice.injEq] at hv
  obtain ⟨-, rfl, -⟩ := hv
  simp
theorem FewF.keep {N : Nat} {w w' : World} {b : Bool} {a1 a2 : Option Addr} {n1 c1 n2 c2 : Nat} {q : Rat} (h : FewF N w (.agg #[.bool b, .slice a1 n1 c1, .slice a2 n2 c2]) q) (hs : w.heap.size ≤ w'.heap.size)
    (h1 : n1 ≠ 0 → ∀ x, (Value.slice a1 n1 c1).ownBlock = some x → w'.heap[x]? = w.heap[x]?) (h2 : n2 ≠ 0 → ∀ x, (Value.slice a2 n2 c2).ownBlock = some x → w'.heap[x]? = w.heap[x]?) : FewF N w' (.agg #[.bool b, .slice a1 n1 c1, .slice a2 n2 c2]) q := by
  obtain ⟨b', l, m, ⟨u, d, he, hu, hd⟩, hq, hl, hm⟩ := h
  simp only [Value.agg.injEq, Array.mk.injEq, List.cons.injEq, and_true] at he
  obtain ⟨hb, rfl, rfl⟩ := he
  exact ⟨b', l, m, ⟨_, _, by rw [hb], hu.keep hs (fun e => h1 (hu.ne0.1 e)), hd.keep hs (fun e => h2 (hd.ne0.1 e))⟩, hq, hl, hm⟩
theorem FewF.own {N : Nat} {w : World} {b : Bool} {a1 a2 : Option Addr} {n1 c1 n2 c2 : Nat} {q : Rat} (h : FewF N w (.agg #[.bool b, .slice a1 n1 c1, .slice a2 n2 c2]) q) : (n1 ≠ 0 → ∀ x, (Value.slice a1 n1 c1).ownBlock = some x → x < w.heap.size) ∧ (n2 ≠ 0 → ∀ x, (Value.slice a2 n2 c2).ownBlock = some x → x < w.heap.size) := by
  obtain ⟨b', l, m, ⟨u, d, he, hu, hd⟩, -, -, -⟩ := h
  simp only [Value.agg.injEq, Array.mk.injEq, List.cons.injEq, and_true] at he
  obtain ⟨-, rfl, rfl⟩ := he
  exact ⟨fun e => hu.own_lt (hu.ne0.2 e), fun e => hd.own_lt (hd.ne0.2 e)⟩

theorem info_frac : (Tryz.prog.info? 43).map (fun i => (i.zero, i.size, i.bytes)) = some (some (.agg #[Value.bool false, Value.slice none 0 0, Value.slice none 0 0]), 3, 56) := by kernel_rfl
end Go.Proofs.YtafenoohjcpjgaaGreat

/- FracLists answers true at every input, and what it is handed reads behind the call as it read before: the sum, the dot product, the least and the most of any lists are told as the reference tells them. No conditions. -/
namespace Go.Proofs.YtafenoohjcpjgaaGreat
open Go.RowKit
attribute [local go_sem ↓] Go.wp_at_zero Go.wp_at_succ

/-- How many words a fraction of a list has above (k = 1) or below (k = 2). -/
def cellLen (w : World) (a : Option Addr) (k i : Nat) : Nat :=
  match a with
  | none => 0
  | some x => match w.cell? ⟨x.block, x.off + i * 3 + k, none⟩ with
    | some (.slice _ n _) => n
    | _ => 0
theorem ListI.cells {w : World} {v : Value} {a : Option Addr} {n c : Nat} (h : ListI w v a n c) {i : Nat} (hi : i < n) :
    ∃ B off b a1 c1 a2 c2, a = some ⟨B, off, none⟩ ∧ w.cell? ⟨B, off + i * 3, none⟩ = some (.bool b) ∧ w.cell? ⟨B, off + i * 3 + 1, none⟩ = some (.slice a1 (cellLen w a 1 i) c1) ∧ w.cell? ⟨B, off + i * 3 + 2, none⟩ = some (.slice a2 (cellLen w a 2 i) c2) ∧
      FracI w (.agg #[.bool b, .slice a1 (cellLen w a 1 i) c1, .slice a2 (cellLen w a 2 i) c2]) b a1 (cellLen w a 1 i) c1 a2 (cellLen w a 2 i) c2 := by
  obtain ⟨B, off, b, a1, n1, c1, a2, n2, c2, rfl, h0, h1, h2, hF⟩ := h.2 i hi
  have e1 : cellLen w (some ⟨B, off, none⟩) 1 i = n1 := by simp only [cellLen, h1]
  have e2 : cellLen w (some ⟨B, off, none⟩) 2 i = n2 := by simp only [cellLen, h2]
  rw [e1, e2]
  exact ⟨B, off, b, a1, c1, a2, c2, rfl, h0, h1, h2, hF⟩
theorem ListI.listF {w : World} {v : Value} {a : Option Addr} {n c N : Nat} (h : ListI w v a n c) (hN : N ≤ 1073741824) (hf : fewB N n (cellLen w a 1) (cellLen w a 2) = true) :
    ∃ qs, n = qs.length ∧ ListF N w (.slice a n c) qs := by
  have hf' : ∀ i, i < n → cellLen w a 1 i ≤ N ∧ cellLen w a 2 i ≤ N := by simpa [fewB] using hf
  have build : ∀ k, k ≤ n → ∃ qs : List Rat, qs.length = k ∧ ∀ i q, qs[i]? = some q → ∃ B off b a1 n1 c1 a2 n2 c2, a = some ⟨B, off, none⟩ ∧ w.cell? ⟨B, off + i * 3, none⟩ = some (.bool b) ∧ w.cell? ⟨B, off + i * 3 + 1, none⟩ = some (.slice a1 n1 c1) ∧ w.cell? ⟨B, off + i * 3 + 2, none⟩ = some (.slice a2 n2 c2) ∧ FewF N w (.agg #[.bool b, .slice a1 n1 c1, .slice a2 n2 c2]) q := by
    intro k
    induction k with
    | zero => intro _; exact ⟨[], rfl, fun i q hq => by simp at hq⟩
    | succ k ih =>
      intro hk
      obtain ⟨qs, hl, hqs⟩ := ih (by omega)
      obtain ⟨B, off, b, a1, c1, a2, c2, ha, h0, h1, h2, hF⟩ := h.cells (i := k) (by omega)
      obtain ⟨q, hq⟩ := hF.few hN (hf' k (by omega)).1 (hf' k (by omega)).2
      refine ⟨qs ++ [q], by simp [hl], fun i r hr => ?_⟩
      by_cases hi : i < qs.length
      · rw [List.getElem?_append_left hi] at hr
        exact hqs i r hr
      · have hik : i = k := by
          have h9 := (List.getElem?_eq_some_iff.1 hr).1
          simp at h9; omega
        subst hik
        rw [← hl] at hr
        simp at hr
        subst hr
        exact ⟨B, off, b, a1, _, c1, a2, _, c2, ha, h0, h1, h2, hq⟩
  obtain ⟨qs, hl, hqs⟩ := build n (Nat.le_refl _)
  exact ⟨qs, hl.symm, a, c, by rw [hl], hqs⟩
end Go.Proofs.YtafenoohjcpjgaaGreat

/- Programs as they come in: lists of truth values, rows, and the program that they stand for. -/
namespace Go.Proofs.YtafenoohjcpjgaaGreat
open Go.ChangeShapes Go.WideShapes Go.ChangeAt Go.RowKit

theorem list_of {α : Type} {n : Nat} {Pr : Nat → α → Prop} (h : ∀ i, i < n → ∃ x, Pr i x) : ∃ l : List α, l.length = n ∧ ∀ i x, l[i]? = some x → Pr i x := by
  induction n with
  | zero => exact ⟨[], rfl, fun i x h => by simp at h⟩
  | succ n ih =>
    obtain ⟨l, hl, hp⟩ := ih (fun i hi => h i (by omega))
    obtain ⟨x, hx⟩ := h n (by omega)
    refine ⟨l ++ [x], by simp [hl], fun i y hy => ?_⟩
    by_cases hi : i < l.length
    · rw [List.getElem?_append_left hi] at hy
      exact hp i y hy
    · have h9 : i = n := by
        have := (List.getElem?_eq_some_iff.1 hy).1
        simp at this; omega
      subst h9
      rw [← hl] at hy
      simp at hy
      subst hy
      exact hx

theorem list_trod {H : Type} {enc : TypeId × Value → H} {W : World} {v : Value} {fuel : Nat} {x : DataW H × List MemPlace}
    (h : DataW.trod enc Tryz.prog W 0 (fun _ => true) true fuel 23 [v] = some x) : ∃ a n c, ListI W v a n c := by
  have hv : ∃ a n c, v = .slice a n c := by
    rcases DataW.trod_slice Tryz.underlying23 h with ⟨h0, _⟩ | ⟨a', len, cap, elems, rest, m, _, hcs, _⟩
    · simp at h0; exact ⟨_, _, _, h0⟩
    · simp at hcs; exact ⟨_, _, _, hcs⟩
  obtain ⟨a, n, c, rfl⟩ := hv
  exact list_in (d := x.1) (p := x.2) ⟨fuel, by simpa [Value.cells] using h⟩ ⟨a, n, c, rfl⟩

theorem cells_bool : Tryz.prog.cellsOf 4 = 1 := by kernel_rfl
theorem cells_row5 : Tryz.prog.cellsOf 45 = 5 := by kernel_rfl
/-- A row of a program in memory. -/
def Row5 (w : World) (cs : List Value) : Prop :=
  ∃ a1 n1 c1 z b a2 n2 c2 a3 n3 c3, cs = [.slice a1 n1 c1, .int .i64 z, .bool b, .slice a2 n2 c2, .slice a3 n3 c3] ∧ ListI w (.slice a1 n1 c1) a1 n1 c1 ∧ -9223372036854775808 ≤ z ∧ z ≤ 9223372036854775807 ∧
    FracI w (.agg #[.bool b, .slice a2 n2 c2, .slice a3 n3 c3]) b a2 n2 c2 a3 n3 c3
theorem int_trod {H : Type} {enc : TypeId × Value → H} {W : World} {v : Value} {base fuel : Nat} {x : DataW H × List MemPlace}
    (h : DataW.trod enc Tryz.prog W base (fun _ => true) true fuel 3 [v] = some x) : ∃ z, v = .int .i64 z ∧ -9223372036854775808 ≤ z ∧ z ≤ 9223372036854775807 := by
  obtain ⟨z, hz, _, hw⟩ := DataW.trod_int Tryz.underlying3 h
  simp at hz
  refine ⟨z, hz, ?_⟩
  have m1 : IntKind.i64.min = -9223372036854775808 := by decide
  have m2 : IntKind.i64.max = 9223372036854775807 := by decide
  simpa only [Lit.wf, m1, m2, Bool.and_eq_true, decide_eq_true_eq] using hw
set_option maxRecDepth 8000 in
theorem row_trod {H : Type} {enc : TypeId × Value → H} {W : World} {cs : List Value} {fuel : Nat} {x : DataW H × List MemPlace}
    (h : DataW.trod enc Tryz.prog W 0 (fun _ => true) true fuel 45 cs = some x) : Row5 W cs := by
  obtain ⟨xs, n, _, rfl, hl, hlen, hf⟩ := DataW.trod_struct Tryz.underlying45 h
  rw [cells_row5] at hl
  obtain ⟨v0, v1, v2, v3, v4, rfl⟩ : ∃ v0 v1 v2 v3 v4, cs = [v0, v1, v2, v3, v4] := by
    match cs, hl with
    | [c0, c1, c2, c3, c4], _ => exact ⟨c0, c1, c2, c3, c4, rfl⟩
  obtain ⟨y0, y1, y2, rfl⟩ : ∃ y0 y1 y2, xs = [y0, y1, y2] := by
    match xs, hlen with
    | [c0, c1, c2], _ => exact ⟨c0, c1, c2, rfl⟩
  have h0 := hf 0 _ rfl
  have h1 := hf 1 _ rfl
  have h2 := hf 2 _ rfl
  have h0' : DataW.trod enc Tryz.prog W 0 (fun _ => true) true n 23 [v0] = some y0 := h0
  have h1' : DataW.trod enc Tryz.prog W 0 (fun _ => true) true n 3 [v1] = some y1 := h1
  have h2' : DataW.trod enc Tryz.prog W 0 (fun _ => true) true n 43 [v2, v3, v4] = some y2 := h2
  obtain ⟨a1, n1, c1, hL⟩ := list_trod h0'
  obtain rfl := hL.1
  obtain ⟨z, rfl, hz1, hz2⟩ := int_trod h1'
  obtain ⟨b, a2, n2, c2, a3, n3, c3, hcs, hF⟩ := frac_trod h2'
  simp only [List.cons.injEq, and_true] at hcs
  obtain ⟨rfl, rfl, rfl⟩ := hcs
  exact ⟨a1, n1, c1, z, b, a2, n2, c2, a3, n3, c3, rfl, hL, hz1, hz2, hF⟩

/-- Truth values that came in. -/
def BoolsI (w : World) (a : Option Addr) (n : Nat) : Prop := ∀ i, i < n → ∃ B off b, a = some ⟨B, off, none⟩ ∧ w.cell? ⟨B, off + i, none⟩ = some (.bool b)
theorem bools_trod {H : Type} {enc : TypeId × Value → H} {W : World} {v : Value} {fuel : Nat} {x : DataW H × List MemPlace}
    (h : DataW.trod enc Tryz.prog W 0 (fun _ => true) true fuel 22 [v] = some x) : ∃ a n c, v = .slice a n c ∧ BoolsI W a n := by
  rcases DataW.trod_slice Tryz.underlying22 h with ⟨h0, _⟩ | ⟨a', len, cap, elems, rest, m, _, hcs, _, _, hl, hm, hlen, hel, _, _⟩
  · simp at h0
    exact ⟨none, 0, 0, h0, fun i hi => absurd hi (Nat.not_lt_zero i)⟩
  · simp at hcs
    subst hcs
    refine ⟨_, _, _, rfl, fun i hi => ?_⟩
    have each : ∀ j, j < len → ∃ b, W.cell? (a'.add j) = some (.bool b) := by
      intro j hj
      have h1 := hel j hj
      rw [cells_bool, List.getElem?_eq_getElem (by omega), Option.bind_eq_some_iff, Nat.mul_one] at h1
      obtain ⟨cs, hc1, hc2⟩ := h1
      obtain ⟨-, hcl, hcell⟩ := World.cells?_some hc1
      obtain ⟨b, rfl, _⟩ := DataW.trod_bool Tryz.underlying4 hc2
      have e0 : W.cell? ((a'.add j).add 0) = some (.bool b) := hcell 0 (by omega)
      exact ⟨b, e0⟩
    obtain ⟨b0, e0⟩ := each 0 (by omega)
    have e0' : W.cell? a' = _ := e0
    obtain ⟨B, off, rfl, -⟩ := spot_here e0'
    obtain ⟨b, e1⟩ := each i hi
    rw [add_flat] at e1
    exact ⟨B, off, b, rfl, e1⟩

/-- Rows that came in. -/
def RowsPI (w : World) (a : Option Addr) (n : Nat) : Prop := ∀ i, i < n → ∃ B off v0 v1 v2 v3 v4, a = some ⟨B, off, none⟩ ∧ Row5 w [v0, v1, v2, v3, v4] ∧
  w.cell? ⟨B, off + i * 5, none⟩ = some v0 ∧ w.cell? ⟨B, off + i * 5 + 1, none⟩ = some v1 ∧ w.cell? ⟨B, off + i * 5 + 2, none⟩ = some v2 ∧ w.cell? ⟨B, off + i * 5 + 3, none⟩ = some v3 ∧ w.cell? ⟨B, off + i * 5 + 4, none⟩ = some v4
theorem rows5_trod {H : Type} {enc : TypeId × Value → H} {W : World} {v : Value} {fuel : Nat} {x : DataW H × List MemPlace}
    (h : DataW.trod enc Tryz.prog W 0 (fun _ => true) true fuel 24 [v] = some x) : ∃ a n c, v = .slice a n c ∧ RowsPI W a n := by
  rcases DataW.trod_slice Tryz.underlying24 h with ⟨h0, _⟩ | ⟨a', len, cap, elems, rest, m, _, hcs, _, _, hl, hm, hlen, hel, _, _⟩
  · simp at h0
    exact ⟨none, 0, 0, h0, fun i hi => absurd hi (Nat.not_lt_zero i)⟩
  · simp at hcs
    subst hcs
    refine ⟨_, _, _, rfl, fun i hi => ?_⟩
    have each : ∀ j, j < len → ∃ cs, W.cells? 0 (a'.add (j * 5)) 5 = some cs ∧ Row5 W cs := by
      intro j hj
      have h1 := hel j hj
      rw [cells_row5, List.getElem?_eq_getElem (by omega), Option.bind_eq_some_iff] at h1
      obtain ⟨cs, hc1, hc2⟩ := h1
      exact ⟨cs, hc1, row_trod hc2⟩
    have hsp : ∃ B off, a' = ⟨B, off, none⟩ := by
      obtain ⟨cs, hc1, hc2⟩ := each 0 (by omega)
      obtain ⟨a1, n1, c1, z, b, a2, n2, c2, a3, n3, c3, rfl, -⟩ := hc2
      obtain ⟨-, -, hcell⟩ := World.cells?_some hc1
      have e0 := hcell 0 (by omega)
      rw [Nat.zero_mul] at e0
      have e0' : W.cell? a' = _ := e0
      obtain ⟨B, off, h, -⟩ := spot_here e0'
      exact ⟨B, off, h⟩
    obtain ⟨B, off, rfl⟩ := hsp
    obtain ⟨cs, hc1, hc2⟩ := each i hi
    obtain ⟨a1, n1, c1, z, b, a2, n2, c2, a3, n3, c3, rfl, hR⟩ := id hc2
    obtain ⟨-, -, hcell⟩ := World.cells?_some hc1
    have e0 := hcell 0 (by omega)
    have e1 := hcell 1 (by omega)
    have e2 := hcell 2 (by omega)
    have e3 := hcell 3 (by omega)
    have e4 := hcell 4 (by omega)
    simp only [add_flat, Nat.add_zero] at e0 e1 e2 e3 e4
    exact ⟨B, off, _, _, _, _, _, rfl, hc2, e0, e1, e2, e3, e4⟩

/-- A program that came in. -/
def ProgI (w : World) (v : Value) (z : Int) (fa : Option Addr) (fn fc : Nat) (ga : Option Addr) (gn gc : Nat) (ra : Option Addr) (rn rc : Nat) : Prop :=
  v = .agg #[.int .i64 z, .slice fa fn fc, .slice ga gn gc, .slice ra rn rc] ∧ -9223372036854775808 ≤ z ∧ z ≤ 9223372036854775807 ∧ BoolsI w fa fn ∧ ListI w (.slice ga gn gc) ga gn gc ∧ RowsPI w ra rn
set_option maxRecDepth 8000 in
theorem cells_prog : Tryz.prog.cellsOf 26 = 4 := by kernel_rfl
set_option maxRecDepth 8000 in
theorem prog_in {H : Type} {enc : TypeId × Value → H} {W : World} {v : Value} {d : DataW H} {p : List MemPlace}
    (hv : Value.okWide Tryz.prog W .any 0 26 v) (h : DataW.Trod enc Tryz.prog W 0 (fun _ => true) true 26 v d p) :
    ∃ z fa fn fc ga gn gc ra rn rc, ProgI W v z fa fn fc ga gn gc ra rn rc := by
  obtain ⟨v0, v1, v2, v3, y0, y1, y2, y3, m, rfl, rfl, rfl, h0, h1, h2, h3⟩ := Go.Joins.open_agg4 Tryz.underlying26 (by kernel_rfl) cells_prog hv h
  obtain ⟨z, rfl, hz1, hz2⟩ := int_trod h0
  obtain ⟨fa, fn, fc, rfl, hB⟩ := bools_trod h1
  obtain ⟨ga, gn, gc, hL⟩ := list_trod h2
  obtain rfl := hL.1
  obtain ⟨ra, rn, rc, rfl, hR⟩ := rows5_trod h3
  exact ⟨z, fa, fn, fc, ga, gn, gc, ra, rn, rc, rfl, hz1, hz2, hB, hL, hR⟩

/-- A program, as it stands for. -/
structure Pm where
  vars : Int
  free : List Bool
  goal : List Rat
  rows : List (List Rat × Int × Rat)
/-- One row of a program in memory, by what it stands for. -/
def RowF (N : Nat) (w : World) (B o : Nat) (r : List Rat × Int × Rat) : Prop :=
  ∃ a1 c1 b a2 n2 c2 a3 n3 c3, w.cell? ⟨B, o, none⟩ = some (.slice a1 r.1.length c1) ∧ w.cell? ⟨B, o + 1, none⟩ = some (.int .i64 r.2.1) ∧ w.cell? ⟨B, o + 2, none⟩ = some (.bool b) ∧ w.cell? ⟨B, o + 3, none⟩ = some (.slice a2 n2 c2) ∧ w.cell? ⟨B, o + 4, none⟩ = some (.slice a3 n3 c3) ∧
    ListF N w (.slice a1 r.1.length c1) r.1 ∧ FewF N w (.agg #[.bool b, .slice a2 n2 c2, .slice a3 n3 c3]) r.2.2 ∧ -9223372036854775808 ≤ r.2.1 ∧ r.2.1 ≤ 9223372036854775807
theorem RowF.below {N : Nat} {w w' : World} {B o : Nat} {r : List Rat × Int × Rat} (h : RowF N w B o r) (hb : Below w.heap.size w w') : RowF N w' B o r := by
  obtain ⟨a1, c1, b, a2, n2, c2, a3, n3, c3, h0, h1, h2, h3, h4, hl, hf, hz⟩ := h
  exact ⟨a1, c1, b, a2, n2, c2, a3, n3, c3, cell_below hb h0, cell_below hb h1, cell_below hb h2, cell_below hb h3, cell_below hb h4, hl.below hb, hf.below hb, hz⟩
def RowsPF (N : Nat) (w : World) (a : Option Addr) (rs : List (List Rat × Int × Rat)) : Prop := ∀ i r, rs[i]? = some r → ∃ B off, a = some ⟨B, off, none⟩ ∧ RowF N w B (off + i * 5) r
theorem RowsPF.below {N : Nat} {w w' : World} {a : Option Addr} {rs : List (List Rat × Int × Rat)} (h : RowsPF N w a rs) (hb : Below w.heap.size w w') : RowsPF N w' a rs := fun i r hr => by
  obtain ⟨B, off, ha, hf⟩ := h i r hr
  exact ⟨B, off, ha, hf.below hb⟩
def BoolsF (w : World) (a : Option Addr) (bs : List Bool) : Prop := ∀ i b, bs[i]? = some b → ∃ B off, a = some ⟨B, off, none⟩ ∧ w.cell? ⟨B, off + i, none⟩ = some (.bool b)
theorem BoolsF.below {w w' : World} {a : Option Addr} {bs : List Bool} (h : BoolsF w a bs) (hb : Below w.heap.size w w') : BoolsF w' a bs := fun i b hr => by
  obtain ⟨B, off, ha, hf⟩ := h i b hr
  exact ⟨B, off, ha, cell_below hb hf⟩
def ProgF (N : Nat) (w : World) (v : Value) (P : Pm) : Prop :=
  ∃ fa fc ga gc ra rc, v = .agg #[.int .i64 P.vars, .slice fa P.free.length fc, .slice ga P.goal.length gc, .slice ra P.rows.length rc] ∧ -9223372036854775808 ≤ P.vars ∧ P.vars ≤ 9223372036854775807 ∧ BoolsF w fa P.free ∧ ListF N w (.slice ga P.goal.length gc) P.goal ∧ RowsPF N w ra P.rows
theorem ProgF.below {N : Nat} {w w' : World} {v : Value} {P : Pm} (h : ProgF N w v P) (hb : Below w.heap.size w w') : ProgF N w' v P := by
  obtain ⟨fa, fc, ga, gc, ra, rc, hv, h1, h2, hf, hg, hr⟩ := h
  exact ⟨fa, fc, ga, gc, ra, rc, hv, h1, h2, hf.below hb, hg.below hb, hr.below hb⟩

/-- Have the rows few numbers, of few words? -/
def RowFew (w : World) (N V : Nat) (cs : List Value) : Prop := ∃ a1 n1 c1 z b a2 n2 c2 a3 n3 c3, cs = [.slice a1 n1 c1, .int .i64 z, .bool b, .slice a2 n2 c2, .slice a3 n3 c3] ∧ n1 ≤ V ∧ fewB N n1 (cellLen w a1 1) (cellLen w a1 2) = true ∧ n2 ≤ N ∧ n3 ≤ N
theorem ProgI.progF {w : World} {v : Value} {z : Int} {fa : Option Addr} {fn fc : Nat} {ga : Option Addr} {gn gc : Nat} {ra : Option Addr} {rn rc N V : Nat} (h : ProgI w v z fa fn fc ga gn gc ra rn rc) (hN : N ≤ 1073741824)
    (hg : fewB N gn (cellLen w ga 1) (cellLen w ga 2) = true)
    (hr : ∀ i, i < rn → ∃ B off v0 v1 v2 v3 v4, ra = some ⟨B, off, none⟩ ∧ RowFew w N V [v0, v1, v2, v3, v4] ∧ w.cell? ⟨B, off + i * 5, none⟩ = some v0 ∧ w.cell? ⟨B, off + i * 5 + 1, none⟩ = some v1 ∧ w.cell? ⟨B, off + i * 5 + 2, none⟩ = some v2 ∧ w.cell? ⟨B, off + i * 5 + 3, none⟩ = some v3 ∧ w.cell? ⟨B, off + i * 5 + 4, none⟩ = some v4) :
    ∃ P : Pm, ProgF N w v P ∧ P.vars = z ∧ P.free.length = fn ∧ P.goal.length = gn ∧ P.rows.length = rn ∧ ∀ r ∈ P.rows, r.1.length ≤ V := by
  obtain ⟨rfl, hz1, hz2, hB, hL, hR⟩ := h
  obtain ⟨bs, hbl, hbs⟩ := list_of (n := fn) (Pr := fun i b => ∃ B off, fa = some ⟨B, off, none⟩ ∧ w.cell? ⟨B, off + i, none⟩ = some (.bool b)) (fun i hi => by
    obtain ⟨B, off, b, ha, hc⟩ := hB i hi
    exact ⟨b, B, off, ha, hc⟩)
  obtain ⟨qs, hql, hq⟩ := hL.listF hN hg
  obtain ⟨rs, hrl, hrs⟩ := list_of (n := rn) (Pr := fun i r => (∃ B off, ra = some ⟨B, off, none⟩ ∧ RowF N w B (off + i * 5) r) ∧ r.1.length ≤ V) (fun i hi => by
    obtain ⟨B, off, v0, v1, v2, v3, v4, rfl, ⟨a1, n1, c1, z1, b, a2, n2, c2, a3, n3, c3, hcs, hL1, hz3, hz4, hF⟩, e0, e1, e2, e3, e4⟩ := hR i hi
    obtain ⟨B', off', u0, u1, u2, u3, u4, ha', ⟨a1', n1', c1', z1', b', a2', n2', c2', a3', n3', c3', hcs', hV, hW, hn2, hn3⟩, f0, f1, f2, f3, f4⟩ := hr i hi
    simp only [Option.some.injEq, Addr.mk.injEq, and_true] at ha'
    obtain ⟨rfl, rfl⟩ := ha'
    simp only [List.cons.injEq, and_true] at hcs hcs'
    obtain ⟨rfl, rfl, rfl, rfl, rfl⟩ := hcs
    obtain ⟨rfl, rfl, rfl, rfl, rfl⟩ := hcs'
    rw [e0] at f0
    rw [e3] at f3
    rw [e4] at f4
    simp only [Option.some.injEq, Value.slice.injEq] at f0 f3 f4
    obtain ⟨rfl, rfl, rfl⟩ := f0
    obtain ⟨rfl, rfl, rfl⟩ := f3
    obtain ⟨rfl, rfl, rfl⟩ := f4
    obtain ⟨ps, hpl, hp⟩ := hL1.listF hN hW
    obtain ⟨q, hqf⟩ := hF.few hN hn2 hn3
    subst hpl
    exact ⟨(ps, z1, q), ⟨B, off, rfl, a1, c1, b, a2, n2, c2, a3, n3, c3, e0, e1, e2, e3, e4, hp, hqf, hz3, hz4⟩, hV⟩)
  subst hbl
  subst hql
  subst hrl
  refine ⟨⟨z, bs, qs, rs⟩, ⟨fa, fc, ga, gc, ra, rc, rfl, hz1, hz2, hbs, hq, fun i r hi => (hrs i r hi).1⟩, rfl, rfl, rfl, rfl, fun r hm => ?_⟩
  obtain ⟨i, hi⟩ := List.getElem?_of_mem hm
  exact (hrs i r hi).2
end Go.Proofs.YtafenoohjcpjgaaGreat
