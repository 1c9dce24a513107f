/- Several texts in one: F8, F9, G1, G2, G3, H2. -/
import Derived.Test.YtimbojhmjadgkaaZ31
import Derived.Deep.DrawnRows
import Derived.Deep.DeepCutAuto
import Derived.Deep.AppendLies
import Derived.Test.YtimbojhmjadgkaaZ24
/- Lists of fractions: the first best one; the reference. -/
namespace Go.Proofs.Ytimbojhmjadgkaa
open Go.RowKit
attribute [local go_sem ↓] Go.wp_at_zero Go.wp_at_succ

/-- The place of the first best one among the first i, on one side. -/
def bst (side : Int) (qs : List Rat) : Nat → Option Nat
  | 0 => none
  | i + 1 => match bst side qs i with
    | none => some i
    | some a => if cmpQ (nthQ qs i) (nthQ qs a) = side then some i else some a
def bstI (side : Int) (qs : List Rat) (i : Nat) : Int := match bst side qs i with
  | none => -1
  | some a => (a : Nat)
theorem bst_lt {side : Int} {qs : List Rat} : ∀ {i a : Nat}, bst side qs i = some a → a < i
  | 0, a, h => by simp [bst] at h
  | i + 1, a, h => by
    unfold bst at h
    cases hb : bst side qs i with
    | none => rw [hb] at h; simp at h; omega
    | some c =>
      rw [hb] at h
      have := bst_lt hb
      simp only at h
      split at h <;> simp at h <;> omega
theorem bst_none {side : Int} {qs : List Rat} : ∀ {i : Nat}, bst side qs i = none → i = 0
  | 0, _ => rfl
  | i + 1, h => by
    unfold bst at h
    cases hb : bst side qs i with
    | none => rw [hb] at h; simp at h
    | some c => rw [hb] at h; simp only at h; split at h <;> simp at h
theorem bst_new {side : Int} {qs : List Rat} {i : Nat} (h : bst side qs i = none) : bst side qs (i + 1) = some i := by unfold bst; rw [h]
theorem bst_yes {side : Int} {qs : List Rat} {i a : Nat} (h : bst side qs i = some a) (hc : cmpQ (nthQ qs i) (nthQ qs a) = side) : bst side qs (i + 1) = some i := by unfold bst; rw [h]; simp [hc]
theorem bst_no {side : Int} {qs : List Rat} {i a : Nat} (h : bst side qs i = some a) (hc : ¬ cmpQ (nthQ qs i) (nthQ qs a) = side) : bst side qs (i + 1) = some a := by unfold bst; rw [h]; simp [hc]

end Go.Proofs.Ytimbojhmjadgkaa

/- Lists of fractions: the first best one; the program. -/
namespace Go.Proofs.Ytimbojhmjadgkaa
open Go.RowKit
attribute [local go_sem ↓] Go.wp_at_zero Go.wp_at_succ

theorem rat_form {w : World} {r : Value} {q : Rat} (h : RatQ w r q) : ∃ a n c b i j k, r = .agg #[.slice a n c, .bool b, .slice i j k] := by
  obtain ⟨u, d, rfl, hu, hd⟩ := h
  obtain ⟨a, n, c, rfl⟩ := hu.form
  obtain ⟨i, j, k, rfl⟩ := hd.form
  exact ⟨a, n, c, _, i, j, k, rfl⟩
theorem RatQ.other {w w' : World} {v : Value} {q : Rat} {B : Nat} {t : TypeId} {fr : Nat × Nat} {b : Bool} {a i : Option Addr} {n c j k : Nat} (h : RatQ w v q) (hB : w.heap[B]? = some (.cells #[Value.slice a n c, Value.bool b, Value.slice i j k] t fr)) (ho : Only B w w') : RatQ w' v q := by
  obtain ⟨u, d, rfl, hu, hd⟩ := h
  exact ⟨u, d, rfl, hu.other hB (rat_cells ⟨_, _, _, rfl⟩ ⟨_, _, _, rfl⟩) ho, hd.other hB (rat_cells ⟨_, _, _, rfl⟩ ⟨_, _, _, rfl⟩) ho⟩

end Go.Proofs.Ytimbojhmjadgkaa

/- Lists of fractions: sums of the reference. -/
namespace Go.Proofs.Ytimbojhmjadgkaa
open Go.RowKit
attribute [local go_sem ↓] Go.wp_at_zero Go.wp_at_succ

theorem few_zero {N : Nat} {w : World} {b : Bool} {a1 a2 : Option Addr} {n1 c1 n2 c2 : Nat} {q : Rat} (h : FewF N w (.agg #[.bool b, .slice a1 n1 c1, .slice a2 n2 c2]) q) (h0 : n1 = 0) : q = 0 := by
  obtain ⟨b', l, m, ⟨u, d, he, hu, hd⟩, hq, -, -⟩ := h
  simp only [Value.agg.injEq, Array.mk.injEq, List.cons.injEq, and_true] at he
  obtain ⟨-, rfl, rfl⟩ := he
  have hl : l = [] := List.eq_nil_of_length_eq_zero (by rw [← hu.lenE]; exact h0)
  rw [hq]
  cases hR : rightB b' l m with
  | false => unfold fixR; rw [hR]; rfl
  | true =>
    obtain ⟨e1, -, -, -⟩ := right_rat hu.ws hd.ws hR
    rw [hl] at e1
    have h9 : (fixR b' [] m).num.natAbs = 0 := by
      rw [← hl]
      rcases Nat.eq_zero_or_pos (fixR b' l m).num.natAbs with h | h
      · exact h
      · rw [hl] at h
        rw [digs_pos (by omega)] at e1; simp at e1
    rw [hl]
    exact Rat.num_eq_zero.1 (by omega)
theorem sumR_next (g : Nat → Rat) (i : Nat) : sumR g 0 i + g i = sumR g 0 (i + 1) := by
  show _ = sumR g 0 i + g (0 + i)
  rw [Nat.zero_add]

end Go.Proofs.Ytimbojhmjadgkaa

/- Lists of fractions: sums of products of the reference. -/
namespace Go.Proofs.Ytimbojhmjadgkaa
open Go.RowKit
attribute [local go_sem ↓] Go.wp_at_zero Go.wp_at_succ

end Go.Proofs.Ytimbojhmjadgkaa

/- Lists of fractions: copies. -/
namespace Go.Proofs.Ytimbojhmjadgkaa
open Go.RowKit
attribute [local go_sem ↓] Go.wp_at_zero Go.wp_at_succ

theorem IsW.keep {w w' : World} {v : Value} {l : List Nat} (h : IsW w v l) (hs : w.heap.size ≤ w'.heap.size) (hb : l ≠ [] → ∀ b, v.ownBlock = some b → w'.heap[b]? = w.heap[b]?) : IsW w' v l := by
  by_cases hl : l = []
  · subst hl; exact h.empty
  have hb := hb hl
  obtain ⟨a, cap, rfl, h1, h2, h3, h4, h5⟩ := h
  refine ⟨a, cap, rfl, h1, h2, h3, h4.of_blocks hs ?_, fun hne x hx => Nat.lt_of_lt_of_le (h5 hne x hx) hs⟩
  rintro x rfl
  exact hb _ (by simp [Value.ownBlock])
theorem IsW.ne0 {w : World} {a : Option Addr} {n c : Nat} {l : List Nat} (h : IsW w (.slice a n c) l) : l ≠ [] ↔ n ≠ 0 := by
  obtain ⟨a', c', hv, -⟩ := h
  simp only [Value.slice.injEq] at hv
  obtain ⟨-, rfl, -⟩ := hv
  simp
theorem FewF.keep {N : Nat} {w w' : World} {b : Bool} {a1 a2 : Option Addr} {n1 c1 n2 c2 : Nat} {q : Rat} (h : FewF N w (.agg #[.bool b, .slice a1 n1 c1, .slice a2 n2 c2]) q) (hs : w.heap.size ≤ w'.heap.size)
    (h1 : n1 ≠ 0 → ∀ x, (Value.slice a1 n1 c1).ownBlock = some x → w'.heap[x]? = w.heap[x]?) (h2 : n2 ≠ 0 → ∀ x, (Value.slice a2 n2 c2).ownBlock = some x → w'.heap[x]? = w.heap[x]?) : FewF N w' (.agg #[.bool b, .slice a1 n1 c1, .slice a2 n2 c2]) q := by
  obtain ⟨b', l, m, ⟨u, d, he, hu, hd⟩, hq, hl, hm⟩ := h
  simp only [Value.agg.injEq, Array.mk.injEq, List.cons.injEq, and_true] at he
  obtain ⟨hb, rfl, rfl⟩ := he
  exact ⟨b', l, m, ⟨_, _, by rw [hb], hu.keep hs (fun e => h1 (hu.ne0.1 e)), hd.keep hs (fun e => h2 (hd.ne0.1 e))⟩, hq, hl, hm⟩
theorem FewF.own {N : Nat} {w : World} {b : Bool} {a1 a2 : Option Addr} {n1 c1 n2 c2 : Nat} {q : Rat} (h : FewF N w (.agg #[.bool b, .slice a1 n1 c1, .slice a2 n2 c2]) q) : (n1 ≠ 0 → ∀ x, (Value.slice a1 n1 c1).ownBlock = some x → x < w.heap.size) ∧ (n2 ≠ 0 → ∀ x, (Value.slice a2 n2 c2).ownBlock = some x → x < w.heap.size) := by
  obtain ⟨b', l, m, ⟨u, d, he, hu, hd⟩, -, -, -⟩ := h
  simp only [Value.agg.injEq, Array.mk.injEq, List.cons.injEq, and_true] at he
  obtain ⟨-, rfl, rfl⟩ := he
  exact ⟨fun e => hu.own_lt (hu.ne0.2 e), fun e => hd.own_lt (hd.ne0.2 e)⟩

/-- A list of fractions of the call's own, its words in other blocks than the list. -/
def OFs (N : Nat) (w : World) (base : Nat) (v : Value) (qs : List Rat) : Prop :=
  ∃ xs, w.ownsRow base 26 3 v qs.length xs ∧ ∀ j q, qs[j]? = some q → ∃ b a1 n1 c1 a2 n2 c2, xs[j * 3]? = some (.bool b) ∧ xs[j * 3 + 1]? = some (.slice a1 n1 c1) ∧ xs[j * 3 + 2]? = some (.slice a2 n2 c2) ∧
    FewF N w (.agg #[.bool b, .slice a1 n1 c1, .slice a2 n2 c2]) q ∧ (n1 ≠ 0 → ∀ x, (Value.slice a1 n1 c1).ownBlock = some x → v.ownBlock ≠ some x) ∧ (n2 ≠ 0 → ∀ x, (Value.slice a2 n2 c2).ownBlock = some x → v.ownBlock ≠ some x)
theorem OFs.below {N : Nat} {w w' : World} {base : Nat} {v : Value} {qs : List Rat} (h : OFs N w base v qs) (hb : Below w.heap.size w w') : OFs N w' base v qs := by
  obtain ⟨xs, ho, he⟩ := h
  refine ⟨xs, World.ownsRow.kept (row := none) ho ⟨hb.os, hb.tape, hb.output, hb.size, fun k hk _ => hb.block k hk⟩ (by cases hv : v.ownBlock <;> simp), fun j q hq => ?_⟩
  obtain ⟨b, a1, n1, c1, a2, n2, c2, h0, h1, h2, hf, g1, g2⟩ := he j q hq
  exact ⟨b, a1, n1, c1, a2, n2, c2, h0, h1, h2, hf.below hb, g1, g2⟩
theorem OFs.nil (N : Nat) (w : World) (base : Nat) : OFs N w base (.slice none 0 0) [] := ⟨[], World.ownsRow_nil w base _ 3, fun j q h => by simp at h⟩
theorem OFs.list {N : Nat} {w : World} {base : Nat} {v : Value} {qs : List Rat} (h : OFs N w base v qs) : ListF N w v qs := by
  obtain ⟨xs, ho, he⟩ := h
  have hcells := fun g hg => World.ownsRow.cells ho (g := g) hg
  rcases ho.2 with ⟨rfl, h0⟩ | ⟨g, cap, cur, rfl, _, _, _, _, _, _⟩
  · refine ⟨none, 0, by rw [h0], fun i q hq => ?_⟩
    have := List.eq_nil_of_length_eq_zero h0
    subst this
    simp at hq
  · refine ⟨_, cap, rfl, fun i q hq => ?_⟩
    obtain ⟨b, a1, n1, c1, a2, n2, c2, h0, h1, h2, hf, -, -⟩ := he i q hq
    have k0 := hcells g rfl _ _ h0
    have k1 := hcells g rfl _ _ h1
    have k2 := hcells g rfl _ _ h2
    rw [Addr.add_lit] at k0 k1 k2
    exact ⟨g, 0, b, a1, n1, c1, a2, n2, c2, rfl, k0, by rw [Nat.add_assoc]; exact k1, by rw [Nat.add_assoc]; exact k2, hf⟩
theorem OFs.form {N : Nat} {w : World} {base : Nat} {v : Value} {qs : List Rat} (h : OFs N w base v qs) : ∃ a n c, v = .slice a n c := by
  obtain ⟨xs, ho, -⟩ := h
  rcases ho.2 with ⟨rfl, -⟩ | ⟨g, cap, cur, rfl, -⟩
  · exact ⟨_, _, _, rfl⟩
  · exact ⟨_, _, _, rfl⟩
theorem info_frac : (Try.prog.info? 26).map (fun i => (i.zero, i.size, i.bytes)) = some (some (.agg #[Value.bool false, Value.slice none 0 0, Value.slice none 0 0]), 3, 56) := by kernel_rfl
/-- One more. -/
theorem OFs.push {N : Nat} {w w' : World} {base : Nat} {v v' : Value} {qs : List Rat} {q : Rat} {xs : List Value} {b : Bool} {a1 a2 : Option Addr} {n1 c1 n2 c2 : Nat}
    (he : ∀ j q, qs[j]? = some q → ∃ b a1 n1 c1 a2 n2 c2, xs[j * 3]? = some (.bool b) ∧ xs[j * 3 + 1]? = some (.slice a1 n1 c1) ∧ xs[j * 3 + 2]? = some (.slice a2 n2 c2) ∧
      FewF N w (.agg #[.bool b, .slice a1 n1 c1, .slice a2 n2 c2]) q ∧ (n1 ≠ 0 → ∀ x, (Value.slice a1 n1 c1).ownBlock = some x → v.ownBlock ≠ some x) ∧ (n2 ≠ 0 → ∀ x, (Value.slice a2 n2 c2).ownBlock = some x → v.ownBlock ≠ some x))
    (hxl : xs.length = qs.length * 3) (hf : FewF N w (.agg #[.bool b, .slice a1 n1 c1, .slice a2 n2 c2]) q) (g1 : n1 ≠ 0 → ∀ x, (Value.slice a1 n1 c1).ownBlock = some x → v.ownBlock ≠ some x) (g2 : n2 ≠ 0 → ∀ x, (Value.slice a2 n2 c2).ownBlock = some x → v.ownBlock ≠ some x)
    (hg : w.grownBy w' v.ownBlock) (hv : v'.ownBlock = v.ownBlock ∨ v'.ownBlock = some w.heap.size) (ho : w'.ownsRow base 26 3 v' (qs.length + 1) (xs ++ [.bool b, .slice a1 n1 c1, .slice a2 n2 c2])) : OFs N w' base v' (qs ++ [q]) := by
  have keep : ∀ {b : Bool} {a1 a2 : Option Addr} {n1 c1 n2 c2 : Nat} {q : Rat}, FewF N w (.agg #[.bool b, .slice a1 n1 c1, .slice a2 n2 c2]) q → (n1 ≠ 0 → ∀ x, (Value.slice a1 n1 c1).ownBlock = some x → v.ownBlock ≠ some x) → (n2 ≠ 0 → ∀ x, (Value.slice a2 n2 c2).ownBlock = some x → v.ownBlock ≠ some x) →
      FewF N w' (.agg #[.bool b, .slice a1 n1 c1, .slice a2 n2 c2]) q ∧ (n1 ≠ 0 → ∀ x, (Value.slice a1 n1 c1).ownBlock = some x → v'.ownBlock ≠ some x) ∧ (n2 ≠ 0 → ∀ x, (Value.slice a2 n2 c2).ownBlock = some x → v'.ownBlock ≠ some x) := by
    intro b a1 a2 n1 c1 n2 c2 q hf g1 g2
    have hl := hf.own
    refine ⟨hf.keep hg.size (fun hn x hx => hg.block x (hl.1 hn x hx) (fun e => g1 hn x hx e.symm)) (fun hn x hx => hg.block x (hl.2 hn x hx) (fun e => g2 hn x hx e.symm)), fun hn x hx e => ?_, fun hn x hx e => ?_⟩
    · rcases hv with h | h
      · exact g1 hn x hx (by rw [← h]; exact e)
      · rw [h] at e; have := hl.1 hn x hx; simp at e; omega
    · rcases hv with h | h
      · exact g2 hn x hx (by rw [← h]; exact e)
      · rw [h] at e; have := hl.2 hn x hx; simp at e; omega
  refine ⟨xs ++ [.bool b, .slice a1 n1 c1, .slice a2 n2 c2], by simpa using ho, fun j r hr => ?_⟩
  by_cases hj : j < qs.length
  · rw [List.getElem?_append_left hj] at hr
    obtain ⟨b', a1', n1', c1', a2', n2', c2', h0, h1, h2, hf', k1, k2⟩ := he j r hr
    obtain ⟨m1, m2, m3⟩ := keep hf' k1 k2
    exact ⟨b', a1', n1', c1', a2', n2', c2', by rw [List.getElem?_append_left (by omega)]; exact h0, by rw [List.getElem?_append_left (by omega)]; exact h1, by rw [List.getElem?_append_left (by omega)]; exact h2, m1, m2, m3⟩
  · have hjl : j = qs.length := by
      have h9 := (List.getElem?_eq_some_iff.1 hr).1
      simp at h9; omega
    subst hjl
    simp at hr
    subst hr
    obtain ⟨m1, m2, m3⟩ := keep hf g1 g2
    refine ⟨b, a1, n1, c1, a2, n2, c2, ?_, ?_, ?_, m1, m2, m3⟩
    · rw [List.getElem?_append_right (by omega), hxl]; simp
    · rw [List.getElem?_append_right (by omega), hxl, show qs.length * 3 + 1 - qs.length * 3 = 1 by omega]; rfl
    · rw [List.getElem?_append_right (by omega), hxl, show qs.length * 3 + 2 - qs.length * 3 = 2 by omega]; rfl

end Go.Proofs.Ytimbojhmjadgkaa

/- FracLists answers true at every input, and what it is handed reads behind the call as it read before: the sum, the dot product, the least and the most of any lists are told as the reference tells them. No conditions. -/
namespace Go.Proofs.Ytimbojhmjadgkaa
open Go.RowKit
attribute [local go_sem ↓] Go.wp_at_zero Go.wp_at_succ

/-- How many words a fraction of a list has above (k = 1) or below (k = 2). -/
def cellLen (w : World) (a : Option Addr) (k i : Nat) : Nat :=
  match a with
  | none => 0
  | some x => match w.cell? ⟨x.block, x.off + i * 3 + k, none⟩ with
    | some (.slice _ n _) => n
    | _ => 0
theorem ListI.cells {w : World} {v : Value} {a : Option Addr} {n c : Nat} (h : ListI w v a n c) {i : Nat} (hi : i < n) :
    ∃ B off b a1 c1 a2 c2, a = some ⟨B, off, none⟩ ∧ w.cell? ⟨B, off + i * 3, none⟩ = some (.bool b) ∧ w.cell? ⟨B, off + i * 3 + 1, none⟩ = some (.slice a1 (cellLen w a 1 i) c1) ∧ w.cell? ⟨B, off + i * 3 + 2, none⟩ = some (.slice a2 (cellLen w a 2 i) c2) ∧
      FracI w (.agg #[.bool b, .slice a1 (cellLen w a 1 i) c1, .slice a2 (cellLen w a 2 i) c2]) b a1 (cellLen w a 1 i) c1 a2 (cellLen w a 2 i) c2 := by
  obtain ⟨B, off, b, a1, n1, c1, a2, n2, c2, rfl, h0, h1, h2, hF⟩ := h.2 i hi
  have e1 : cellLen w (some ⟨B, off, none⟩) 1 i = n1 := by simp only [cellLen, h1]
  have e2 : cellLen w (some ⟨B, off, none⟩) 2 i = n2 := by simp only [cellLen, h2]
  rw [e1, e2]
  exact ⟨B, off, b, a1, c1, a2, c2, rfl, h0, h1, h2, hF⟩
theorem ListI.listF {w : World} {v : Value} {a : Option Addr} {n c N : Nat} (h : ListI w v a n c) (hN : N ≤ 1073741824) (hf : fewB N n (cellLen w a 1) (cellLen w a 2) = true) :
    ∃ qs, n = qs.length ∧ ListF N w (.slice a n c) qs := by
  have hf' : ∀ i, i < n → cellLen w a 1 i ≤ N ∧ cellLen w a 2 i ≤ N := by simpa [fewB] using hf
  have build : ∀ k, k ≤ n → ∃ qs : List Rat, qs.length = k ∧ ∀ i q, qs[i]? = some q → ∃ B off b a1 n1 c1 a2 n2 c2, a = some ⟨B, off, none⟩ ∧ w.cell? ⟨B, off + i * 3, none⟩ = some (.bool b) ∧ w.cell? ⟨B, off + i * 3 + 1, none⟩ = some (.slice a1 n1 c1) ∧ w.cell? ⟨B, off + i * 3 + 2, none⟩ = some (.slice a2 n2 c2) ∧ FewF N w (.agg #[.bool b, .slice a1 n1 c1, .slice a2 n2 c2]) q := by
    intro k
    induction k with
    | zero => intro _; exact ⟨[], rfl, fun i q hq => by simp at hq⟩
    | succ k ih =>
      intro hk
      obtain ⟨qs, hl, hqs⟩ := ih (by omega)
      obtain ⟨B, off, b, a1, c1, a2, c2, ha, h0, h1, h2, hF⟩ := h.cells (i := k) (by omega)
      obtain ⟨q, hq⟩ := hF.few hN (hf' k (by omega)).1 (hf' k (by omega)).2
      refine ⟨qs ++ [q], by simp [hl], fun i r hr => ?_⟩
      by_cases hi : i < qs.length
      · rw [List.getElem?_append_left hi] at hr
        exact hqs i r hr
      · have hik : i = k := by
          have h9 := (List.getElem?_eq_some_iff.1 hr).1
          simp at h9; omega
        subst hik
        rw [← hl] at hr
        simp at hr
        subst hr
        exact ⟨B, off, b, a1, _, c1, a2, _, c2, ha, h0, h1, h2, hq⟩
  obtain ⟨qs, hl, hqs⟩ := build n (Nat.le_refl _)
  exact ⟨qs, hl.symm, a, c, by rw [hl], hqs⟩
theorem ListF.form9 {N : Nat} {w : World} {v : Value} {qs : List Rat} (h : ListF N w v qs) : ∃ a n c, v = .slice a n c := by
  obtain ⟨a, c, rfl, -⟩ := h
  exact ⟨_, _, _, rfl⟩

/-- How long the sums are. -/
theorem sz_nth {N : Nat} {w : World} {v : Value} {qs : List Rat} (h : ListF N w v qs) {i : Nat} (hi : i < qs.length) : szQ N 1 (nthQ qs i) := by
  obtain ⟨a, c, rfl, h⟩ := h
  obtain ⟨B, off, b, a1, n1, c1, a2, n2, c2, -, -, -, -, hf⟩ := h i _ (List.getElem?_eq_getElem hi)
  rw [nthQ_of (List.getElem?_eq_getElem hi)]
  exact few_sz hf
theorem len_sums {N : Nat} {w : World} {v : Value} {qs : List Rat} (h : ListF N w v qs) (hN : N ≤ 50) (hn : qs.length ≤ 20) : lenQ (sumR (nthQ qs) 0 qs.length) ≤ 4096 := by
  have h1 := sz_len (sz_sum (g := nthQ qs) (lo := 0) (n := qs.length) fun i _ hi => sz_nth h (i := i) (by omega)) (by omega)
  have h2 : N * qs.length ≤ 50 * 20 := Nat.mul_le_mul hN hn
  omega
theorem len_dots {N : Nat} {w : World} {v v' : Value} {qs ps : List Rat} (h : ListF N w v qs) (h' : ListF N w v' ps) (hN : N ≤ 50) (hn : qs.length ≤ 20) : lenQ (sumR (fun i => nthQ qs i * nthQ ps i) 0 (min qs.length ps.length)) ≤ 4096 := by
  have h1 := sz_len (sz_sum (g := fun i => nthQ qs i * nthQ ps i) (lo := 0) (n := min qs.length ps.length) fun i _ hi => sz_mul (sz_nth h (i := i) (by omega)) (sz_nth h' (i := i) (by omega))) (by omega)
  have h2 : (2 * N) * min qs.length ps.length ≤ 100 * 20 := Nat.mul_le_mul (by omega) (by omega)
  omega

end Go.Proofs.Ytimbojhmjadgkaa
