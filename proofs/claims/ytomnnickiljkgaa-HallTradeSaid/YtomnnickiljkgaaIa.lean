/- Arguments as they come in; matchings as lists. -/
import Derived.Test.YtomnnickiljkgaaHw
import Derived.Test.YtomnnickiljkgaaHj
import Derived.Test.YtomnnickiljkgaaRows
import Derived.WalkKit
import Derived.ProofKit
import Derived.OpenShut
import Derived.ShutString
import Derived.ChangeOld
import Derived.ChangeArms
import Derived.Carry
import Derived.Lib.SmallJoins
namespace Go.Proofs.Ytomnnickiljkgaa
open Go.ChangeShapes Go.WideShapes Go.ChangeAt Go.RowKit

theorem own_knob : ownKnob Try.prog.godebug = none := by kernel_rfl
theorem laid_out : laidOutB Try.prog = true := by kernel_rfl
theorem spot_none {w : World} {b o : Nat} {sp : Option Nat} {v : Value} (h : w.cell? ⟨b, o, sp⟩ = some v) : sp = none := by
  cases sp with
  | none => rfl
  | some x =>
    unfold World.cell? at h
    split at h <;> simp at h
theorem add_flat (b o k : Nat) : (⟨b, o, none⟩ : Addr).add k = ⟨b, o + k, none⟩ := by unfold Addr.add; split <;> simp_all
theorem spot_here {w : World} {a : Addr} {v : Value} (h : w.cell? a = some v) : ∃ b o, a = ⟨b, o, none⟩ ∧ b < w.heap.size := by
  obtain ⟨b, o, sp⟩ := a
  obtain rfl := spot_none h
  refine ⟨b, o, rfl, ?_⟩
  by_cases hb : b < w.heap.size
  · exact hb
  · have : w.heap[b]? = none := by simp; omega
    simp [World.cell?, this] at h
theorem list_of {α : Type} {n : Nat} {Pr : Nat → α → Prop} (h : ∀ i, i < n → ∃ x, Pr i x) : ∃ l : List α, l.length = n ∧ ∀ i x, l[i]? = some x → Pr i x := by
  induction n with
  | zero => exact ⟨[], rfl, fun i x h => by simp at h⟩
  | succ n ih =>
    obtain ⟨l, hl, hp⟩ := ih (fun i hi => h i (by omega))
    obtain ⟨x, hx⟩ := h n (by omega)
    refine ⟨l ++ [x], by simp [hl], fun i y hy => ?_⟩
    by_cases hi : i < l.length
    · rw [List.getElem?_append_left hi] at hy
      exact hp i y hy
    · have h9 : i = n := by
        have := (List.getElem?_eq_some_iff.1 hy).1
        simp at this; omega
      subst h9
      rw [← hl] at hy
      simp at hy
      subst hy
      exact hx
theorem cells_int9 : Try.prog.cellsOf 3 = 1 := by kernel_rfl
theorem cells_row9 : Try.prog.cellsOf 23 = 1 := by kernel_rfl
/-- A list of numbers that came in. -/
def InI (W : World) (v : Value) (a : Option Addr) (l : List Int) (c : Nat) : Prop := v = .slice a l.length c ∧ l.length ≤ maxLen ∧ l.length ≤ c ∧ IntsF W a l ∧ (a = none → c = 0)
theorem ints_trod {H : Type} {enc : TypeId × Value → H} {W : World} {v : Value} {base fuel : Nat} {x : DataW H × List MemPlace}
    (h : DataW.trod enc Try.prog W base (fun _ => true) true fuel 23 [v] = some x) : ∃ a l c, InI W v a l c := by
  rcases open_ints Try.underlying23 Try.underlying3 cells_int9 h with ⟨hcs, _⟩ | ⟨y, len, cap, zs, hcs, _, hl, hm, hz, _, hcell, hw⟩
  · simp at hcs
    subst hcs
    exact ⟨none, [], 0, rfl, by simp [maxLen], by simp, fun i z h => by simp at h, fun _ => rfl⟩
  · simp at hcs
    subst hcs
    have hz' : zs.length = cap := by simpa using hz
    by_cases h0 : len = 0
    · subst h0
      exact ⟨some y, [], cap, rfl, by simp [maxLen], by simp, fun i z h => by simp at h, fun e => by cases e⟩
    have hcell0 : W.cell? y = _ := hcell 0 (by omega)
    obtain ⟨b, off, rfl, hlt⟩ := spot_here hcell0
    have hlen : (zs.take len).length = len := by simp; omega
    refine ⟨_, zs.take len, cap, by rw [hlen], by rw [hlen]; omega, by rw [hlen]; omega, fun i z hi => ?_, fun e => by cases e⟩
    have hin : i < len := by
      have := (List.getElem?_eq_some_iff.1 hi).1
      omega
    rw [List.getElem?_take_of_lt hin] at hi
    have hc := hcell i (by omega)
    rw [add_flat] at hc
    have e : zs.getD i 0 = z := by rw [List.getD_eq_getElem?_getD, hi]; rfl
    rw [e] at hc
    refine ⟨b, off, rfl, hc, ?_⟩
    have := hw z (List.mem_of_getElem? hi)
    have m1 : IntKind.i64.min = -9223372036854775808 := by decide
    have m2 : IntKind.i64.max = 9223372036854775807 := by decide
    simpa only [Lit.wf, m1, m2, Bool.and_eq_true, decide_eq_true_eq] using this
theorem ints_in {H : Type} {enc : TypeId × Value → H} {W : World} {v : Value} {d : DataW H} {p : List MemPlace}
    (h : DataW.Trod enc Try.prog W 0 (fun _ => true) true 23 v d p) (hv : ∃ a n c, v = .slice a n c) : ∃ a l c, InI W v a l c := by
  obtain ⟨a, n, c, rfl⟩ := hv
  obtain ⟨fuel, hf⟩ := h
  exact ints_trod (by simpa [Value.cells] using hf)
/-- Lists of numbers that came in. -/
def InL (W : World) (v : Value) (a : Option Addr) (L : List (List Int)) (c : Nat) : Prop := v = .slice a L.length c ∧ L.length ≤ 9223372036854775807 ∧ RowsF W a L
theorem lists_in {H : Type} {enc : TypeId × Value → H} {W : World} {v : Value} {d : DataW H} {p : List MemPlace}
    (h : DataW.Trod enc Try.prog W 0 (fun _ => true) true 22 v d p) (hv : ∃ a n c, v = .slice a n c) : ∃ a L c, InL W v a L c := by
  obtain ⟨a, n, c, rfl⟩ := hv
  obtain ⟨fuel, hf⟩ := h
  rcases DataW.trod_slice Try.underlying22 hf with ⟨h0, _⟩ | ⟨a', len, cap, elems, rest, m, _, hcs, _, _, hl, hm, hlen, hel, _, _⟩
  · simp [Value.cells] at h0
    obtain ⟨rfl, rfl, rfl⟩ := h0
    exact ⟨none, [], 0, rfl, by simp, fun i l h => by simp at h⟩
  · simp [Value.cells] at hcs
    obtain ⟨rfl, rfl, rfl⟩ := hcs
    have each : ∀ j, j < n → ∃ u y, W.cell? (a'.add j) = some u ∧ DataW.trod enc Try.prog W 0 (fun _ => true) true m 23 [u] = some y := by
      intro j hj
      have h1 := hel j hj
      rw [cells_row9, List.getElem?_eq_getElem (by omega), Option.bind_eq_some_iff, Nat.mul_one] at h1
      obtain ⟨cs, hc1, hc2⟩ := h1
      obtain ⟨-, hcl, hcell⟩ := World.cells?_some hc1
      obtain ⟨u, rfl⟩ : ∃ u, cs = [u] := by
        match cs, hcl with
        | [c0], _ => exact ⟨c0, rfl⟩
      have e0 : W.cell? ((a'.add j).add 0) = some u := hcell 0 (by omega)
      exact ⟨u, _, e0, hc2⟩
    by_cases h0 : n = 0
    · subst h0
      exact ⟨some a', [], c, rfl, by simp, fun i l h => by simp at h⟩
    obtain ⟨u0, y0, e0, -⟩ := each 0 (by omega)
    have e0' : W.cell? a' = _ := e0
    obtain ⟨B, off, rfl, -⟩ := spot_here e0'
    obtain ⟨L, hL, hp⟩ := list_of (n := n) (Pr := fun i l => ∃ a1 c1, W.cell? ⟨B, off + i, none⟩ = some (.slice a1 l.length c1) ∧ IntsF W a1 l ∧ l.length ≤ c1 ∧ l.length ≤ 9223372036854775807) (fun i hi => by
      obtain ⟨u, y, e1, t1⟩ := each i hi
      rw [add_flat] at e1
      obtain ⟨a1, l, c1, rfl, k1, k2, k3, _⟩ := ints_trod t1
      exact ⟨l, a1, c1, e1, k3, k2, by simp only [maxLen] at k1; omega⟩)
    refine ⟨_, L, c, by rw [hL], by simp only [maxLen] at hm; omega, fun i l hl => ?_⟩
    obtain ⟨a1, c1, k1, k2, k3⟩ := hp i l hl
    exact ⟨B, off, a1, c1, rfl, k1, k2, k3⟩

/-! ### Matchings as lists -/
theorem pos_of {np : Nat} {m : Nat → Int} {q : Nat} {r : Int} (hq : q < np) (hm : m q = r) (hi : ∀ a b, a < np → b < np → m a = m b → m a ≠ -1 → a = b) (hr : r ≠ -1) : posQ (tabI np m) r = (q : Int) := by
  have hmem : r ∈ tabI np m := List.mem_of_getElem? (by rw [tab_get hq, hm])
  unfold posQ
  rw [if_pos hmem]
  have h1 := idxOf_mem hmem
  have h2 := List.idxOf_lt_length_of_mem hmem
  rw [tab_len] at h2
  rw [tab_get h2] at h1
  have h3 := Option.some.inj h1
  rw [hi _ q h2 hq (by rw [h3, hm]) (by rw [h3]; exact hr)]
theorem stable_mat {P R : List (List Int)} {m : Nat → Int} (hS : sidesQ P R) (h : StableF P R m) : matQ P.length R.length (tabI P.length m) = true := by
  refine matQ_yes (tab_len _ _) (fun i hi => ?_)
  rw [tab_len] at hi
  rw [okM_of (tab_get hi)]
  by_cases e : m i = -1
  · simp [e]
  · have hr : 0 ≤ m i ∧ m i < (R.length : Int) := by
      rcases h.own i hi with e1 | ⟨e1, _⟩
      · exact absurd e1 e
      · exact (sides_P hS i).2 _ e1
    have hc : ((tabI P.length m).take i).contains (m i) = false := by
      cases hc : ((tabI P.length m).take i).contains (m i) with
      | false => rfl
      | true =>
        exfalso
        obtain ⟨j, hj⟩ := List.getElem?_of_mem (List.contains_iff_mem.1 hc)
        rw [List.getElem?_take] at hj
        split at hj
        · rename_i hlt
          rw [tab_get (by omega)] at hj
          have := h.inj j i (by omega) hi (Option.some.inj hj) (by rw [Option.some.inj hj]; exact e)
          omega
        · cases hj
    rw [hc]
    simp [hr]
theorem tab_nth {n i : Nat} {f : Nat → Int} (h : i < n) : nthI (tabI n f) i = f i := nthI_some (tab_get h)
theorem stable_clear {P R : List (List Int)} {m : Nat → Int} (hS : sidesQ P R) (h : StableF P R m) {p : Nat} (hp : p < P.length) : ClearB P R (tabI P.length m) p := by
  refine ⟨?_, fun r _ => ?_⟩
  · unfold unwB
    rw [tab_nth hp]
    rcases h.own p hp with e | ⟨e1, e2⟩
    · simp [e]
    · simp [score_lt.2 e1, score_lt.2 e2]
  · unfold blocksB
    rw [tab_nth hp]
    rw [Bool.and_eq_false_iff]
    by_cases h1 : scoreQ (nthL P p) (r : Int) < scoreQ (nthL P p) (m p)
    · right
      rw [decide_eq_false_iff_not]
      intro h2
      have hle : scoreQ (nthL R r) (posQ (tabI P.length m) (r : Int)) ≤ (nthL R r).length := by
        unfold posQ
        split
        · rename_i hmem
          have k1 := idxOf_mem hmem
          have k2 := List.idxOf_lt_length_of_mem hmem
          rw [tab_len] at k2
          rw [tab_get k2] at k1
          have k3 := Option.some.inj k1
          rcases h.own _ k2 with e | ⟨_, e⟩
          · omega
          · rw [k3, atL_nat] at e
            exact Nat.le_of_lt (score_lt.2 e)
        · rw [score_none (no_none (sides_R hS r).2)]
          exact Nat.le_refl _
      have hacc : (p : Int) ∈ atL R (r : Int) := by rw [atL_nat]; exact score_lt.1 (by omega)
      obtain ⟨q, hq, hqr, hlt⟩ := h.pair p hp (r : Int) h1 hacc
      rw [pos_of hq hqr h.inj (by omega)] at h2
      rw [atL_nat] at hlt
      omega
    · left
      simpa using h1
theorem acc_ok {P R : List (List Int)} {l : List Int} (he : errS P R = 0) (h : AccQ P R l) : errB P R l = 0 ∧ ∀ x y, BlkA P R l x y → x = -1 ∧ y = -1 := by
  have hS := (errS_ok he).1
  obtain ⟨m, rfl, hm⟩ := h.1 he
  have hb : errB P R (tabI P.length m) = 0 := by
    unfold errB
    rw [if_pos he, if_pos (stable_mat hS hm.stable)]
  refine ⟨hb, fun x y hx => ?_⟩
  exact (hx.1 hb).one (Or.inl ⟨rfl, rfl, fun p hp => stable_clear hS hm.stable hp⟩)
theorem clear_stable {P R : List (List Int)} {l : List Int} (hS : sidesQ P R) (hm : matQ P.length R.length l = true) (hc : ∀ p, p < P.length → ClearB P R l p) : StableF P R (fun p => nthI l p) := by
  obtain ⟨h1, h2, h3⟩ := matQ_parts hm
  have own : ∀ p, p < P.length → nthI l p = -1 ∨ (nthI l p ∈ nthL P p ∧ (p : Int) ∈ atL R (nthI l p)) := by
    intro p hp
    by_cases e : nthI l p = -1
    · exact Or.inl e
    · right
      have h9 := (hc p hp).1
      unfold unwB at h9
      have hd : decide (nthI l p ≠ -1) = true := by simpa using e
      rw [hd, Bool.true_and] at h9
      simp only [Bool.or_eq_false_iff, Bool.not_eq_false', decide_eq_true_eq] at h9
      exact ⟨score_lt.1 h9.1, score_lt.1 h9.2⟩
  refine ⟨own, fun p q hp hq he hne => ?_, fun p hp r hlt hacc => ?_⟩
  · exact h3 p q _ (nthI_get (by omega)) (by rw [he]; exact nthI_get (by omega)) hne
  · have hin : r ∈ nthL P p := by
      rcases own p hp with e | ⟨e, _⟩
      · try dsimp only at hlt
        rw [e, score_none (no_none (sides_P hS p).2)] at hlt
        exact score_lt.1 hlt
      · have := score_lt.2 e
        try dsimp only at hlt
        exact score_lt.1 (by omega)
    have hrr := (sides_P hS p).2 r hin
    obtain ⟨r, rfl⟩ : ∃ k : Nat, r = (k : Int) := ⟨r.toNat, by omega⟩
    have hb := (hc p hp).2 r (by omega)
    unfold blocksB at hb
    have hd : decide (scoreQ (nthL P p) (r : Int) < scoreQ (nthL P p) (nthI l p)) = true := by simpa using hlt
    rw [hd, Bool.true_and, decide_eq_false_iff_not] at hb
    rw [atL_nat] at hacc ⊢
    have hpl := score_lt.2 hacc
    by_cases hmem : (r : Int) ∈ l
    · have k1 := idxOf_mem hmem
      have k2 := List.idxOf_lt_length_of_mem hmem
      have e1 : posQ l (r : Int) = ((l.idxOf (r : Int) : Nat) : Int) := by unfold posQ; rw [if_pos hmem]
      rw [e1] at hb
      refine ⟨l.idxOf (r : Int), by omega, nthI_some k1, ?_⟩
      rcases Nat.lt_or_ge (scoreQ (nthL R r) ((l.idxOf (r : Int) : Nat) : Int)) (scoreQ (nthL R r) (p : Int)) with h9 | h9
      · exact h9
      · exfalso
        have h8 := score_inj hacc (show scoreQ (nthL R r) ((l.idxOf (r : Int) : Nat) : Int) = scoreQ (nthL R r) (p : Int) by omega)
        have h7 : l.idxOf (r : Int) = p := by omega
        rw [h7] at k1
        have h6 := nthI_some k1
        try dsimp only at hlt
        rw [h6] at hlt
        omega
    · exfalso
      have e1 : posQ l (r : Int) = -1 := by unfold posQ; rw [if_neg hmem]
      rw [e1, score_none (no_none (sides_R hS r).2)] at hb
      omega
end Go.Proofs.Ytomnnickiljkgaa
