/- Objections: whether a group can share its things so that none has less and one has more, by trying. -/
import Derived.Test.YtomnnickiljkgaaHv
namespace Go.Proofs.Ytomnnickiljkgaa
open Go.RowKit
/-- Whether those of a list can share the things that are left (T), none worse off than by g, one better, or one has gained already. -/
def shareB (W : List (List Int)) (g : Nat → Nat) : List Nat → (Nat → Bool) → Bool → Bool
  | [], _, b => b
  | a :: A, T, b => (List.range W.length).any (fun x => T x && decide (scoreQ (nthL W a) (x : Int) ≤ scoreQ (nthL W a) (g a : Int)) && shareB W g A (fun y => T y && y != x) (b || x != g a))
theorem shareB_iff {W : List (List Int)} {g : Nat → Nat} {A : List Nat} (hA : A.Nodup) {T : Nat → Bool} {b : Bool} :
    shareB W g A T b = true ↔ ∃ s : Nat → Nat, (∀ a ∈ A, s a < W.length ∧ T (s a) = true ∧ scoreQ (nthL W a) (s a : Int) ≤ scoreQ (nthL W a) (g a : Int)) ∧ (∀ a ∈ A, ∀ c ∈ A, s a = s c → a = c) ∧ (b = true ∨ ∃ a ∈ A, s a ≠ g a) := by
  induction A generalizing T b with
  | nil =>
    simp only [shareB]
    constructor
    · intro h
      exact ⟨fun _ => 0, fun a ha => absurd ha List.not_mem_nil, fun a ha => absurd ha List.not_mem_nil, Or.inl h⟩
    · rintro ⟨s, _, _, h | ⟨a, ha, _⟩⟩
      · exact h
      · cases ha
  | cons a A ih =>
    obtain ⟨hna, hnA⟩ := List.nodup_cons.1 hA
    simp only [shareB, List.any_eq_true, List.mem_range, Bool.and_eq_true, decide_eq_true_eq]
    constructor
    · rintro ⟨x, hx, ⟨hT, hs⟩, hr⟩
      obtain ⟨s, h1, h2, h3⟩ := (ih hnA).1 hr
      refine ⟨fun c => if c = a then x else s c, fun c hc => ?_, fun c hc d hd he => ?_, ?_⟩
      · by_cases e : c = a
        · subst e
          simp only [if_pos]
          exact ⟨hx, hT, hs⟩
        · have hcA : c ∈ A := by
            rcases List.mem_cons.1 hc with e1 | e1
            · exact absurd e1 e
            · exact e1
          obtain ⟨k1, k2, k3⟩ := h1 c hcA
          simp only [if_neg e]
          simp only [Bool.and_eq_true] at k2
          exact ⟨k1, k2.1, k3⟩
      · have out : ∀ c, c ∈ A → s c ≠ x := fun c hc e => by
          have := (h1 c hc).2.1
          rw [e] at this
          simp at this
        have inA : ∀ c, c ∈ a :: A → c ≠ a → c ∈ A := fun c hc e => by
          rcases List.mem_cons.1 hc with e1 | e1
          · exact absurd e1 e
          · exact e1
        by_cases e1 : c = a
        · by_cases e2 : d = a
          · rw [e1, e2]
          · exfalso
            simp only [if_pos e1, if_neg e2] at he
            exact out d (inA d hd e2) he.symm
        · by_cases e2 : d = a
          · exfalso
            simp only [if_neg e1, if_pos e2] at he
            exact out c (inA c hc e1) he
          · simp only [if_neg e1, if_neg e2] at he
            exact h2 c (inA c hc e1) d (inA d hd e2) he
      · rcases h3 with h | ⟨c, hc, hne⟩
        · rw [Bool.or_eq_true] at h
          rcases h with h | h
          · exact Or.inl h
          · exact Or.inr ⟨a, List.mem_cons_self .., by simpa using h⟩
        · refine Or.inr ⟨c, List.mem_cons_of_mem _ hc, ?_⟩
          have : c ≠ a := fun e => hna (e ▸ hc)
          simpa only [if_neg this] using hne
    · rintro ⟨s, h1, h2, h3⟩
      obtain ⟨k1, k2, k3⟩ := h1 a (List.mem_cons_self ..)
      refine ⟨s a, k1, ⟨k2, k3⟩, (ih hnA).2 ⟨s, fun c hc => ?_, fun c hc d hd he => h2 c (List.mem_cons_of_mem _ hc) d (List.mem_cons_of_mem _ hd) he, ?_⟩⟩
      · obtain ⟨j1, j2, j3⟩ := h1 c (List.mem_cons_of_mem _ hc)
        refine ⟨j1, ?_, j3⟩
        have : s c ≠ s a := fun e => hna ((h2 c (List.mem_cons_of_mem _ hc) a (List.mem_cons_self ..) e) ▸ hc)
        simp [j2, this]
      · rcases h3 with h | ⟨c, hc, hne⟩
        · exact Or.inl (by simp [h])
        · rcases List.mem_cons.1 hc with e | e
          · subst e
            exact Or.inl (by simp [hne])
          · exact Or.inr ⟨c, e, hne⟩
/-- The members of a group: those of the first n that G names. -/
def memL (n : Nat) (G : Nat → Bool) : List Nat := (List.range n).filter G
theorem memL_mem {n i : Nat} {G : Nat → Bool} : i ∈ memL n G ↔ i < n ∧ G i = true := by unfold memL; rw [List.mem_filter, List.mem_range]
theorem memL_nodup (n : Nat) (G : Nat → Bool) : (memL n G).Nodup := List.Pairwise.filter _ List.nodup_range
/-- Whether a group objects. -/
def objB (W : List (List Int)) (g : Nat → Nat) (G : Nat → Bool) : Bool := shareB W g (memL W.length G) (fun x => decide (x < W.length) && G x) false
theorem objB_iff {W : List (List Int)} {g : Nat → Nat} {G : Nat → Bool} : objB W g G = true ↔ ∃ s, ObjT W g (fun i => G i = true) s := by
  unfold objB
  rw [shareB_iff (memL_nodup _ _)]
  constructor
  · rintro ⟨s, h1, h2, h3⟩
    refine ⟨s, fun i hi hG => ?_, fun i j hi hj hGi hGj he => h2 i (memL_mem.2 ⟨hi, hGi⟩) j (memL_mem.2 ⟨hj, hGj⟩) he, ?_⟩
    · obtain ⟨k1, k2, k3⟩ := h1 i (memL_mem.2 ⟨hi, hG⟩)
      simp only [Bool.and_eq_true, decide_eq_true_eq] at k2
      exact ⟨k1, k2.2, k3⟩
    · rcases h3 with h | ⟨i, hi, hne⟩
      · cases h
      · obtain ⟨k1, k2⟩ := memL_mem.1 hi
        exact ⟨i, k1, k2, hne⟩
  · rintro ⟨s, h1, h2, i, hi, hG, hne⟩
    refine ⟨s, fun c hc => ?_, fun c hc d hd he => ?_, Or.inr ⟨i, memL_mem.2 ⟨hi, hG⟩, hne⟩⟩
    · obtain ⟨k1, k2⟩ := memL_mem.1 hc
      obtain ⟨j1, j2, j3⟩ := h1 c k1 k2
      refine ⟨j1, ?_, j3⟩
      simp [j1, j2]
    · obtain ⟨k1, k2⟩ := memL_mem.1 hc
      obtain ⟨k3, k4⟩ := memL_mem.1 hd
      exact h2 c d k1 k3 k2 k4 he
/-- To what trading gives, no group objects. -/
theorem objB_core {W : List (List Int)} {g ρ : Nat → Nat} (hW : AllT W) (h : CertT W g ρ) (G : Nat → Bool) : objB W g G = false := by
  cases e : objB W g G with
  | false => rfl
  | true =>
    obtain ⟨s, hs⟩ := objB_iff.1 e
    exact (h.core hW hs).elim
end Go.Proofs.Ytomnnickiljkgaa
