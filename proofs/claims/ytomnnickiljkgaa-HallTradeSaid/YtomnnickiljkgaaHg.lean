/- Deferred acceptance, proposer by proposer: what holds between two steps. -/
import Derived.Test.YtomnnickiljkgaaHb
namespace Go.Proofs.Ytomnnickiljkgaa

/-- A list that is told place by place. -/
def tabI (n : Nat) (f : Nat → Int) : List Int := (List.range n).map f
theorem tab_len (n : Nat) (f : Nat → Int) : (tabI n f).length = n := by simp [tabI]
theorem tab_get {n i : Nat} {f : Nat → Int} (h : i < n) : (tabI n f)[i]? = some (f i) := by
  unfold tabI
  rw [List.getElem?_map, List.getElem?_range h]; rfl
theorem tab_set {n i : Nat} {f : Nat → Int} {v : Int} : (tabI n f).set i v = tabI n (fun j => if j = i then v else f j) := by
  apply List.ext_getElem?
  intro j
  by_cases hj : j < n
  · by_cases hji : j = i
    · subst hji
      rw [List.getElem?_set_self (by rw [tab_len]; exact hj), tab_get hj, if_pos rfl]
    · rw [List.getElem?_set_ne (fun e => hji e.symm), tab_get hj, tab_get hj, if_neg hji]
  · rw [List.getElem?_eq_none (by simp [tabI]; omega), List.getElem?_eq_none (by simp [tabI]; omega)]
theorem tab_congr {n : Nat} {f g : Nat → Int} (h : ∀ i, i < n → f i = g i) : tabI n f = tabI n g := by
  unfold tabI
  exact List.map_congr_left (fun i hi => h i (List.mem_range.1 hi))
theorem tab_rep (n : Nat) (x : Int) : tabI n (fun _ => x) = List.replicate n x := by
  unfold tabI
  apply List.ext_getElem?
  intro i
  rw [List.getElem?_map, List.getElem?_replicate]
  by_cases h : i < n
  · rw [List.getElem?_range h, if_pos h]; rfl
  · rw [List.getElem?_eq_none (by simp; omega), if_neg h]; rfl
theorem mem_tab {n : Nat} {f : Nat → Int} {z : Int} (h : z ∈ tabI n f) : ∃ i, i < n ∧ f i = z := by
  unfold tabI at h
  obtain ⟨i, hi, e⟩ := List.mem_map.1 h
  exact ⟨i, List.mem_range.1 hi, e⟩

structure Mid (P R : List (List Int)) (i : Nat) (c : Nat → Nat) (h : Int → Int) (x : Int) : Prop where
  inv : Inv P R c h
  cur : x = -1 ∨ ∃ q : Nat, x = (q : Int) ∧ q ≤ i ∧ FreeQ h q
  done : ∀ q : Nat, q ≤ i → (q : Int) ≠ x → DoneQ P c h q
  rest : ∀ q, i < q → c q = 0
structure Out (P R : List (List Int)) (i : Nat) (c : Nat → Nat) (h : Int → Int) : Prop where
  inv : Inv P R c h
  done : ∀ q : Nat, q < i → DoneQ P c h q
  rest : ∀ q, i ≤ q → c q = 0
theorem Out.start (P R : List (List Int)) : Out P R 0 (fun _ => 0) (fun _ => -1) := ⟨Inv.start P R, fun _ h => absurd h (Nat.not_lt_zero _), fun _ _ => rfl⟩
theorem Inv.free_of {P R : List (List Int)} {c : Nat → Nat} {h : Int → Int} (H : Inv P R c h) {q : Nat} (hc : c q = 0) : FreeQ h q := fun r hr => by
  rcases H.held r with e | ⟨p, e, _, e2, _⟩
  · rw [hr] at e; omega
  · have : p = q := by rw [hr] at e; omega
    subst this; omega
theorem Out.mid {P R : List (List Int)} {i : Nat} {c : Nat → Nat} {h : Int → Int} (H : Out P R i c h) : Mid P R i c h (i : Int) :=
  ⟨H.inv, Or.inr ⟨i, rfl, Nat.le_refl _, H.inv.free_of (H.rest i (Nat.le_refl _))⟩, fun q hq hne => H.done q (by omega), fun q hq => H.rest q (by omega)⟩
theorem Mid.out_none {P R : List (List Int)} {i : Nat} {c : Nat → Nat} {h : Int → Int} (H : Mid P R i c h (-1)) : Out P R (i + 1) c h :=
  ⟨H.inv, fun q hq => H.done q (by omega) (by omega), fun q hq => H.rest q (by omega)⟩
theorem Mid.out_all {P R : List (List Int)} {i q : Nat} {c : Nat → Nat} {h : Int → Int} (H : Mid P R i c h (q : Int)) (hc : c q = (nthL P q).length) : Out P R (i + 1) c h :=
  ⟨H.inv, fun p hp => by
    by_cases e : p = q
    · subst e; exact Or.inl hc
    · exact H.done p (by omega) (by omega), fun q hq => H.rest q (by omega)⟩
theorem Mid.le {P R : List (List Int)} {i q : Nat} {c : Nat → Nat} {h : Int → Int} (H : Mid P R i c h (q : Int)) : q ≤ i ∧ FreeQ h q := by
  rcases H.cur with e | ⟨p, e, h1, h2⟩
  · omega
  · have : p = q := by omega
    subst this
    exact ⟨h1, h2⟩
theorem Mid.reject {P R : List (List Int)} {i q : Nat} {c : Nat → Nat} {h : Int → Int} {r : Int} (hS : sidesQ P R) (H : Mid P R i c h (q : Int)) (hi : i < P.length) (hr : (nthL P q)[c q]? = some r)
    (hno : ¬ scoreQ (atL R r) (q : Int) < scoreQ (atL R r) (h r)) : Mid P R i (upC c q) h (q : Int) := by
  obtain ⟨hq, hf⟩ := H.le
  refine ⟨H.inv.reject hS (by omega) hf hr hno, H.cur, fun p hp hne => ?_, fun p hp => ?_⟩
  · have hpq : p ≠ q := fun e => hne (by rw [e])
    rcases H.done p hp hne with e | e
    · exact Or.inl (by unfold upC; rw [if_neg hpq]; exact e)
    · exact Or.inr e
  · unfold upC
    rw [if_neg (by omega)]
    exact H.rest p hp
theorem Mid.take {P R : List (List Int)} {i q : Nat} {c : Nat → Nat} {h : Int → Int} {r : Int} (hS : sidesQ P R) (H : Mid P R i c h (q : Int)) (hi : i < P.length) (hr : (nthL P q)[c q]? = some r)
    (hyes : scoreQ (atL R r) (q : Int) < scoreQ (atL R r) (h r)) : Mid P R i (upC c q) (upH h r (q : Int)) (h r) := by
  obtain ⟨hq, hf⟩ := H.le
  refine ⟨H.inv.take hS (by omega) hf hr hyes (H.inv.score_le hS r), ?_, fun p hp hne => ?_, fun p hp => ?_⟩
  · rcases H.inv.held r with e | ⟨p, e, e1, e2, _⟩
    · exact Or.inl e
    · refine Or.inr ⟨p, e, ?_, fun s hs => ?_⟩
      · rcases Nat.lt_or_ge i p with h1 | h1
        · have := H.rest p h1; omega
        · exact h1
      · unfold upH at hs
        split at hs
        · have : p = q := by omega
          subst this
          exact hf r e
        · rename_i hsr
          exact hsr (H.inv.one hs e)
  · by_cases hpq : p = q
    · subst hpq
      exact Or.inr ⟨r, by unfold upH; rw [if_pos rfl]⟩
    · rcases H.done p hp (by omega) with e | ⟨s, e⟩
      · exact Or.inl (by unfold upC; rw [if_neg hpq]; exact e)
      · refine Or.inr ⟨s, ?_⟩
        unfold upH
        rw [if_neg (fun e9 => hne (by rw [← e9, e]))]
        exact e
  · unfold upC
    rw [if_neg (by omega)]
    exact H.rest p hp
/-- Numbers of proposers, or -1. -/
theorem Inv.range {P R : List (List Int)} {c : Nat → Nat} {h : Int → Int} (H : Inv P R c h) (r : Int) : h r = -1 ∨ (0 ≤ h r ∧ h r < P.length) := by
  rcases H.held r with e | ⟨p, e, e1, _⟩
  · exact Or.inl e
  · right; omega
theorem Inv.outside {P R : List (List Int)} {c : Nat → Nat} {h : Int → Int} (hS : sidesQ P R) (H : Inv P R c h) {r : Int} (hr : ¬ (0 ≤ r ∧ r < R.length)) : h r = -1 := by
  rcases H.held r with e | ⟨p, e, e1, e2, e3, _⟩
  · exact e
  · exact absurd ((sides_P hS p).2 r (List.mem_of_getElem? e3)) hr
theorem tab_upC {n : Nat} {c : Nat → Nat} {q : Nat} : (tabI n (fun p => (c p : Int))).set q ((c q + 1 : Nat) : Int) = tabI n (fun p => (upC c q p : Int)) := by
  rw [tab_set]
  apply tab_congr
  intro i _
  unfold upC
  by_cases h : i = q
  · subst h; simp
  · simp [h]
theorem tab_upH {n : Nat} {h : Int → Int} {r : Nat} {x : Int} : (tabI n (fun s => h (s : Int))).set r x = tabI n (fun s => upH h (r : Int) x (s : Int)) := by
  rw [tab_set]
  apply tab_congr
  intro i _
  unfold upH
  by_cases e : i = r
  · subst e; simp
  · rw [if_neg e, if_neg (by omega)]
end Go.Proofs.Ytomnnickiljkgaa
