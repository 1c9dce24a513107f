/- Trades in cycles: rounds, what holds of what is got, groups that object, groups that lie. Lists and numbers alone. -/
import Derived.Test.YtomnnickiljkgaaHg
namespace Go.Proofs.Ytomnnickiljkgaa

/-! ### Sums along a permutation -/
def sumT (n : Nat) (f : Nat → Nat) : Nat := ((List.range n).map f).sum
theorem sumT_succ (n : Nat) (f : Nat → Nat) : sumT (n + 1) f = sumT n f + f n := by
  unfold sumT
  rw [List.range_succ, List.map_append, List.sum_append]
  simp
theorem sumT_le {n : Nat} {f g : Nat → Nat} (h : ∀ i, i < n → f i ≤ g i) : sumT n f ≤ sumT n g := by
  induction n with
  | zero => exact Nat.le_refl _
  | succ n ih =>
    rw [sumT_succ, sumT_succ]
    have := ih (fun i hi => h i (by omega))
    have := h n (by omega)
    omega
theorem sumT_eq {n : Nat} {f g : Nat → Nat} (h : ∀ i, i < n → f i ≤ g i) (he : sumT n f = sumT n g) : ∀ i, i < n → f i = g i := by
  induction n with
  | zero => intro i hi; omega
  | succ n ih =>
    rw [sumT_succ, sumT_succ] at he
    have h1 := sumT_le (n := n) (f := f) (g := g) (fun i hi => h i (by omega))
    have h2 := h n (by omega)
    intro i hi
    by_cases e : i = n
    · subst e; omega
    · exact ih (fun i hi => h i (by omega)) (by omega) i (by omega)
/-- Is a map one to one, and within? -/
def PermF (n : Nat) (g : Nat → Nat) : Prop := (∀ i, i < n → g i < n) ∧ ∀ i j, i < n → j < n → g i = g j → i = j
theorem PermF.map_nodup {n : Nat} {g : Nat → Nat} (h : PermF n g) : ((List.range n).map g).Nodup := by
  unfold List.Nodup
  rw [List.pairwise_map]
  refine List.Pairwise.imp_of_mem ?_ (List.nodup_range (n := n))
  intro a b ha hb hne he
  exact hne (h.2 a b (List.mem_range.1 ha) (List.mem_range.1 hb) he)
theorem PermF.perm {n : Nat} {g : Nat → Nat} (h : PermF n g) : ((List.range n).map g).Perm (List.range n) := by
  have hs : ∀ x ∈ (List.range n).map g, x ∈ List.range n := fun x hx => by
    obtain ⟨i, hi, rfl⟩ := List.mem_map.1 hx
    exact List.mem_range.2 (h.1 i (List.mem_range.1 hi))
  rw [List.perm_ext_iff_of_nodup h.map_nodup List.nodup_range]
  exact fun a => ⟨hs a, subset_all h.map_nodup hs (by simp) a⟩
theorem PermF.onto {n : Nat} {g : Nat → Nat} (h : PermF n g) {x : Nat} (hx : x < n) : ∃ i, i < n ∧ g i = x := by
  have := h.perm.mem_iff.2 (List.mem_range.2 hx)
  obtain ⟨i, hi, e⟩ := List.mem_map.1 this
  exact ⟨i, List.mem_range.1 hi, e⟩
theorem PermF.sum {n : Nat} {g : Nat → Nat} (h : PermF n g) (f : Nat → Nat) : sumT n (fun i => f (g i)) = sumT n f := by
  have h1 := (h.perm.map f).sum_nat
  rw [List.map_map] at h1
  exact h1
/-- Along a permutation nothing falls for ever. -/
theorem PermF.still {n : Nat} {g : Nat → Nat} (h : PermF n g) {f : Nat → Nat} (hle : ∀ i, i < n → f (g i) ≤ f i) : ∀ i, i < n → f (g i) = f i :=
  sumT_eq hle (h.sum f)

/-! ### What trades give -/
/-- Each list has all things. -/
def AllT (W : List (List Int)) : Prop := ∀ i, i < W.length → (nthL W i).length = W.length ∧ listedQ W.length (nthL W i) = true
theorem AllT.mem {W : List (List Int)} (h : AllT W) {i x : Nat} (hi : i < W.length) (hx : x < W.length) : (x : Int) ∈ nthL W i := by
  obtain ⟨h1, h2⟩ := h i hi
  obtain ⟨h3, h4⟩ := listed_iff.1 h2
  have hnd : ((nthL W i).map Int.toNat).Nodup := by
    unfold List.Nodup
    rw [List.pairwise_map]
    refine List.Pairwise.imp_of_mem ?_ h3
    intro a b ha hb hne he
    have := h4 a ha
    have := h4 b hb
    exact hne (by omega)
  have hs : ∀ y ∈ (nthL W i).map Int.toNat, y ∈ List.range W.length := fun y hy => by
    obtain ⟨z, hz, rfl⟩ := List.mem_map.1 hy
    have := h4 z hz
    exact List.mem_range.2 (by omega)
  have hm := subset_all hnd hs (by rw [List.length_map, List.length_range]; omega) x (List.mem_range.2 hx)
  obtain ⟨z, hz, e⟩ := List.mem_map.1 hm
  have := h4 z hz
  rw [show (x : Int) = z by omega]
  exact hz
theorem AllT.inj {W : List (List Int)} (h : AllT W) {i x y : Nat} (hi : i < W.length) (hx : x < W.length) (he : scoreQ (nthL W i) (y : Int) = scoreQ (nthL W i) (x : Int)) : y = x := by
  have := score_inj (h.mem hi hx) he
  omega
/-- What is got, with the rounds in which each goes. -/
structure CertT (W : List (List Int)) (g : Nat → Nat) (ρ : Nat → Nat) : Prop where
  perm : PermF W.length g
  same : ∀ i, i < W.length → ρ (g i) = ρ i
  ahead : ∀ i, i < W.length → ∀ x, x < W.length → scoreQ (nthL W i) (x : Int) < scoreQ (nthL W i) (g i : Int) → ρ x < ρ i

/-- A group (in) could do better than by g' with things of its own. -/
def ObjT (W : List (List Int)) (g' : Nat → Nat) (G : Nat → Prop) (s : Nat → Nat) : Prop :=
  (∀ i, i < W.length → G i → s i < W.length ∧ G (s i) ∧ scoreQ (nthL W i) (s i : Int) ≤ scoreQ (nthL W i) (g' i : Int)) ∧
  (∀ i j, i < W.length → j < W.length → G i → G j → s i = s j → i = j) ∧ ∃ i, i < W.length ∧ G i ∧ s i ≠ g' i
open Classical in
theorem CertT.core {W : List (List Int)} {g ρ : Nat → Nat} (hW : AllT W) (h : CertT W g ρ) {G : Nat → Prop} {s : Nat → Nat} (ho : ObjT W g G s) : False := by
  obtain ⟨h1, h2, i0, hi0, hG0, hne⟩ := ho
  have hP : PermF W.length (fun i => if G i then s i else i) := by
    refine ⟨fun i hi => ?_, fun i j hi hj he => ?_⟩
    · dsimp only
      split
      · rename_i hG; exact (h1 i hi hG).1
      · exact hi
    · dsimp only at he
      split at he
      · rename_i hGi
        split at he
        · rename_i hGj; exact h2 i j hi hj hGi hGj he
        · rename_i hGj; exact absurd (he ▸ (h1 i hi hGi).2.1) hGj
      · rename_i hGi
        split at he
        · rename_i hGj; exact absurd (he ▸ (h1 j hj hGj).2.1) hGi
        · exact he
  have hle : ∀ i, i < W.length → (fun k => if G k then ρ k else 0) ((fun i => if G i then s i else i) i) ≤ (fun k => if G k then ρ k else 0) i := by
    intro i hi
    dsimp only
    by_cases hG : G i
    · rw [if_pos hG, if_pos (h1 i hi hG).2.1, if_pos hG]
      rcases Nat.lt_or_ge (scoreQ (nthL W i) (s i : Int)) (scoreQ (nthL W i) (g i : Int)) with hlt | hge
      · exact Nat.le_of_lt (h.ahead i hi _ (h1 i hi hG).1 hlt)
      · have := (h1 i hi hG).2.2
        have he := hW.inj hi (h.perm.1 i hi) (show scoreQ (nthL W i) (s i : Int) = _ by omega)
        rw [he, h.same i hi]
        exact Nat.le_refl _
    · rw [if_neg hG, if_neg hG]
      exact Nat.le_refl _
  have he := PermF.still (f := fun k => if G k then ρ k else 0) hP hle i0 hi0
  rw [if_pos hG0, if_pos (h1 i0 hi0 hG0).2.1, if_pos hG0] at he
  have hlt : scoreQ (nthL W i0) (s i0 : Int) < scoreQ (nthL W i0) (g i0 : Int) := by
    have := (h1 i0 hi0 hG0).2.2
    rcases Nat.lt_or_ge (scoreQ (nthL W i0) (s i0 : Int)) (scoreQ (nthL W i0) (g i0 : Int)) with hlt | hge
    · exact hlt
    · exact absurd (hW.inj hi0 (h.perm.1 i0 hi0) (by omega)) hne
  have := h.ahead i0 hi0 _ (h1 i0 hi0 hG0).1 hlt
  omega
/-- To whatever else is given some group objects. -/
theorem CertT.object {W : List (List Int)} {g ρ g' : Nat → Nat} (h : CertT W g ρ) (hp : PermF W.length g') (hne : ∃ i, i < W.length ∧ g' i ≠ g i) : ∃ r, ObjT W g' (fun i => ρ i = r) g := by
  have key : ∀ r, (∀ q, q < r → ∀ i, i < W.length → ρ i = q → g' i = g i) → (∀ i, i < W.length → ρ i = r → scoreQ (nthL W i) (g i : Int) ≤ scoreQ (nthL W i) (g' i : Int)) := by
    intro r hr i hi hri
    rcases Nat.lt_or_ge (scoreQ (nthL W i) (g' i : Int)) (scoreQ (nthL W i) (g i : Int)) with hlt | hge
    · exfalso
      have h1 := h.ahead i hi _ (hp.1 i hi) hlt
      obtain ⟨j, hj, e⟩ := h.perm.onto (hp.1 i hi)
      have h2 := h.same j hj
      rw [e] at h2
      have h3 := hr (ρ j) (by omega) j hj rfl
      have h4 := hp.2 j i hj hi (by rw [h3, e])
      subst h4
      omega
    · exact hge
  apply Classical.byContradiction
  intro hno
  have all : ∀ r i, i < W.length → ρ i = r → g' i = g i := by
    intro r
    induction r using Nat.strongRecOn with
    | _ r ih =>
      intro i hi hri
      apply Classical.byContradiction
      intro hd
      refine hno ⟨r, fun k hk hrk => ⟨h.perm.1 k hk, (h.same k hk).trans hrk, key r ih k hk hrk⟩, fun a b ha hb _ _ e => h.perm.2 a b ha hb e, i, hi, hri, fun e => hd e.symm⟩
  obtain ⟨i, hi, hd⟩ := hne
  exact hd (all _ i hi rfl)
theorem CertT.one {W : List (List Int)} {g ρ g' ρ' : Nat → Nat} (hW : AllT W) (h : CertT W g ρ) (h' : CertT W g' ρ') {i : Nat} (hi : i < W.length) : g' i = g i := by
  apply Classical.byContradiction
  intro hd
  obtain ⟨r, ho⟩ := h.object h'.perm ⟨i, hi, hd⟩
  exact h'.core hW ho
/-- Groups that lie: if none of them is worse, nothing has changed. -/
theorem CertT.truth {W V : List (List Int)} {g ρ g' ρ' : Nat → Nat} {G : Nat → Prop} (hW : AllT W) (hl : V.length = W.length) (hs : ∀ i, i < W.length → ¬ G i → nthL V i = nthL W i) (h : CertT W g ρ) (h' : CertT V g' ρ')
    (hn : ∀ i, i < W.length → G i → ¬ scoreQ (nthL W i) (g i : Int) < scoreQ (nthL W i) (g' i : Int)) : ∀ i, i < W.length → g' i = g i := by
  have hp : PermF W.length g' := by have := h'.perm; rwa [hl] at this
  have all : ∀ r i, i < W.length → ρ i = r → g' i = g i := by
    intro r
    induction r using Nat.strongRecOn with
    | _ r ih =>
      have hweak : ∀ i, i < W.length → ρ i = r → scoreQ (nthL W i) (g i : Int) ≤ scoreQ (nthL W i) (g' i : Int) := by
        intro i hi hri
        rcases Nat.lt_or_ge (scoreQ (nthL W i) (g' i : Int)) (scoreQ (nthL W i) (g i : Int)) with hlt | hge
        · exfalso
          have h1 := h.ahead i hi _ (hp.1 i hi) hlt
          obtain ⟨j, hj, e⟩ := h.perm.onto (hp.1 i hi)
          have h2 := h.same j hj
          rw [e] at h2
          have h3 := ih (ρ j) (by omega) j hj rfl
          have h4 := hp.2 j i hj hi (by rw [h3, e])
          subst h4
          omega
        · exact hge
      have hstep : ∀ i, i < W.length → ρ i = r → g' i = g i ∨ ρ' (g i) < ρ' i := by
        intro i hi hri
        by_cases hG : G i
        · left
          have h1 := hn i hi hG
          have h2 := hweak i hi hri
          exact hW.inj hi (h.perm.1 i hi) (by omega)
        · by_cases e : g' i = g i
          · exact Or.inl e
          · right
            have h2 := hweak i hi hri
            have h3 : scoreQ (nthL W i) (g i : Int) < scoreQ (nthL W i) (g' i : Int) := by
              rcases Nat.lt_or_ge (scoreQ (nthL W i) (g i : Int)) (scoreQ (nthL W i) (g' i : Int)) with h4 | h4
              · exact h4
              · exact absurd (hW.inj hi (h.perm.1 i hi) (by omega)) e
            rw [← hs i hi hG] at h3
            exact h'.ahead i (by rw [hl]; exact hi) _ (by rw [hl]; exact h.perm.1 i hi) h3
      have hle : ∀ i, i < W.length → (fun k => if ρ k = r then ρ' k else 0) (g i) ≤ (fun k => if ρ k = r then ρ' k else 0) i := by
        intro i hi
        dsimp only
        rw [h.same i hi]
        by_cases hri : ρ i = r
        · rw [if_pos hri, if_pos hri]
          rcases hstep i hi hri with e | e
          · rw [← e, h'.same i (by rw [hl]; exact hi)]; exact Nat.le_refl _
          · exact Nat.le_of_lt e
        · rw [if_neg hri, if_neg hri]; exact Nat.le_refl _
      intro i hi hri
      have he := PermF.still (f := fun k => if ρ k = r then ρ' k else 0) h.perm hle i hi
      rw [h.same i hi, if_pos hri, if_pos hri] at he
      rcases hstep i hi hri with e | e
      · exact e
      · omega
  exact fun i hi => all _ i hi rfl

/-! ### Rounds -/
/-- k steps along a map. -/
def itN (p : Nat → Nat) : Nat → Nat → Nat
  | 0, b => b
  | k + 1, b => p (itN p k b)
theorem itN_add (p : Nat → Nat) (k m b : Nat) : itN p (k + m) b = itN p k (itN p m b) := by
  induction k with
  | zero => rw [Nat.zero_add]; rfl
  | succ k ih => rw [Nat.add_right_comm]; simp only [itN, ih]
theorem itN_back {p : Nat → Nat} {k b : Nat} (h : itN p k b = b) (m : Nat) : itN p (k * m) b = b := by
  induction m with
  | zero => rfl
  | succ m ih => rw [Nat.mul_succ, itN_add, h, ih]
/-- The first steps. -/
def orbL (p : Nat → Nat) (b j : Nat) : List Nat := (List.range j).map (fun k => itN p k b)
theorem orbL_succ (p : Nat → Nat) (b j : Nat) : orbL p b (j + 1) = orbL p b j ++ [itN p j b] := by
  unfold orbL
  rw [List.range_succ, List.map_append]; rfl
theorem mem_orb {p : Nat → Nat} {b j x : Nat} : x ∈ orbL p b j ↔ ∃ k, k < j ∧ itN p k b = x := by
  unfold orbL
  rw [List.mem_map]
  exact ⟨fun ⟨k, hk, e⟩ => ⟨k, List.mem_range.1 hk, e⟩, fun ⟨k, hk, e⟩ => ⟨k, List.mem_range.2 hk, e⟩⟩
/-- Behind n steps one stands in a cycle. -/
theorem in_cycle {p : Nat → Nat} {n a : Nat} (ha : a < n) (hp : ∀ x, x < n → p x < n) : ∃ k, 0 < k ∧ itN p k (itN p n a) = itN p n a := by
  have hr : ∀ k, itN p k a < n := fun k => by
    induction k with
    | zero => exact ha
    | succ k ih => exact hp _ ih
  have hnn : ¬ (orbL p a (n + 1)).Nodup := fun hn => by
    have := subset_len (k := List.range n) hn (fun x hx => by
      obtain ⟨k, _, rfl⟩ := mem_orb.1 hx
      exact List.mem_range.2 (hr k))
    simp [orbL] at this
    omega
  obtain ⟨i, j, hij, hj, he⟩ : ∃ i j, i < j ∧ j ≤ n ∧ itN p i a = itN p j a := by
    apply Classical.byContradiction
    intro hno
    apply hnn
    unfold List.Nodup orbL
    rw [List.pairwise_map, List.pairwise_iff_getElem]
    intro i j hi hj hij he
    simp only [List.getElem_range] at he
    rw [List.length_range] at hj
    exact hno ⟨i, j, hij, by omega, he⟩
  refine ⟨j - i, by omega, ?_⟩
  have e1 : itN p n a = itN p (n - i) (itN p i a) := by rw [← itN_add]; congr 1; omega
  have e2 : itN p (j - i) (itN p n a) = itN p (n - i) (itN p j a) := by
    rw [← itN_add, ← itN_add]; congr 1; omega
  rw [e2, ← he, ← e1]
/-- Where steps of a cycle first meet themselves, they are at the beginning. -/
theorem orb_closed {p : Nat → Nat} {b j : Nat} (hc : ∃ k, 0 < k ∧ itN p k b = b) (hn : (orbL p b j).Nodup) (hm : itN p j b ∈ orbL p b j) : itN p j b = b ∧ 0 < j := by
  obtain ⟨i, hi, he⟩ := mem_orb.1 hm
  refine ⟨?_, by omega⟩
  by_cases h0 : i = 0
  · subst h0; exact he.symm
  exfalso
  obtain ⟨k, hk, hkb⟩ := hc
  have hK := itN_back hkb i
  have hKi : i ≤ k * i := Nat.le_mul_of_pos_left i hk
  have e1 : itN p (k * i - i) (itN p i b) = b := by rw [← itN_add, Nat.sub_add_cancel hKi, hK]
  have e2 : itN p (k * i - i) (itN p j b) = itN p (j - i) b := by
    rw [← itN_add, show k * i - i + j = (j - i) + k * i by omega, itN_add, hK]
  rw [he, e2] at e1
  -- two of the first j are the same
  unfold List.Nodup orbL at hn
  rw [List.pairwise_map, List.pairwise_iff_getElem] at hn
  exact hn 0 (j - i) (by simp; omega) (by simp; omega) (by omega) (by simpa [itN] using e1.symm)
end Go.Proofs.Ytomnnickiljkgaa
