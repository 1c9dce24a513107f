/- Rounds of trades. -/
import Derived.Test.YtomnnickiljkgaaHq
import Derived.Test.YtomnnickiljkgaaHp
namespace Go.Proofs.Ytomnnickiljkgaa
open Go.RowKit

structure TInv (W : List (List Int)) (g : Nat → Int) (ρ : Nat → Nat) (t : Nat) : Prop where
  val : ∀ i, i < W.length → g i = -1 ∨ ∃ x : Nat, g i = (x : Int) ∧ x < W.length ∧ ρ x = ρ i ∧ ρ i < t ∧ g x ≠ -1 ∧ ∀ y, y < W.length → scoreQ (nthL W i) (y : Int) < scoreQ (nthL W i) (x : Int) → g y ≠ -1 ∧ ρ y < ρ i
  inj : ∀ i j, i < W.length → j < W.length → g i = g j → g i ≠ -1 → i = j
theorem TInv.start (W : List (List Int)) : TInv W (fun _ => -1) (fun _ => 0) 0 := ⟨fun _ _ => Or.inl rfl, fun _ _ _ _ _ h => absurd rfl h⟩
theorem TInv.range {W : List (List Int)} {g : Nat → Int} {ρ : Nat → Nat} {t : Nat} (h : TInv W g ρ t) {i : Nat} (hi : i < W.length) : g i = -1 ∨ (0 ≤ g i ∧ g i < W.length) := by
  rcases h.val i hi with e | ⟨x, e, hx, _⟩
  · exact Or.inl e
  · right; omega
theorem TInv.rank {W : List (List Int)} {g : Nat → Int} {ρ : Nat → Nat} {t : Nat} (h : TInv W g ρ t) {i : Nat} (hi : i < W.length) (hne : g i ≠ -1) : ρ i < t := by
  rcases h.val i hi with e | ⟨x, _, _, _, e, _⟩
  · exact absurd e hne
  · exact e
theorem TInv.cert {W : List (List Int)} {g : Nat → Int} {ρ : Nat → Nat} {t : Nat} (h : TInv W g ρ t) (hall : ∀ i, i < W.length → g i ≠ -1) : CertT W (fun i => (g i).toNat) ρ := by
  have hv : ∀ i, i < W.length → ∃ x : Nat, g i = (x : Int) ∧ x < W.length ∧ ρ x = ρ i ∧ ∀ y, y < W.length → scoreQ (nthL W i) (y : Int) < scoreQ (nthL W i) (x : Int) → ρ y < ρ i := by
    intro i hi
    rcases h.val i hi with e | ⟨x, e, hx, h1, _, _, h2⟩
    · exact absurd e (hall i hi)
    · exact ⟨x, e, hx, h1, fun y hy hs => (h2 y hy hs).2⟩
  refine ⟨⟨fun i hi => ?_, fun i j hi hj he => ?_⟩, fun i hi => ?_, fun i hi y hy hs => ?_⟩
  · obtain ⟨x, e, hx, _⟩ := hv i hi
    try dsimp only
    rw [e, Int.toNat_natCast]; exact hx
  · obtain ⟨x, e, hx, _⟩ := hv i hi
    obtain ⟨y, e2, hy, _⟩ := hv j hj
    dsimp only at he
    rw [e, e2, Int.toNat_natCast, Int.toNat_natCast] at he
    exact h.inj i j hi hj (by rw [e, e2, he]) (hall i hi)
  · obtain ⟨x, e, hx, h1, _⟩ := hv i hi
    rw [e, Int.toNat_natCast]; exact h1
  · obtain ⟨x, e, hx, _, h2⟩ := hv i hi
    try dsimp only at hs
    rw [e, Int.toNat_natCast] at hs
    exact h2 y hy hs
/-- Whom each points at: the first of its list that is left. -/
def ptI (W : List (List Int)) (g : Nat → Int) (i : Nat) : Int := firstQ (nthL W i) (fun x => decide (g x.toNat = -1))
def ptN (W : List (List Int)) (g : Nat → Int) (i : Nat) : Nat := (ptI W g i).toNat
theorem pt_spec {W : List (List Int)} {g : Nat → Int} (hW : AllT W) {b : Nat} (hb : b < W.length) (hgb : g b = -1) {i : Nat} (hi : i < W.length) :
    ptI W g i = (ptN W g i : Int) ∧ ptN W g i < W.length ∧ g (ptN W g i) = -1 ∧ ptI W g i ∈ nthL W i ∧ ∀ y, y < W.length → scoreQ (nthL W i) (y : Int) < scoreQ (nthL W i) (ptN W g i : Int) → g y ≠ -1 := by
  have hl := listed_iff.1 (hW i hi).2
  have hmem : ptI W g i ∈ nthL W i ∧ decide (g (ptI W g i).toNat = -1) = true := by
    rcases first_mem (l := nthL W i) (pb := fun x => decide (g x.toNat = -1)) with e | e
    · exfalso
      have h1 : (nthL W i).find? (fun x => decide (g x.toNat = -1)) ≠ none := by
        rw [Ne, List.find?_eq_none]
        intro hno
        have := hno (b : Int) (hW.mem hi hb)
        rw [Int.toNat_natCast] at this
        simp [hgb] at this
      unfold firstQ at e
      cases hf : (nthL W i).find? (fun x => decide (g x.toNat = -1)) with
      | none => exact h1 hf
      | some z =>
        rw [hf] at e
        have hz := List.mem_of_find?_eq_some hf
        have := (hl.2 z hz).1
        simp at e
        omega
    · exact e
  have hr := hl.2 _ hmem.1
  have e1 : ptI W g i = (ptN W g i : Int) := by unfold ptN; omega
  refine ⟨e1, by unfold ptN; omega, by unfold ptN; simpa using hmem.2, hmem.1, fun y hy hs hgy => ?_⟩
  rw [← e1] at hs
  -- the first one that is left
  have hy2 : (y : Int) ∈ nthL W i := hW.mem hi hy
  obtain ⟨k, hk⟩ : ∃ k, k = scoreQ (nthL W i) (y : Int) := ⟨_, rfl⟩
  have hgk := score_get hy2
  rw [← hk] at hgk
  have hf : (nthL W i).find? (fun x => decide (g x.toNat = -1)) = some (ptI W g i) := by
    have : firstQ (nthL W i) (fun x => decide (g x.toNat = -1)) = ptI W g i := rfl
    unfold firstQ at this
    cases hq : (nthL W i).find? (fun x => decide (g x.toNat = -1)) with
    | none =>
      rw [hq] at this
      simp at this
      omega
    | some z => rw [hq] at this; simp at this; rw [this]
  rw [List.find?_eq_some_iff_getElem] at hf
  obtain ⟨_, j, hj, he, hno⟩ := hf
  have hsj : scoreQ (nthL W i) (ptI W g i) = j := score_at hl.1 (by rw [List.getElem?_eq_getElem hj, he])
  obtain ⟨hkl, hke⟩ := List.getElem?_eq_some_iff.1 hgk
  have := hno k (by omega)
  rw [hke, Int.toNat_natCast] at this
  simp [hgy] at this
theorem it_left {W : List (List Int)} {g : Nat → Int} (hW : AllT W) {b : Nat} (hb : b < W.length) (hgb : g b = -1) (k : Nat) : itN (ptN W g) k b < W.length ∧ g (itN (ptN W g) k b) = -1 := by
  induction k with
  | zero => exact ⟨hb, hgb⟩
  | succ k ih =>
    have := pt_spec hW hb hgb ih.1
    exact ⟨this.2.1, this.2.2.1⟩
/-- What is got where the first j of a cycle have got theirs. -/
def putG (W : List (List Int)) (g : Nat → Int) (b j : Nat) : Nat → Int := fun x => if x ∈ orbL (ptN W g) b j then (ptN W g x : Int) else g x
theorem putG_zero (W : List (List Int)) (g : Nat → Int) (b : Nat) : putG W g b 0 = g := by
  funext x
  unfold putG
  rw [if_neg (by simp [orbL])]
theorem putG_at {W : List (List Int)} {g : Nat → Int} (hW : AllT W) {b : Nat} (hb : b < W.length) (hgb : g b = -1) (j : Nat) : (putG W g b j (itN (ptN W g) j b) = -1 ↔ itN (ptN W g) j b ∉ orbL (ptN W g) b j) := by
  unfold putG
  by_cases h : itN (ptN W g) j b ∈ orbL (ptN W g) b j
  · rw [if_pos h]
    exact ⟨fun e => by omega, fun e => absurd h e⟩
  · rw [if_neg h]
    exact ⟨fun _ => h, fun _ => (it_left hW hb hgb j).2⟩
theorem putG_set {W : List (List Int)} {g : Nat → Int} {b j n : Nat} : (tabI n (putG W g b j)).set (itN (ptN W g) j b) (ptN W g (itN (ptN W g) j b) : Int) = tabI n (putG W g b (j + 1)) := by
  rw [tab_set]
  apply tab_congr
  intro i _
  unfold putG
  rw [orbL_succ]
  by_cases e : i = itN (ptN W g) j b
  · subst e
    rw [if_pos rfl, if_pos (by simp)]
  · rw [if_neg e]
    by_cases h : i ∈ orbL (ptN W g) b j
    · rw [if_pos h, if_pos (by simp [h])]
    · rw [if_neg h, if_neg (by simp [h, e])]
theorem orb_len {W : List (List Int)} {g : Nat → Int} (hW : AllT W) {b : Nat} (hb : b < W.length) (hgb : g b = -1) {j : Nat} (hn : (orbL (ptN W g) b j).Nodup) : j ≤ W.length := by
  have := subset_len (k := List.range W.length) hn (fun x hx => by
    obtain ⟨k, _, rfl⟩ := mem_orb.1 hx
    exact List.mem_range.2 (it_left hW hb hgb k).1)
  simpa [orbL] using this
theorem orb_more {p : Nat → Nat} {b j : Nat} (hn : (orbL p b j).Nodup) (h : itN p j b ∉ orbL p b j) : (orbL p b (j + 1)).Nodup := by
  rw [orbL_succ, List.nodup_append]
  refine ⟨hn, by simp, fun a ha c hc e => ?_⟩
  simp at hc
  subst hc
  subst e
  exact h ha
theorem TInv.cycle {W : List (List Int)} {g : Nat → Int} {ρ : Nat → Nat} {t b j : Nat} (hW : AllT W) (H : TInv W g ρ t) (hb : b < W.length) (hgb : g b = -1) (hc : ∃ k, 0 < k ∧ itN (ptN W g) k b = b) (hn : (orbL (ptN W g) b j).Nodup)
    (hm : itN (ptN W g) j b ∈ orbL (ptN W g) b j) : TInv W (putG W g b j) (fun x => if x ∈ orbL (ptN W g) b j then t else ρ x) (t + 1) := by
  obtain ⟨hjb, hj0⟩ := orb_closed hc hn hm
  have hE : ∀ x, x ∈ orbL (ptN W g) b j → x < W.length ∧ g x = -1 := fun x hx => by
    obtain ⟨k, _, rfl⟩ := mem_orb.1 hx
    exact it_left hW hb hgb k
  have hpE : ∀ x, x ∈ orbL (ptN W g) b j → ptN W g x ∈ orbL (ptN W g) b j := fun x hx => by
    obtain ⟨k, hk, rfl⟩ := mem_orb.1 hx
    by_cases e : k + 1 = j
    · have : ptN W g (itN (ptN W g) k b) = itN (ptN W g) j b := by rw [← e]; rfl
      rw [this, hjb]
      exact mem_orb.2 ⟨0, hj0, rfl⟩
    · exact mem_orb.2 ⟨k + 1, by omega, rfl⟩
  have hnd : ∀ k m, k < j → m < j → itN (ptN W g) k b = itN (ptN W g) m b → k = m := by
    intro k m hk hm he
    unfold List.Nodup orbL at hn
    rw [List.pairwise_map, List.pairwise_iff_getElem] at hn
    rcases Nat.lt_trichotomy k m with h | h | h
    · exact (hn k m (by simpa using hk) (by simpa using hm) h (by simp only [List.getElem_range]; exact he)).elim
    · exact h
    · exact (hn m k (by simpa using hm) (by simpa using hk) h (by simp only [List.getElem_range]; exact he.symm)).elim
  have hpi : ∀ x y, x ∈ orbL (ptN W g) b j → y ∈ orbL (ptN W g) b j → ptN W g x = ptN W g y → x = y := fun x y hx hy he => by
    obtain ⟨k, hk, rfl⟩ := mem_orb.1 hx
    obtain ⟨m, hm', rfl⟩ := mem_orb.1 hy
    have he' : itN (ptN W g) (k + 1) b = itN (ptN W g) (m + 1) b := he
    by_cases e : k + 1 = j
    · by_cases e2 : m + 1 = j
      · rw [show k = m by omega]
      · exfalso
        rw [e, hjb] at he'
        have := hnd 0 (m + 1) hj0 (by omega) he'
        omega
    · by_cases e2 : m + 1 = j
      · exfalso
        rw [e2, hjb] at he'
        have := hnd 0 (k + 1) hj0 (by omega) he'.symm
        omega
      · rw [show k = m by have := hnd (k + 1) (m + 1) (by omega) (by omega) he'; omega]
  have hput : ∀ y, g y ≠ -1 → y < W.length → putG W g b j y ≠ -1 ∧ (if y ∈ orbL (ptN W g) b j then t else ρ y) = ρ y := fun y hy _ => by
    have hno : y ∉ orbL (ptN W g) b j := fun hm => hy (hE y hm).2
    unfold putG
    rw [if_neg hno, if_neg hno]
    exact ⟨hy, rfl⟩
  refine ⟨fun i hi => ?_, fun i k hi hk he hne => ?_⟩
  · by_cases hiE : i ∈ orbL (ptN W g) b j
    · right
      have hs := pt_spec hW hb hgb hi
      refine ⟨ptN W g i, by unfold putG; rw [if_pos hiE], hs.2.1, ?_, ?_, ?_, fun y hy hlt => ?_⟩
      · try dsimp only
        rw [if_pos (hpE i hiE), if_pos hiE]
      · try dsimp only
        rw [if_pos hiE]; omega
      · unfold putG
        rw [if_pos (hpE i hiE)]; omega
      · have hgy := hs.2.2.2.2 y hy hlt
        obtain ⟨h1, h2⟩ := hput y hgy hy
        refine ⟨h1, ?_⟩
        try dsimp only
        rw [h2, if_pos hiE]
        exact H.rank hy hgy
    · have e1 : putG W g b j i = g i := by unfold putG; rw [if_neg hiE]
      rw [e1]
      rcases H.val i hi with e | ⟨x, e, hx, h1, h2, h3, h4⟩
      · exact Or.inl e
      · right
        obtain ⟨h5, h6⟩ := hput x h3 hx
        refine ⟨x, e, hx, ?_, ?_, h5, fun y hy hlt => ?_⟩
        · try dsimp only
          rw [h6, if_neg hiE, h1]
        · try dsimp only
          rw [if_neg hiE]; omega
        · obtain ⟨h7, h8⟩ := h4 y hy hlt
          obtain ⟨h9, h10⟩ := hput y h7 hy
          refine ⟨h9, ?_⟩
          try dsimp only
          rw [h10, if_neg hiE]
          exact h8
  · by_cases hiE : i ∈ orbL (ptN W g) b j
    · have e1 : putG W g b j i = (ptN W g i : Int) := by unfold putG; rw [if_pos hiE]
      by_cases hkE : k ∈ orbL (ptN W g) b j
      · have e2 : putG W g b j k = (ptN W g k : Int) := by unfold putG; rw [if_pos hkE]
        rw [e1, e2] at he
        exact hpi i k hiE hkE (by omega)
      · exfalso
        have e2 : putG W g b j k = g k := by unfold putG; rw [if_neg hkE]
        rw [e1, e2] at he
        rcases H.val k hk with e | ⟨x, e, hx, _, _, h3, _⟩
        · omega
        · have hxp : x = ptN W g i := by omega
          subst hxp
          exact h3 (hE _ (hpE i hiE)).2
    · have e1 : putG W g b j i = g i := by unfold putG; rw [if_neg hiE]
      by_cases hkE : k ∈ orbL (ptN W g) b j
      · exfalso
        have e2 : putG W g b j k = (ptN W g k : Int) := by unfold putG; rw [if_pos hkE]
        rw [e1, e2] at he
        rcases H.val i hi with e | ⟨x, e, hx, _, _, h3, _⟩
        · omega
        · have hxp : x = ptN W g k := by omega
          subst hxp
          exact h3 (hE _ (hpE k hkE)).2
      · have e2 : putG W g b j k = g k := by unfold putG; rw [if_neg hkE]
        rw [e1, e2] at he
        rw [e1] at hne
        exact H.inj i k hi hk he hne
/-- How many have nothing yet. -/
def openT (n : Nat) (g : Nat → Int) : Nat := ((List.range n).filter (fun i => g i == -1)).length
theorem open_less {W : List (List Int)} {g : Nat → Int} {b j : Nat} (hb : b < W.length) (hgb : g b = -1) (hj : 0 < j) : openT W.length (putG W g b j) < openT W.length g := by
  unfold openT
  have hsub : ∀ x ∈ b :: (List.range W.length).filter (fun i => putG W g b j i == -1), x ∈ (List.range W.length).filter (fun i => g i == -1) := by
    intro x hx
    rcases List.mem_cons.1 hx with rfl | hx
    · rw [List.mem_filter]
      exact ⟨List.mem_range.2 hb, by simp [hgb]⟩
    · rw [List.mem_filter] at hx ⊢
      refine ⟨hx.1, ?_⟩
      have h2 := hx.2
      unfold putG at h2
      split at h2
      · exfalso; simp at h2
      · exact h2
  have hnd : (b :: (List.range W.length).filter (fun i => putG W g b j i == -1)).Nodup := by
    rw [List.nodup_cons]
    refine ⟨fun hm => ?_, List.Pairwise.filter _ List.nodup_range⟩
    have h2 := (List.mem_filter.1 hm).2
    unfold putG at h2
    have h3 : b ∈ orbL (ptN W g) b j := mem_orb.2 ⟨0, hj, rfl⟩
    simp only [if_pos h3] at h2
    simp at h2
  have := subset_len hnd hsub
  simp only [List.length_cons] at this
  omega
end Go.Proofs.Ytomnnickiljkgaa
