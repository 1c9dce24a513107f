/- Deferred acceptance: the best matching exists, who is matched, and that no proposer gains by another list. -/
import Derived.Test.YtomnnickiljkgaaHa
namespace Go.Proofs.Ytomnnickiljkgaa

/-- How much is left to ask. -/
def leftQ (P : List (List Int)) (c : Nat → Nat) (n : Nat) : Nat := ((List.range n).map (fun p => (nthL P p).length - c p)).sum
theorem leftQ_succ (P : List (List Int)) (c : Nat → Nat) (n : Nat) : leftQ P c (n + 1) = leftQ P c n + ((nthL P n).length - c n) := by
  unfold leftQ
  rw [List.range_succ, List.map_append, List.sum_append]
  simp
theorem leftQ_other {P : List (List Int)} {c : Nat → Nat} {p n : Nat} (h : n ≤ p) : leftQ P (upC c p) n = leftQ P c n := by
  induction n with
  | zero => rfl
  | succ n ih =>
    rw [leftQ_succ, leftQ_succ, ih (by omega)]
    have : upC c p n = c n := by unfold upC; rw [if_neg (by omega)]
    rw [this]
theorem leftQ_up {P : List (List Int)} {c : Nat → Nat} {p n : Nat} (h : p < n) (hc : c p < (nthL P p).length) : leftQ P (upC c p) n + 1 = leftQ P c n := by
  induction n with
  | zero => omega
  | succ n ih =>
    rw [leftQ_succ, leftQ_succ]
    by_cases hpn : p = n
    · subst hpn
      rw [leftQ_other (Nat.le_refl _), upC_self]
      omega
    · have : upC c p n = c n := by unfold upC; rw [if_neg (by omega)]
      rw [this, ← ih (by omega)]
      omega

open Classical in
theorem end_of {P R : List (List Int)} (hS : sidesQ P R) : ∀ (n : Nat) (c : Nat → Nat) (h : Int → Int), Inv P R c h → leftQ P c P.length ≤ n → ∃ m, EndQ P R m := by
  intro n
  induction n with
  | zero =>
    intro c h H hl
    refine ⟨fun p => if hh : ∃ r, h r = (p : Int) then hh.choose else -1, H.done hS (fun p hp => ?_) (fun p hp => ⟨fun hne => ?_, fun r hr => ?_⟩)⟩
    · left
      have := H.len p
      rcases Nat.lt_or_ge (c p) (nthL P p).length with h1 | h1
      · have := leftQ_up hp h1; omega
      · omega
    · try dsimp only at hne ⊢
      by_cases hh : ∃ r, h r = (p : Int)
      · rw [dif_pos hh]; exact hh.choose_spec
      · rw [dif_neg hh] at hne; exact absurd rfl hne
    · have hh : ∃ r, h r = (p : Int) := ⟨r, hr⟩
      try dsimp only
      rw [dif_pos hh]
      exact H.one hh.choose_spec hr
  | succ n ih =>
    intro c h H hl
    by_cases hd : ∀ p, p < P.length → DoneQ P c h p
    · refine ⟨fun p => if hh : ∃ r, h r = (p : Int) then hh.choose else -1, H.done hS hd (fun p hp => ⟨fun hne => ?_, fun r hr => ?_⟩)⟩
      · try dsimp only at hne ⊢
        by_cases hh : ∃ r, h r = (p : Int)
        · rw [dif_pos hh]; exact hh.choose_spec
        · rw [dif_neg hh] at hne; exact absurd rfl hne
      · have hh : ∃ r, h r = (p : Int) := ⟨r, hr⟩
        try dsimp only
        rw [dif_pos hh]
        exact H.one hh.choose_spec hr
    · obtain ⟨p, hp⟩ := Classical.not_forall.1 hd
      obtain ⟨hpl, hnd⟩ := Classical.not_imp.1 hp
      have hf : FreeQ h p := fun r hr => hnd (Or.inr ⟨r, hr⟩)
      have hc : c p < (nthL P p).length := by
        rcases Nat.lt_or_ge (c p) (nthL P p).length with h1 | h1
        · exact h1
        · exact absurd (Or.inl (by have := H.len p; omega)) hnd
      have hr : (nthL P p)[c p]? = some (nthL P p)[c p] := List.getElem?_eq_getElem hc
      have hm := leftQ_up (P := P) hpl hc
      by_cases hs : scoreQ (atL R (nthL P p)[c p]) (p : Int) < scoreQ (atL R (nthL P p)[c p]) (h (nthL P p)[c p])
      · exact ih _ _ (H.take hS hpl hf hr hs (H.score_le hS _)) (by omega)
      · exact ih _ _ (H.reject hS hpl hf hr hs) (by omega)
theorem end_exists {P R : List (List Int)} (hS : sidesQ P R) : ∃ m, EndQ P R m := end_of hS _ _ _ (Inv.start P R) (Nat.le_refl _)

/-! ### Who is matched -/
theorem subset_len {α : Type} [DecidableEq α] {l k : List α} (hl : l.Nodup) (h : ∀ x ∈ l, x ∈ k) : l.length ≤ k.length := by
  induction l generalizing k with
  | nil => exact Nat.zero_le _
  | cons a l ih =>
    have ha : a ∈ k := h a (List.mem_cons_self ..)
    have hl' := List.nodup_cons.1 hl
    have h1 := ih (k := k.erase a) hl'.2 (fun x hx => (List.mem_erase_of_ne (fun e => hl'.1 (by rw [← e]; exact hx))).2 (h x (List.mem_cons_of_mem _ hx)))
    have h2 := List.length_erase_of_mem ha
    have h3 := List.length_pos_of_mem ha
    simp only [List.length_cons]
    omega
theorem subset_all {α : Type} [DecidableEq α] {l k : List α} (hl : l.Nodup) (h : ∀ x ∈ l, x ∈ k) (hle : k.length ≤ l.length) : ∀ x ∈ k, x ∈ l := by
  intro x hx
  by_cases hxl : x ∈ l
  · exact hxl
  · exfalso
    have h1 := subset_len (l := l) (k := k.erase x) hl (fun y hy => (List.mem_erase_of_ne (fun e => hxl (by rw [← e]; exact hy))).2 (h y hy))
    have h2 := List.length_erase_of_mem hx
    have h3 := List.length_pos_of_mem hx
    omega
/-- Who is matched. -/
def withQ (m : Nat → Int) (n : Nat) : List Nat := (List.range n).filter (fun p => m p != -1)
theorem mem_with {m : Nat → Int} {n p : Nat} : p ∈ withQ m n ↔ p < n ∧ m p ≠ -1 := by
  unfold withQ
  rw [List.mem_filter, List.mem_range]
  simp
theorem with_nodup (m : Nat → Int) (n : Nat) : (withQ m n).Nodup := List.Pairwise.filter _ List.nodup_range
theorem with_map_nodup {P R : List (List Int)} {m : Nat → Int} (h : StableF P R m) : ((withQ m P.length).map m).Nodup := by
  unfold List.Nodup
  rw [List.pairwise_map]
  refine List.Pairwise.imp_of_mem ?_ (with_nodup m P.length)
  intro a b ha hb hne he
  have h1 := mem_with.1 ha
  have h2 := mem_with.1 hb
  exact hne (h.inj a b h1.1 h2.1 he h1.2)
/-- In each matching that nobody blocks the same are matched, on both sides. -/
theorem rural {P R : List (List Int)} {m m' : Nat → Int} (hS : sidesQ P R) (h : EndQ P R m) (h' : StableF P R m') :
    (∀ p, p < P.length → (m p = -1 ↔ m' p = -1)) ∧ ∀ p, p < P.length → m' p ≠ -1 → ∃ q, q < P.length ∧ m q = m' p := by
  have hA : ∀ x ∈ withQ m' P.length, x ∈ withQ m P.length := by
    intro p hp
    obtain ⟨hp, hne⟩ := mem_with.1 hp
    refine mem_with.2 ⟨hp, fun e => ?_⟩
    have h1 := h.best m' h' p hp
    rcases h'.own p hp with e' | ⟨e', _⟩
    · exact hne e'
    · have := score_lt.2 e'
      rw [e, score_none (no_none (sides_P hS p).2)] at h1
      omega
  have hR : ∀ x ∈ (withQ m P.length).map m, x ∈ (withQ m' P.length).map m' := by
    intro r hr
    obtain ⟨p, hp, rfl⟩ := List.mem_map.1 hr
    obtain ⟨hp, hne⟩ := mem_with.1 hp
    have hown := h.stable.own p hp
    rcases hown with e | ⟨e1, e2⟩
    · exact absurd e hne
    by_cases he : m' p = m p
    · exact List.mem_map.2 ⟨p, mem_with.2 ⟨hp, by rw [he]; exact hne⟩, he⟩
    · have h1 := h.best m' h' p hp
      have hlt : scoreQ (nthL P p) (m p) < scoreQ (nthL P p) (m' p) := by
        rcases Nat.lt_or_ge (scoreQ (nthL P p) (m p)) (scoreQ (nthL P p) (m' p)) with h2 | h2
        · exact h2
        · exact absurd (score_inj e1 (by omega)) he
      obtain ⟨q, hq, hqr, _⟩ := h'.pair p hp (m p) hlt e2
      exact List.mem_map.2 ⟨q, mem_with.2 ⟨hq, by rw [hqr]; exact hne⟩, hqr⟩
  have l1 := subset_len (with_nodup m' P.length) hA
  have l2 := subset_len (with_map_nodup h.stable) hR
  rw [List.length_map, List.length_map] at l2
  have hB := subset_all (with_nodup m' P.length) hA (by omega)
  have hC := subset_all (with_map_nodup h.stable) hR (by rw [List.length_map, List.length_map]; omega)
  refine ⟨fun p hp => ⟨fun e => ?_, fun e => ?_⟩, fun p hp hne => ?_⟩
  · by_cases hne : m' p = -1
    · exact hne
    · exact absurd e (mem_with.1 (hA p (mem_with.2 ⟨hp, hne⟩))).2
  · by_cases hne : m p = -1
    · exact hne
    · exact absurd e (mem_with.1 (hB p (mem_with.2 ⟨hp, hne⟩))).2
  · obtain ⟨q, hq, hqe⟩ := List.mem_map.1 (hC (m' p) (List.mem_map.2 ⟨p, mem_with.2 ⟨hp, hne⟩, rfl⟩))
    exact ⟨q, (mem_with.1 hq).1, hqe⟩

/-! ### Another list -/
theorem nthL_set {P : List (List Int)} {p : Nat} {l : List Int} (q : Nat) (hp : p < P.length) : nthL (P.set p l) q = if q = p then l else nthL P q := by
  unfold nthL
  by_cases h : q = p
  · subst h
    rw [if_pos rfl, List.getElem?_set_self hp]; rfl
  · rw [if_neg h, List.getElem?_set_ne (fun e => h e.symm)]
theorem sides_set {P R : List (List Int)} {p : Nat} {l : List Int} (hS : sidesQ P R) (hl : listedQ R.length l = true) : sidesQ (P.set p l) R := by
  refine ⟨fun k hk => ?_, fun k hk => ?_⟩
  · rcases List.mem_or_eq_of_mem_set hk with h | h
    · exact hS.1 k h
    · rw [h]; exact hl
  · rw [List.length_set]; exact hS.2 k hk
theorem score_take {l : List Int} (hn : l.Nodup) {k : Nat} {x : Int} (hx : x ∈ l) (hk : scoreQ l x < k) : scoreQ (l.take k) x = scoreQ l x ∧ x ∈ l.take k := by
  have hg := score_get hx
  have hg' : (l.take k)[scoreQ l x]? = some x := by rw [List.getElem?_take, if_pos hk]; exact hg
  exact ⟨score_at (List.Pairwise.sublist (List.take_sublist k l) hn) hg', List.mem_of_getElem? hg'⟩
theorem truthQ {P R : List (List Int)} {p : Nat} {l : List Int} {m m' : Nat → Int} (hS : sidesQ P R) (hp : p < P.length) (h : EndQ P R m) (h' : EndQ (P.set p l) R m') :
    ¬ scoreQ (nthL P p) (m' p) < scoreQ (nthL P p) (m p) := by
  intro hlt
  obtain ⟨r, hr⟩ : ∃ r, r = m' p := ⟨_, rfl⟩
  rw [← hr] at hlt
  have hnP := sides_P hS p
  have hmle : scoreQ (nthL P p) (m p) ≤ (nthL P p).length := by
    rcases h.stable.own p hp with e | ⟨e, _⟩
    · rw [e, score_none (no_none hnP.2)]; exact Nat.le_refl _
    · exact Nat.le_of_lt (score_lt.2 e)
  have hrin : r ∈ nthL P p := score_lt.1 (by omega)
  have hrb := hnP.2 r hrin
  have hown' := h'.stable.own p (by rw [List.length_set]; exact hp)
  rw [← hr] at hown'
  have hacc : (p : Int) ∈ atL R r := by
    rcases hown' with e | ⟨_, e⟩
    · omega
    · exact e
  -- p wants r alone
  have hS1 : sidesQ (P.set p [r]) R := sides_set hS (listed_iff.2 ⟨by simp, fun x hx => by simp at hx; subst hx; exact hrb⟩)
  have hz : scoreQ [r] r = 0 := score_at (by simp) rfl
  have st1 : StableF (P.set p [r]) R m' := by
    refine ⟨fun q hq => ?_, fun a b ha hb => h'.stable.inj a b (by simpa using ha) (by simpa using hb), fun q hq s hs hacc' => ?_⟩
    · rw [nthL_set q hp]
      have h9 := h'.stable.own q (by simpa using hq)
      rw [nthL_set q hp] at h9
      by_cases e : q = p
      · subst e
        rw [if_pos rfl, ← hr]
        exact Or.inr ⟨by simp, hacc⟩
      · rw [if_neg e] at h9 ⊢; exact h9
    · rw [nthL_set q hp] at hs
      by_cases e : q = p
      · subst e
        rw [if_pos rfl, ← hr, hz] at hs
        omega
      · rw [if_neg e] at hs
        have h9 := h'.stable.pair q (by simpa using hq) s (by rw [nthL_set q hp, if_neg e]; exact hs) hacc'
        simpa using h9
  obtain ⟨m1, hm1⟩ := end_exists hS1
  have hm1r : m1 p = r := by
    have := hm1.best m' st1 p (by simpa using hp)
    rw [nthL_set p hp, if_pos rfl, ← hr, hz] at this
    have h9 : m1 p ∈ [r] := score_lt.1 (by simp only [List.length_singleton]; omega)
    simpa using h9
  -- p wants nothing behind r
  obtain ⟨T, hT⟩ : ∃ T, T = (nthL P p).take (scoreQ (nthL P p) r + 1) := ⟨_, rfl⟩
  have hTn : T.Nodup := by rw [hT]; exact List.Pairwise.sublist (List.take_sublist _ _) hnP.1
  have hTl : ∀ x ∈ T, x ∈ nthL P p ∧ scoreQ T x = scoreQ (nthL P p) x ∧ scoreQ (nthL P p) x ≤ scoreQ (nthL P p) r := by
    intro x hx
    have hxm : x ∈ nthL P p := by rw [hT] at hx; exact List.mem_of_mem_take hx
    obtain ⟨i, hi⟩ := List.getElem?_of_mem hx
    have hs := score_at hTn hi
    have hi' := hi
    rw [hT, List.getElem?_take] at hi
    split at hi
    · rename_i hlt9
      have hs2 := score_at hnP.1 hi
      exact ⟨hxm, by omega, by omega⟩
    · cases hi
  have hTin : ∀ x ∈ nthL P p, scoreQ (nthL P p) x ≤ scoreQ (nthL P p) r → scoreQ T x = scoreQ (nthL P p) x ∧ x ∈ T := by
    intro x hx hle
    rw [hT]
    exact score_take hnP.1 hx (by omega)
  have hS2 : sidesQ (P.set p T) R := sides_set hS (listed_iff.2 ⟨hTn, fun x hx => hnP.2 x (hTl x hx).1⟩)
  obtain ⟨n, hn⟩ := end_exists hS2
  by_cases hnp : n p = -1
  · -- then it stays alone where it wants r alone
    have st2 : StableF (P.set p [r]) R n := by
      refine ⟨fun q hq => ?_, fun a b ha hb => hn.stable.inj a b (by simpa using ha) (by simpa using hb), fun q hq s hs hacc' => ?_⟩
      · rw [nthL_set q hp]
        have h9 := hn.stable.own q (by simpa using hq)
        rw [nthL_set q hp] at h9
        by_cases e : q = p
        · subst e; exact Or.inl hnp
        · rw [if_neg e] at h9 ⊢; exact h9
      · rw [nthL_set q hp] at hs
        by_cases e : q = p
        · subst e
          rw [if_pos rfl, hnp, score_none (by simp; omega)] at hs
          have h8 : s ∈ [r] := score_lt.1 hs
          have h8 : s = r := by simpa using h8
          subst h8
          have h9 := hn.stable.pair q (by simpa using hq) s (by
            rw [nthL_set q hp, if_pos rfl, hnp, score_none (no_none (fun x hx => hnP.2 x (hTl x hx).1))]
            exact score_lt.2 (hTin s hrin (Nat.le_refl _)).2) hacc'
          simpa using h9
        · rw [if_neg e] at hs
          have h9 := hn.stable.pair q (by simpa using hq) s (by rw [nthL_set q hp, if_neg e]; exact hs) hacc'
          simpa using h9
    have h9 := ((rural hS1 hm1 st2).1 p (by simpa using hp)).2 hnp
    rw [hm1r] at h9
    omega
  · -- then it is a matching that is better for p by its own list
    have hin : n p ∈ T := by
      rcases hn.stable.own p (by simpa using hp) with e | ⟨e, _⟩
      · exact absurd e hnp
      · rw [nthL_set p hp, if_pos rfl] at e; exact e
    have st3 : StableF P R n := by
      refine ⟨fun q hq => ?_, fun a b ha hb => hn.stable.inj a b (by simpa using ha) (by simpa using hb), fun q hq s hs hacc' => ?_⟩
      · have h9 := hn.stable.own q (by simpa using hq)
        rw [nthL_set q hp] at h9
        by_cases e : q = p
        · subst e
          rw [if_pos rfl] at h9
          rcases h9 with h9 | ⟨h9, h8⟩
          · exact Or.inl h9
          · exact Or.inr ⟨(hTl _ h9).1, h8⟩
        · rw [if_neg e] at h9; exact h9
      · have h9 := hn.stable.pair q (by simpa using hq) s (by
          rw [nthL_set q hp]
          by_cases e : q = p
          · subst e
            rw [if_pos rfl]
            have h7 := hTl _ hin
            have h6 : s ∈ nthL P q := score_lt.1 (by have := score_lt.2 h7.1; omega)
            have h5 := hTin s h6 (by omega)
            omega
          · rw [if_neg e]; exact hs) hacc'
        simpa using h9
    have h9 := h.best n st3 p hp
    have h8 := (hTl _ hin).2.2
    omega
end Go.Proofs.Ytomnnickiljkgaa
