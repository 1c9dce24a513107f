/- Choosing one behind the other: truth, and that nothing else is better for one and worse for none. -/
import Derived.Test.YtomnnickiljkgaaIa
import Derived.Test.YtomnnickiljkgaaHp
namespace Go.Proofs.Ytomnnickiljkgaa
open Go.RowKit

theorem first_best {l : List Int} (hn : l.Nodup) {pb : Int → Bool} {x : Int} (hx : x ∈ l) (hp : pb x = true) : scoreQ l (firstQ l pb) ≤ scoreQ l x := by
  cases h : l.find? pb with
  | none =>
    rw [List.find?_eq_none] at h
    exact absurd hp (h x hx)
  | some y =>
    have hy : firstQ l pb = y := by unfold firstQ; rw [h]; rfl
    rw [hy]
    rw [List.find?_eq_some_iff_getElem] at h
    obtain ⟨_, i, hi, he, hno⟩ := h
    rw [score_at hn (i := i) (x := y) (by rw [List.getElem?_eq_getElem hi, he])]
    rcases Nat.lt_or_ge (scoreQ l x) i with hlt | hge
    · exfalso
      have h1 := hno _ hlt
      obtain ⟨h3, h4⟩ := List.getElem?_eq_some_iff.1 (score_get hx)
      rw [h4, hp] at h1
      simp at h1
    · exact hge
theorem ser_keep {W : List (List Int)} {order got : List Int} {n k : Nat} {a v : Int} (hn : order.Nodup) (hr : ∀ x ∈ order, 0 ≤ x ∧ x < (n : Int)) (ha : order[k]? = some a) (hv : (serL W (order.take (k + 1)) got)[a.toNat]? = some v) (d : Nat) :
    (serL W (order.take (k + 1 + d)) got)[a.toNat]? = some v := by
  induction d with
  | zero => exact hv
  | succ d ih =>
    cases hb : order[k + 1 + d]? with
    | none =>
      have hl := List.getElem?_eq_none_iff.1 hb
      rw [List.take_of_length_le (by omega)] at ih ⊢
      exact ih
    | some b =>
      rw [← Nat.add_assoc, serL_succ hb, List.getElem?_set_ne, ih]
      intro e
      have ha0 := hr a (List.mem_of_getElem? ha)
      have hb0 := hr b (List.mem_of_getElem? hb)
      obtain rfl : b = a := by omega
      unfold List.Nodup at hn
      rw [List.pairwise_iff_getElem] at hn
      obtain ⟨h1, h2⟩ := List.getElem?_eq_some_iff.1 ha
      obtain ⟨h3, h4⟩ := List.getElem?_eq_some_iff.1 hb
      exact hn k (k + 1 + d) h1 h3 (by omega) (h2.trans h4.symm)
theorem ser_entry {W : List (List Int)} {order : List Int} {n k : Nat} {a : Int} (hn : order.Nodup) (hr : ∀ x ∈ order, 0 ≤ x ∧ x < (n : Int)) (ha : order[k]? = some a) :
    nthI (serL W order (List.replicate n (-1))) a.toNat = firstQ (atL W a) (fun x => !(serL W (order.take k) (List.replicate n (-1))).contains x) := by
  have ha0 := hr a (List.mem_of_getElem? ha)
  have hk := (List.getElem?_eq_some_iff.1 ha).1
  have h1 : (serL W (order.take (k + 1)) (List.replicate n (-1)))[a.toNat]? = some (firstQ (atL W a) (fun x => !(serL W (order.take k) (List.replicate n (-1))).contains x)) := by
    rw [serL_succ ha, List.getElem?_set_self (by rw [serL_len, List.length_replicate]; omega)]
  have h2 := ser_keep hn hr ha h1 (order.length - (k + 1))
  rw [List.take_of_length_le (by omega)] at h2
  exact nthI_some h2
theorem ser_mem {W : List (List Int)} {order : List Int} {n k : Nat} {x : Int} (hn : order.Nodup) (hr : ∀ x ∈ order, 0 ≤ x ∧ x < (n : Int)) (hx : x ∈ serL W (order.take k) (List.replicate n (-1))) :
    x = -1 ∨ ∃ j a, j < k ∧ order[j]? = some a ∧ x = nthI (serL W order (List.replicate n (-1))) a.toNat := by
  induction k with
  | zero => left; exact List.eq_of_mem_replicate (by simpa [serL] using hx)
  | succ k ih =>
    cases hb : order[k]? with
    | none =>
      have hl := List.getElem?_eq_none_iff.1 hb
      rw [List.take_of_length_le (by omega)] at hx ih
      rcases ih hx with e | ⟨j, a, h1, h2, h3⟩
      · exact Or.inl e
      · exact Or.inr ⟨j, a, by omega, h2, h3⟩
    | some b =>
      rw [serL_succ hb] at hx
      rcases List.mem_or_eq_of_mem_set hx with e | e
      · rcases ih e with e | ⟨j, a, h1, h2, h3⟩
        · exact Or.inl e
        · exact Or.inr ⟨j, a, by omega, h2, h3⟩
      · exact Or.inr ⟨k, b, by omega, hb, by rw [e, ser_entry hn hr hb]⟩
theorem nthL_set_ne {W : List (List Int)} {p i : Nat} {l : List Int} (h : i ≠ p) : nthL (W.set p l) i = nthL W i := by
  unfold nthL
  rw [List.getElem?_set_ne (fun e => h e.symm)]
theorem nthL_set_self {W : List (List Int)} {p : Nat} {l : List Int} (h : p < W.length) : nthL (W.set p l) p = l := by
  unfold nthL
  rw [List.getElem?_set_self h]; rfl
theorem ser_set {W : List (List Int)} {p : Nat} {l : List Int} {order got : List Int} (h : ∀ x ∈ order, x.toNat ≠ p) : serL (W.set p l) order got = serL W order got := by
  induction order generalizing got with
  | nil => rfl
  | cons a t ih =>
    have e : ∀ V : List (List Int), serL V (a :: t) got = serL V t (got.set a.toNat (firstQ (atL V a) (fun x => !got.contains x))) := fun _ => rfl
    rw [e, e, ih (fun x hx => h x (List.mem_cons_of_mem _ hx))]
    have : atL (W.set p l) a = atL W a := nthL_set_ne (h a (List.mem_cons_self ..))
    rw [this]
theorem order_has {order : List Int} {n p : Nat} (hl : order.length = n) (hn : order.Nodup) (hr : ∀ x ∈ order, 0 ≤ x ∧ x < (n : Int)) (hp : p < n) : ∃ k : Nat, order[k]? = some (p : Int) := by
  refine List.getElem?_of_mem (subset_all (k := (List.range n).map (fun i : Nat => (i : Int))) hn (fun x hx => ?_) (by rw [List.length_map, List.length_range]; omega) _ (List.mem_map.2 ⟨p, List.mem_range.2 hp, rfl⟩))
  have := hr x hx
  exact List.mem_map.2 ⟨x.toNat, List.mem_range.2 (by omega), by omega⟩
theorem okLists_listed {n : Nat} {W : List (List Int)} (h : okLists n false W = true) {i : Nat} (hi : i < W.length) : (nthL W i).Nodup ∧ ∀ x ∈ nthL W i, 0 ≤ x ∧ x < (n : Int) := by
  have h9 := okLists_nth h hi
  rw [okL_false] at h9
  exact listed_iff.1 h9
theorem ser_true {W : List (List Int)} {order g o l : List Int} {z : Int} {p : Nat} (hp : p < W.length) (he : errZ order W z = 0) (hf : errZ order (W.set p l) z = 0) (hg : SerA order W z g) (ho : SerA order (W.set p l) z o) :
    g.length = W.length ∧ o.length = W.length ∧ ¬ scoreQ (nthL W p) (nthI o p) < scoreQ (nthL W p) (nthI g p) := by
  obtain ⟨-, -, -, h4, h5, h6⟩ := errZ_ok he
  obtain ⟨hn, hr⟩ := listed_iff.1 h6
  obtain ⟨k, hk⟩ := order_has h5 hn hr hp
  obtain rfl := hg.1 he
  obtain rfl := ho.1 hf
  rw [List.length_set]
  refine ⟨by rw [serL_len, List.length_replicate], by rw [serL_len, List.length_replicate], fun hlt => ?_⟩
  have e1 := ser_entry (W := W) hn hr hk
  have e2 := ser_entry (W := W.set p l) hn hr hk
  rw [Int.toNat_natCast] at e1 e2
  have hfr : ∀ x ∈ order.take k, x.toNat ≠ p := by
    intro x hx e
    obtain ⟨j, hj⟩ := List.getElem?_of_mem hx
    rw [List.getElem?_take] at hj
    split at hj
    · rename_i hjk
      have hx0 := hr x (List.mem_of_getElem? hj)
      obtain rfl : x = (p : Int) := by omega
      unfold List.Nodup at hn
      rw [List.pairwise_iff_getElem] at hn
      obtain ⟨h1, h2⟩ := List.getElem?_eq_some_iff.1 hj
      obtain ⟨h3, h7⟩ := List.getElem?_eq_some_iff.1 hk
      exact hn j k h1 h3 hjk (h2.trans h7.symm)
    · cases hj
  rw [ser_set hfr] at e2
  obtain ⟨hWn, hWr⟩ := okLists_listed h4 hp
  have hm1 : -1 ∉ nthL W p := fun h => by have := hWr _ h; omega
  rw [e1] at hlt
  obtain ⟨y, hy⟩ : ∃ y, y = nthI (serL (W.set p l) order (List.replicate W.length (-1))) p := ⟨_, rfl⟩
  rw [← hy] at hlt e2
  have hle : scoreQ (nthL W p) (firstQ (atL W (p : Int)) (fun x => !(serL W (order.take k) (List.replicate W.length (-1))).contains x)) ≤ (nthL W p).length := by
    rcases first_mem (l := atL W (p : Int)) (pb := fun x => !(serL W (order.take k) (List.replicate W.length (-1))).contains x) with e | ⟨e, _⟩
    · rw [e, score_none hm1]; exact Nat.le_refl _
    · exact Nat.le_of_lt (score_lt.2 e)
  have hyin : y ∈ nthL W p := score_lt.1 (by omega)
  have hyc : (!(serL W (order.take k) (List.replicate W.length (-1))).contains y) = true := by
    rcases first_mem (l := atL (W.set p l) (p : Int)) (pb := fun x => !(serL W (order.take k) (List.replicate W.length (-1))).contains x) with e | ⟨_, e⟩
    · exfalso
      rw [e] at e2
      rw [e2] at hyin
      exact hm1 hyin
    · rw [← e2] at e
      exact e
  have := first_best (l := nthL W p) (pb := fun x => !(serL W (order.take k) (List.replicate W.length (-1))).contains x) hWn hyin hyc
  rw [atL_nat] at hlt
  omega
theorem ser_pareto {W : List (List Int)} {order g o : List Int} {z : Int} {nr : Nat} (he : errZ order W z = 0) (hg : SerA order W z g) (hm : matQ W.length nr o = true)
    (hw : ∀ i, i < W.length → ¬ scoreQ (nthL W i) (nthI g i) < scoreQ (nthL W i) (nthI o i)) : ∀ i, i < W.length → ¬ scoreQ (nthL W i) (nthI o i) < scoreQ (nthL W i) (nthI g i) := by
  obtain ⟨-, -, -, h4, h5, h6⟩ := errZ_ok he
  obtain ⟨hn, hr⟩ := listed_iff.1 h6
  obtain rfl := hg.1 he
  obtain ⟨m1, m2, m3⟩ := matQ_parts hm
  have key : ∀ (K k : Nat) (a : Int), k < K → order[k]? = some a → scoreQ (atL W a) (nthI o a.toNat) = scoreQ (atL W a) (nthI (serL W order (List.replicate W.length (-1))) a.toNat) := by
    intro K
    induction K with
    | zero => intro k a hk; omega
    | succ K ih =>
      intro k a hk ha
      by_cases hkK : k < K
      · exact ih k a hkK ha
      obtain rfl : k = K := by omega
      have ha0 := hr a (List.mem_of_getElem? ha)
      have haW : a.toNat < W.length := by omega
      have h1 := hw a.toNat haW
      obtain ⟨hWn, hWr⟩ := okLists_listed h4 haW
      have hm1 : -1 ∉ nthL W a.toNat := fun h => by have := hWr _ h; omega
      have e1 := ser_entry (W := W) hn hr ha
      rcases Nat.lt_or_ge (scoreQ (nthL W a.toNat) (nthI o a.toNat)) (scoreQ (nthL W a.toNat) (nthI (serL W order (List.replicate W.length (-1))) a.toNat)) with hlt | hge
      · exfalso
        have hle : scoreQ (nthL W a.toNat) (nthI (serL W order (List.replicate W.length (-1))) a.toNat) ≤ (nthL W a.toNat).length := by
          rw [e1]
          rcases first_mem (l := atL W a) (pb := fun x => !(serL W (order.take k) (List.replicate W.length (-1))).contains x) with e | ⟨e, _⟩
          · rw [e, score_none hm1]; exact Nat.le_refl _
          · exact Nat.le_of_lt (score_lt.2 e)
        have hyin : nthI o a.toNat ∈ nthL W a.toNat := score_lt.1 (by omega)
        have hy0 := hWr _ hyin
        have hyc : (serL W (order.take k) (List.replicate W.length (-1))).contains (nthI o a.toNat) = false := by
          cases hc : (serL W (order.take k) (List.replicate W.length (-1))).contains (nthI o a.toNat) with
          | false => rfl
          | true =>
            exfalso
            rcases ser_mem hn hr (List.contains_iff_mem.1 hc) with e | ⟨j, b, hj, hb, e⟩
            · omega
            · have hb0 := hr b (List.mem_of_getElem? hb)
              have e3 := ih j b hj hb
              have e4 := ser_entry (W := W) hn hr hb
              have hbin : nthI (serL W order (List.replicate W.length (-1))) b.toNat ∈ nthL W b.toNat := by
                rcases first_mem (l := atL W b) (pb := fun x => !(serL W (order.take j) (List.replicate W.length (-1))).contains x) with e9 | ⟨e9, _⟩
                · rw [e9] at e4; omega
                · rw [e4]; exact e9
              have e5 := score_inj hbin e3
              have e6 := m3 b.toNat a.toNat _ (nthI_get (by omega)) (by rw [e5, ← e]; exact nthI_get (by omega)) (by omega)
              obtain rfl : b = a := by omega
              unfold List.Nodup at hn
              rw [List.pairwise_iff_getElem] at hn
              obtain ⟨h1, h2⟩ := List.getElem?_eq_some_iff.1 ha
              obtain ⟨h3, h7⟩ := List.getElem?_eq_some_iff.1 hb
              exact hn j k h3 h1 hj (h7.trans h2.symm)
        have := first_best (l := nthL W a.toNat) hWn (pb := fun x => !(serL W (order.take k) (List.replicate W.length (-1))).contains x) hyin (by simp only [hyc]; rfl)
        rw [e1] at hlt
        have e7 : atL W a = nthL W a.toNat := rfl
        rw [e7] at hlt
        omega
      · have e7 : atL W a = nthL W a.toNat := rfl
        rw [e7]
        omega
  intro i hi hlt
  obtain ⟨k, hk⟩ := order_has h5 hn hr hi
  have := key (k + 1) k _ (Nat.lt_succ_self _) hk
  rw [Int.toNat_natCast, atL_nat] at this
  omega
end Go.Proofs.Ytomnnickiljkgaa
